"""Quicksorts that do not go on everywhere, and what they do."""
