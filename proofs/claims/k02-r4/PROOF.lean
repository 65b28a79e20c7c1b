import PyProof.Rows.All
import Wide.All
import OpenK.AllK
import Wide.FinOn
import HandS.ForMost
import HandS.Lambda
import HandS.Style
import HandS.Zip
import HandS.IsInst
import KE.KUnpackStar
import HandS.Conv
import HandS.Wide
import HandS.Defaults
import HandS.Iter
import HandS.Deep
import HandS.SortInts
import KE.KExcIs
import HandS.ExcIs
import HandS.ExcField
import HandS.ExcInit
import HandS.ExcOwn
import HandS.WordsExc
import PyProof.Draws
import PyProof.StrOps2
import PySem.Challenge.RW_halfquick_k02_words_and_pivots
set_option Elab.async false
set_option linter.all false
set_option maxRecDepth 100000
set_option maxHeartbeats 4000000
namespace KM
/-! mathematics of passes: lists of things with a key -/
abbrev Plan := List (Option Nat × Option Nat)
def atP (pl : Plan) (q : Nat) : Option Nat × Option Nat := pl.getD q (none, none)
section
variable {α : Type} (key : α → Int) (pl : Plan)
/-- what a part leaves; s: strict -/
def cg (s : Bool) : Nat → Option Nat → List α → List α
  | n + 1, some q, p :: ps => cg s n (atP pl q).1 (ps.filter fun x => decide (key x < key p)) ++ [p] ++
      cg s n (atP pl q).2 (ps.filter fun x => if s then decide (key p < key x) else decide (key p ≤ key x))
  | _, _, ps => ps
/-- what becomes a pivot -/
def mk : Nat → Option Nat → List α → List α
  | n + 1, some q, p :: ps => p :: (mk n (atP pl q).1 (ps.filter fun x => decide (key x < key p)) ++ mk n (atP pl q).2 (ps.filter fun x => decide (key p ≤ key x)))
  | _, _, _ => []
variable {key pl}
@[simp] theorem cg_none {s : Bool} {n : Nat} {ps : List α} : cg key pl s n none ps = ps := by cases n <;> simp [cg]
@[simp] theorem cg_nil {s : Bool} {n : Nat} {e : Option Nat} : cg key pl s n e [] = [] := by cases n <;> cases e <;> simp [cg]
@[simp] theorem mk_none {n : Nat} {ps : List α} : mk key pl n none ps = [] := by cases n <;> simp [mk]
@[simp] theorem mk_nil {n : Nat} {e : Option Nat} : mk key pl n e [] = [] := by cases n <;> cases e <;> simp [mk]
theorem cg_cons {s : Bool} {n q : Nat} {p : α} {ps : List α} : cg key pl s (n + 1) (some q) (p :: ps) = cg key pl s n (atP pl q).1 (ps.filter fun x => decide (key x < key p)) ++ [p] ++
      cg key pl s n (atP pl q).2 (ps.filter fun x => if s then decide (key p < key x) else decide (key p ≤ key x)) := by simp only [cg]
theorem mk_cons {n q : Nat} {p : α} {ps : List α} : mk key pl (n + 1) (some q) (p :: ps) = p :: (mk key pl n (atP pl q).1 (ps.filter fun x => decide (key x < key p)) ++ mk key pl n (atP pl q).2 (ps.filter fun x => decide (key p ≤ key x))) := by simp only [mk]
theorem cg_map {β : Type} (g : β → α) {s : Bool} : ∀ (n : Nat) (e : Option Nat) (ps : List β), cg key pl s n e (ps.map g) = (cg (fun x => key (g x)) pl s n e ps).map g
  | 0, e, ps => by simp [cg]
  | n + 1, none, ps => by simp [cg]
  | n + 1, some q, [] => by simp [cg]
  | n + 1, some q, p :: ps => by
    rw [List.map_cons, cg_cons, cg_cons, List.map_append, List.map_append, List.filter_map, List.filter_map, cg_map g n, cg_map g n]
    rfl
theorem mk_map {β : Type} (g : β → α) : ∀ (n : Nat) (e : Option Nat) (ps : List β), mk key pl n e (ps.map g) = (mk (fun x => key (g x)) pl n e ps).map g
  | 0, e, ps => by simp [mk]
  | n + 1, none, ps => by simp [mk]
  | n + 1, some q, [] => by simp [mk]
  | n + 1, some q, p :: ps => by
    rw [List.map_cons, mk_cons, mk_cons, List.map_cons, List.map_append, List.filter_map, List.filter_map, mk_map g n, mk_map g n]
    rfl
theorem cg_mem {s : Bool} {x : α} : ∀ (n : Nat) (e : Option Nat) (ps : List α), x ∈ cg key pl s n e ps → x ∈ ps
  | 0, e, ps, h => by simpa [cg] using h
  | n + 1, none, ps, h => by simpa [cg] using h
  | n + 1, some q, [], h => by simp [cg] at h
  | n + 1, some q, p :: ps, h => by
    rw [cg_cons, List.append_assoc, List.mem_append, List.mem_append] at h
    rcases h with h | h | h
    · exact List.mem_cons_of_mem _ (List.mem_filter.mp (cg_mem n _ _ h)).1
    · rw [List.mem_singleton.mp h]
      exact List.mem_cons_self ..
    · exact List.mem_cons_of_mem _ (List.mem_filter.mp (cg_mem n _ _ h)).1
theorem mk_mem {x : α} : ∀ (n : Nat) (e : Option Nat) (ps : List α), x ∈ mk key pl n e ps → x ∈ ps
  | 0, e, ps, h => by simp [mk] at h
  | n + 1, none, ps, h => by simp [mk] at h
  | n + 1, some q, [], h => by simp [mk] at h
  | n + 1, some q, p :: ps, h => by
    rw [mk_cons, List.mem_cons, List.mem_append] at h
    rcases h with h | h | h
    · rw [h]
      exact List.mem_cons_self ..
    · exact List.mem_cons_of_mem _ (List.mem_filter.mp (mk_mem n _ _ h)).1
    · exact List.mem_cons_of_mem _ (List.mem_filter.mp (mk_mem n _ _ h)).1
end
/-! ### without doublets -/
def once : List Int → List Int
  | [] => []
  | v :: r => v :: (once r).filter fun x => decide (x ≠ v)
theorem once_filter (t : Int → Bool) : ∀ r : List Int, once (r.filter t) = (once r).filter t
  | [] => rfl
  | v :: r => by
    have ih := once_filter t r
    by_cases h : t v = true
    · rw [List.filter_cons_of_pos h, once, once, List.filter_cons_of_pos h, ih, List.filter_filter, List.filter_filter]
      congr 2
      funext x
      rw [Bool.and_comm]
    · rw [List.filter_cons_of_neg h, once, List.filter_cons_of_neg h, ih, List.filter_filter]
      apply List.filter_congr
      intro x _
      by_cases hx : x = v
      · rw [hx]
        simp [h]
      · simp [hx]
theorem once_mem {x : Int} : ∀ {r : List Int}, x ∈ once r ↔ x ∈ r
  | [] => Iff.rfl
  | v :: r => by
    rw [once, List.mem_cons, List.mem_cons, List.mem_filter, once_mem (r := r)]
    by_cases h : x = v <;> simp [h]
theorem once_app {a b : List Int} (h : ∀ x ∈ a, x ∉ b) : once (a ++ b) = once a ++ once b := by
  induction a with
  | nil => rfl
  | cons v r ih =>
    have ih' := ih fun x hx => h x (List.mem_cons_of_mem _ hx)
    rw [List.cons_append, once, once, ih', List.filter_append, List.cons_append]
    congr 2
    apply List.filter_eq_self.mpr
    intro x hx
    have : v ∉ b := h v (List.mem_cons_self ..)
    simp only [decide_eq_true_eq]
    rintro rfl
    exact this (once_mem.mp hx)
/-- without doublets a strict pass leaves what the plan leaves of the list without doublets -/
theorem once_strict (pl : Plan) : ∀ (n : Nat) (e : Option Nat) (vs : List Int), once (cg id pl true n e vs) = cg id pl false n e (once vs)
  | 0, e, vs => by simp [cg]
  | n + 1, none, vs => by simp
  | n + 1, some q, [] => by simp [once]
  | n + 1, some q, v :: r => by
    rw [once, cg_cons, cg_cons, once_app, once_app, once_strict pl n, once_strict pl n]
    · have e1 : (once r).filter (fun x => decide (x < v)) = (((once r).filter fun x => decide (x ≠ v)).filter fun x => decide (id x < id v)) := by
        rw [List.filter_filter]
        apply List.filter_congr
        intro x _
        by_cases hx : x < v
        · have : x ≠ v := by omega
          simp [hx, this]
        · simp [hx]
      have e2 : (once r).filter (fun x => decide (v < x)) = (((once r).filter fun x => decide (x ≠ v)).filter fun x => decide (id v ≤ id x)) := by
        rw [List.filter_filter]
        apply List.filter_congr
        intro x _
        by_cases hx : v < x
        · have h1 : x ≠ v := by omega
          have h2 : v ≤ x := by omega
          simp [hx, h1, h2]
        · by_cases h1 : x = v
          · simp [h1]
          · have h2 : ¬ v ≤ x := by omega
            simp [hx, h1, h2]
      rw [once_filter, once_filter]
      simp only [id, if_true, Bool.false_eq_true, if_false] at e1 e2 ⊢
      rw [e1, e2]
      rfl
    · intro x hx hv
      have := (List.mem_filter.mp (cg_mem _ _ _ hx)).2
      rw [List.mem_singleton.mp hv] at this
      simp at this
    · intro x hx hy
      have h2 := (List.mem_filter.mp (cg_mem _ _ _ hy)).2
      simp only [id, if_true, decide_eq_true_eq] at h2
      rcases List.mem_append.mp hx with hx | hx
      · have h1 := (List.mem_filter.mp (cg_mem _ _ _ hx)).2
        simp only [id, decide_eq_true_eq] at h1
        omega
      · rw [List.mem_singleton.mp hx] at h2
        omega
/-- what a strict pass loses -/
theorem strict_keeps (pl : Plan) : ∀ (n : Nat) (e : Option Nat) (A B : List (Int × Nat)) (x : Int × Nat), (∀ y ∈ A ++ B, y.2 ≠ x.2) → (A ++ x :: B).length ≤ n →
    (x ∈ cg Prod.fst pl true n e (A ++ x :: B) ↔ ¬ (x.1 ∈ A.map (·.1) ∧ x.1 ∈ mk id pl n e (once ((A ++ x :: B).map (·.1)))))
  | 0, e, A, B, x, _, h => by simp at h
  | n + 1, none, A, B, x, _, _ => by simp
  | n + 1, some q, [], B, x, _, _ => by simp [cg_cons]
  | n + 1, some q, y :: A, B, x, hd, hn => by
    have hd' : ∀ z ∈ A ++ B, z.2 ≠ x.2 := fun z hz => hd z (List.mem_cons_of_mem _ hz)
    have hxy : x ≠ y := fun e => hd y (List.mem_cons_self ..) (by rw [e])
    have hl : (A ++ x :: B).length ≤ n := by
      simp only [List.cons_append, List.length_cons] at hn
      omega
    have split : ∀ t : Int × Nat → Bool, t x = true → (A ++ x :: B).filter t = A.filter t ++ x :: B.filter t := fun t ht => by
      rw [List.filter_append, List.filter_cons_of_pos ht]
    have dd : ∀ t : Int × Nat → Bool, ∀ z ∈ A.filter t ++ B.filter t, z.2 ≠ x.2 := fun t z hz => by
      rw [← List.filter_append] at hz
      exact hd' z (List.mem_filter.mp hz).1
    have ll : ∀ t : Int × Nat → Bool, t x = true → (A.filter t ++ x :: B.filter t).length ≤ n := fun t ht => by
      rw [← split t ht]
      exact Nat.le_trans (List.length_filter_le _ _) hl
    have vals : ∀ t : Int → Bool, ((A ++ x :: B).filter fun z => t z.1).map (·.1) = ((A ++ x :: B).map (·.1)).filter t := fun t => by
      rw [List.filter_map]
      rfl
    have hm : mk id pl (n + 1) (some q) (once (((y :: A) ++ x :: B).map (·.1))) = y.1 :: (mk id pl n (atP pl q).1 (once (((A ++ x :: B).filter fun z => decide (z.1 < y.1)).map (·.1))) ++ mk id pl n (atP pl q).2 (once (((A ++ x :: B).filter fun z => decide (y.1 < z.1)).map (·.1)))) := by
      rw [List.cons_append, List.map_cons, once, mk_cons, vals fun v => decide (v < y.1), vals fun v => decide (y.1 < v), once_filter, once_filter, List.filter_filter, List.filter_filter]
      congr 2
      · congr 1
        apply List.filter_congr
        intro v _
        by_cases hv : v < y.1
        · have : v ≠ y.1 := by omega
          simp [hv, this]
        · simp [hv]
      · congr 1
        apply List.filter_congr
        intro v _
        by_cases hv : y.1 < v
        · have h1 : v ≠ y.1 := by omega
          have h2 : y.1 ≤ v := by omega
          simp [hv, h1, h2]
        · by_cases h1 : v = y.1
          · simp [h1]
          · have h2 : ¬ y.1 ≤ v := by omega
            simp [hv, h1, h2]
    rw [hm, List.cons_append, cg_cons]
    simp only [if_true]
    rw [List.append_assoc, List.mem_append, List.mem_append, List.mem_singleton, List.map_cons, List.mem_cons, List.mem_cons, List.mem_append]
    have inLow : x.1 < y.1 ∨ ¬ x.1 < y.1 := by omega
    have lowOnly : ∀ {m : Nat} {e : Option Nat}, x ∈ cg Prod.fst pl true m e ((A ++ x :: B).filter fun z => decide (z.1 < y.1)) → x.1 < y.1 := fun h => by
      have := (List.mem_filter.mp (cg_mem _ _ _ h)).2
      simpa using this
    have hiOnly : ∀ {m : Nat} {e : Option Nat}, x ∈ cg Prod.fst pl true m e ((A ++ x :: B).filter fun z => decide (y.1 < z.1)) → y.1 < x.1 := fun h => by
      have := (List.mem_filter.mp (cg_mem _ _ _ h)).2
      simpa using this
    have mLow : ∀ {m : Nat} {e : Option Nat}, x.1 ∈ mk id pl m e (once (((A ++ x :: B).filter fun z => decide (z.1 < y.1)).map (·.1))) → x.1 < y.1 := fun h => by
      have h1 := once_mem.mp (mk_mem _ _ _ h)
      rw [vals fun v => decide (v < y.1)] at h1
      simpa using (List.mem_filter.mp h1).2
    have mHi : ∀ {m : Nat} {e : Option Nat}, x.1 ∈ mk id pl m e (once (((A ++ x :: B).filter fun z => decide (y.1 < z.1)).map (·.1))) → y.1 < x.1 := fun h => by
      have h1 := once_mem.mp (mk_mem _ _ _ h)
      rw [vals fun v => decide (y.1 < v)] at h1
      simpa using (List.mem_filter.mp h1).2
    have preA : ∀ t : Int → Bool, t x.1 = true → (x.1 ∈ (A.filter fun z => t z.1).map (·.1) ↔ x.1 ∈ A.map (·.1)) := fun t ht => by
      have e : (A.filter fun z => t z.1).map (·.1) = (A.map (·.1)).filter t := by
        rw [List.filter_map]
        rfl
      rw [e, List.mem_filter]
      simp [ht]
    rcases Int.lt_trichotomy x.1 y.1 with h | h | h
    · have tx : (fun z : Int × Nat => decide (z.1 < y.1)) x = true := decide_eq_true h
      have ih := strict_keeps pl n (atP pl q).1 (A.filter fun z => decide (z.1 < y.1)) (B.filter fun z => decide (z.1 < y.1)) x (dd _) (ll _ tx)
      rw [← split _ tx, preA (fun v => decide (v < y.1)) (decide_eq_true h)] at ih
      constructor
      · rintro (c | c | c)
        · rintro ⟨a1, a2⟩
          refine ih.mp c ⟨a1.resolve_left (by omega), ?_⟩
          rcases a2 with a2 | a2 | a2
          · omega
          · exact a2
          · have := mHi a2
            omega
        · exact (hxy c).elim
        · have := hiOnly c
          omega
      · intro c
        refine .inl (ih.mpr fun ⟨a1, a2⟩ => c ⟨.inr a1, .inr (.inl a2)⟩)
    · constructor
      · rintro (c | c | c)
        · have := lowOnly c
          omega
        · exact (hxy c).elim
        · have := hiOnly c
          omega
      · intro c
        exact (c ⟨.inl h, .inl h⟩).elim
    · have tx : (fun z : Int × Nat => decide (y.1 < z.1)) x = true := decide_eq_true h
      have ih := strict_keeps pl n (atP pl q).2 (A.filter fun z => decide (y.1 < z.1)) (B.filter fun z => decide (y.1 < z.1)) x (dd _) (ll _ tx)
      rw [← split _ tx, preA (fun v => decide (y.1 < v)) (decide_eq_true h)] at ih
      constructor
      · rintro (c | c | c)
        · have := lowOnly c
          omega
        · exact (hxy c).elim
        · rintro ⟨a1, a2⟩
          refine ih.mp c ⟨a1.resolve_left (by omega), ?_⟩
          rcases a2 with a2 | a2 | a2
          · omega
          · have := mLow a2
            omega
          · exact a2
      · intro c
        exact .inr (.inr (ih.mpr fun ⟨a1, a2⟩ => c ⟨.inr a1, .inr (.inr a2)⟩))
/-! ### rows of steps -/
def outB (low high : Option Int) (v : Int) : Bool := (match low with | none => false | some l => decide (v < l)) || (match high with | none => false | some h => decide (h ≤ v))
def inB (low high : Option Int) (z : Int × Nat) : Bool := !outB low high z.1
def wordF (own : Int) : Option Int → Option Int → List Int → List Bool
  | _, _, [] => []
  | low, high, v :: r => if outB low high v then wordF own low high r else if own < v then true :: wordF own low (some v) r else false :: wordF own (some v) high r
def goesF (pl : Plan) : Option Nat → List Bool → Bool
  | e, [] => e.isSome
  | none, _ :: _ => false
  | some q, b :: w => goesF pl (if b then (atP pl q).1 else (atP pl q).2) w
theorem inB_low {low high : Option Int} {v : Int} (h : outB low high v = false) (l : List (Int × Nat)) : (l.filter (inB low high)).filter (fun z => decide (z.1 < v)) = l.filter (inB low (some v)) := by
  rw [List.filter_filter]
  apply List.filter_congr
  intro z _
  rw [Bool.eq_iff_iff]
  unfold inB
  rcases low with _ | a <;> rcases high with _ | b <;> simp only [outB, Bool.and_eq_true, Bool.not_eq_true', Bool.or_eq_false_iff, decide_eq_true_eq, decide_eq_false_iff_not, true_and, and_true] at h ⊢ <;> omega
theorem inB_high {low high : Option Int} {v : Int} (h : outB low high v = false) (l : List (Int × Nat)) : (l.filter (inB low high)).filter (fun z => decide (v ≤ z.1)) = l.filter (inB (some v) high) := by
  rw [List.filter_filter]
  apply List.filter_congr
  intro z _
  rw [Bool.eq_iff_iff]
  unfold inB
  rcases low with _ | a <;> rcases high with _ | b <;> simp only [outB, Bool.and_eq_true, Bool.not_eq_true', Bool.or_eq_false_iff, decide_eq_true_eq, decide_eq_false_iff_not, true_and, and_true] at h ⊢ <;> omega
theorem goes_mk (pl : Plan) (x : Int × Nat) : ∀ (pre post : List (Int × Nat)) (low high : Option Int) (n : Nat) (e : Option Nat), (∀ z ∈ pre ++ post, z.2 ≠ x.2) → outB low high x.1 = false → (pre.filter (inB low high) ++ x :: post.filter (inB low high)).length ≤ n →
    (x ∈ mk Prod.fst pl n e (pre.filter (inB low high) ++ x :: post.filter (inB low high)) ↔ goesF pl e (wordF x.1 low high (pre.map (·.1))) = true)
  | [], post, low, high, n, e, hd, hx, hn => by
    obtain ⟨m, rfl⟩ : ∃ m, n = m + 1 := ⟨n - 1, by simp at hn; omega⟩
    cases e with
    | none => simp [wordF, goesF]
    | some q => simp [wordF, goesF, mk_cons]
  | v :: pre, post, low, high, n, e, hd, hx, hn => by
    have hd' : ∀ z ∈ pre ++ post, z.2 ≠ x.2 := fun z hz => hd z (List.mem_cons_of_mem _ hz)
    have hxv : x ≠ v := fun e => hd v (List.mem_cons_self ..) (by rw [e])
    cases ho : outB low high v.1 with
    | true =>
      have hb : inB low high v = false := by unfold inB; rw [ho]; rfl
      rw [List.filter_cons_of_neg (by rw [hb]; exact Bool.false_ne_true)] at hn ⊢
      rw [List.map_cons, wordF, if_pos ho]
      exact goes_mk pl x pre post low high n e hd' hx hn
    | false =>
      have hb : inB low high v = true := by unfold inB; rw [ho]; rfl
      rw [List.filter_cons_of_pos hb] at hn ⊢
      rw [List.map_cons, wordF, if_neg (by rw [ho]; exact Bool.false_ne_true), List.cons_append]
      have hl : (pre.filter (inB low high) ++ x :: post.filter (inB low high)).length ≤ n - 1 := by
        rw [List.cons_append, List.length_cons] at hn
        omega
      cases e with
      | none =>
        rw [mk_none]
        split <;> simp [goesF]
      | some q =>
        obtain ⟨m, rfl⟩ : ∃ m, n = m + 1 := ⟨n - 1, by rw [List.cons_append, List.length_cons] at hn; omega⟩
        rw [mk_cons, List.mem_cons, List.mem_append]
        have le : ∀ t : Int × Nat → Bool, ((pre.filter (inB low high) ++ x :: post.filter (inB low high)).filter t).length ≤ m := fun t => Nat.le_trans (List.length_filter_le _ _) (by omega)
        by_cases h : x.1 < v.1
        · rw [if_pos h, goesF, if_pos rfl]
          have e1 : (pre.filter (inB low high) ++ x :: post.filter (inB low high)).filter (fun z => decide (z.1 < v.1)) = pre.filter (inB low (some v.1)) ++ x :: post.filter (inB low (some v.1)) := by
            rw [List.filter_append, List.filter_cons_of_pos (a := x) (show (fun z : Int × Nat => decide (z.1 < v.1)) x = true from decide_eq_true h), inB_low ho, inB_low ho]
          have hx' : outB low (some v.1) x.1 = false := by
            unfold outB at *
            cases low <;> cases high <;> simp_all
          have l1 := le fun z => decide (z.1 < v.1)
          rw [e1] at l1
          rw [← goes_mk pl x pre post low (some v.1) m _ hd' hx' l1, e1]
          constructor
          · rintro (c | c | c)
            · exact (hxv c).elim
            · exact c
            · have := (List.mem_filter.mp (mk_mem _ _ _ c)).2
              simp at this
              omega
          · intro c
            exact .inr (.inl c)
        · rw [if_neg h, goesF, if_neg Bool.false_ne_true]
          have hle : v.1 ≤ x.1 := by omega
          have e1 : (pre.filter (inB low high) ++ x :: post.filter (inB low high)).filter (fun z => decide (v.1 ≤ z.1)) = pre.filter (inB (some v.1) high) ++ x :: post.filter (inB (some v.1) high) := by
            rw [List.filter_append, List.filter_cons_of_pos (a := x) (show (fun z : Int × Nat => decide (v.1 ≤ z.1)) x = true from decide_eq_true hle), inB_high ho, inB_high ho]
          have hx' : outB (some v.1) high x.1 = false := by
            unfold outB at *
            cases low <;> cases high <;> simp_all
          have l1 := le fun z => decide (v.1 ≤ z.1)
          rw [e1] at l1
          rw [← goes_mk pl x pre post (some v.1) high m _ hd' hx' l1, e1]
          constructor
          · rintro (c | c | c)
            · exact (hxv c).elim
            · have := (List.mem_filter.mp (mk_mem _ _ _ c)).2
              simp at this
              omega
            · exact c
          · intro c
            exact .inr (.inr c)
end KM
namespace KM
/-! what stands before what -/
def bef {α : Type} (x y : α) : List α → Prop
  | [] => False
  | a :: l => (a = x ∧ y ∈ l) ∨ bef x y l
theorem bef_app {α : Type} {x y : α} : ∀ {A B : List α}, bef x y (A ++ B) ↔ bef x y A ∨ (x ∈ A ∧ y ∈ B) ∨ bef x y B
  | [], B => by simp [bef]
  | a :: A, B => by
    rw [List.cons_append, bef, bef, bef_app (A := A), List.mem_append, List.mem_cons]
    constructor
    · rintro (⟨h, h1 | h1⟩ | h | h | h)
      · exact .inl (.inl ⟨h, h1⟩)
      · exact .inr (.inl ⟨.inl h.symm, h1⟩)
      · exact .inl (.inr h)
      · exact .inr (.inl ⟨.inr h.1, h.2⟩)
      · exact .inr (.inr h)
    · rintro ((⟨h, h1⟩ | h) | ⟨h | h, h1⟩ | h)
      · exact .inl ⟨h, .inl h1⟩
      · exact .inr (.inl h)
      · exact .inl ⟨h.symm, .inr h1⟩
      · exact .inr (.inr (.inl ⟨h, h1⟩))
      · exact .inr (.inr (.inr h))
theorem bef_mem {α : Type} {x y : α} : ∀ {l : List α}, bef x y l → x ∈ l ∧ y ∈ l
  | [], h => h.elim
  | a :: l, h => by
    rcases h with ⟨h, h1⟩ | h
    · exact ⟨by rw [h]; exact List.mem_cons_self .., List.mem_cons_of_mem _ h1⟩
    · obtain ⟨h1, h2⟩ := bef_mem h
      exact ⟨List.mem_cons_of_mem _ h1, List.mem_cons_of_mem _ h2⟩
theorem bef_filter {α : Type} {x y : α} {t : α → Bool} (hx : t x = true) (hy : t y = true) : ∀ {l : List α}, bef x y l → bef x y (l.filter t)
  | [], h => h.elim
  | a :: l, h => by
    rcases h with ⟨h, h1⟩ | h
    · rw [h, List.filter_cons_of_pos hx]
      exact .inl ⟨rfl, List.mem_filter.mpr ⟨h1, hy⟩⟩
    · have ih := bef_filter hx hy h
      by_cases ha : t a = true
      · rw [List.filter_cons_of_pos ha]
        exact .inr ih
      · rw [List.filter_cons_of_neg ha]
        exact ih
section
variable {α : Type} {key : α → Int} {pl : Plan}
theorem cg_all {x : α} : ∀ (n : Nat) (e : Option Nat) (ps : List α), x ∈ ps → x ∈ cg key pl false n e ps
  | 0, e, ps, h => by simpa [cg] using h
  | n + 1, none, ps, h => by simpa [cg] using h
  | n + 1, some q, [], h => by cases h
  | n + 1, some q, p :: ps, h => by
    rw [cg_cons, List.append_assoc, List.mem_append, List.mem_append]
    rcases List.mem_cons.mp h with h | h
    · exact .inr (.inl (List.mem_singleton.mpr h))
    · by_cases hk : key x < key p
      · exact .inl (cg_all n _ _ (List.mem_filter.mpr ⟨h, decide_eq_true hk⟩))
      · refine .inr (.inr (cg_all n _ _ (List.mem_filter.mpr ⟨h, ?_⟩)))
        simp only [Bool.false_eq_true, if_false, decide_eq_true_eq]
        omega
theorem cg_nodup : ∀ (n : Nat) (e : Option Nat) (ps : List α), ps.Nodup → (cg key pl false n e ps).Nodup
  | 0, e, ps, h => by simpa [cg] using h
  | n + 1, none, ps, h => by simpa [cg] using h
  | n + 1, some q, [], h => by simp [cg]
  | n + 1, some q, p :: ps, h => by
    obtain ⟨hp, hps⟩ := List.nodup_cons.mp h
    rw [cg_cons, List.append_assoc]
    simp only [Bool.false_eq_true, if_false]
    have lo : ∀ x, x ∈ cg key pl false n (atP pl q).1 (ps.filter fun x => decide (key x < key p)) → x ∈ ps ∧ key x < key p := fun x hx => by
      obtain ⟨h1, h2⟩ := List.mem_filter.mp (cg_mem _ _ _ hx)
      exact ⟨h1, of_decide_eq_true h2⟩
    have hi : ∀ x, x ∈ cg key pl false n (atP pl q).2 (ps.filter fun x => decide (key p ≤ key x)) → x ∈ ps ∧ key p ≤ key x := fun x hx => by
      obtain ⟨h1, h2⟩ := List.mem_filter.mp (cg_mem _ _ _ hx)
      exact ⟨h1, of_decide_eq_true h2⟩
    refine List.nodup_append.mpr ⟨cg_nodup n _ _ (hps.filter _), List.nodup_cons.mpr ⟨fun h => hp (hi _ h).1, cg_nodup n _ _ (hps.filter _)⟩, fun a ha b hb => ?_⟩
    rintro rfl
    obtain ⟨h1, h2⟩ := lo _ ha
    rcases List.mem_cons.mp hb with h3 | h3
    · exact hp (h3 ▸ h1)
    · have := (hi _ h3).2
      omega
/-- the parts apart -/
theorem bef_cg {n q : Nat} {p x y : α} {ps : List α} : bef x y (cg key pl false (n + 1) (some q) (p :: ps)) ↔
    bef x y (cg key pl false n (atP pl q).1 (ps.filter fun x => decide (key x < key p))) ∨ (x ∈ cg key pl false n (atP pl q).1 (ps.filter fun x => decide (key x < key p)) ∧ (y = p ∨ y ∈ cg key pl false n (atP pl q).2 (ps.filter fun x => decide (key p ≤ key x)))) ∨ (x = p ∧ y ∈ cg key pl false n (atP pl q).2 (ps.filter fun x => decide (key p ≤ key x))) ∨ bef x y (cg key pl false n (atP pl q).2 (ps.filter fun x => decide (key p ≤ key x))) := by
  rw [cg_cons, List.append_assoc, bef_app]
  simp only [Bool.false_eq_true, if_false]
  rw [List.singleton_append, bef, List.mem_cons]
  constructor
  · rintro (h | h | ⟨h, h1⟩ | h)
    · exact .inl h
    · exact .inr (.inl h)
    · exact .inr (.inr (.inl ⟨h.symm, h1⟩))
    · exact .inr (.inr (.inr h))
  · rintro (h | h | ⟨h, h1⟩ | h)
    · exact .inl h
    · exact .inr (.inl h)
    · exact .inr (.inr (.inl ⟨h.symm, h1⟩))
    · exact .inr (.inr (.inr h))
/-- a pair in order stays so -/
theorem keeps_order {x y : α} (hxy : key x ≤ key y) : ∀ (n : Nat) (e : Option Nat) (ps : List α), ps.Nodup → bef x y ps → bef x y (cg key pl false n e ps)
  | 0, e, ps, _, h => by simpa [cg] using h
  | n + 1, none, ps, _, h => by simpa [cg] using h
  | n + 1, some q, [], _, h => h.elim
  | n + 1, some q, p :: ps, nd, h => by
    obtain ⟨hp, hps⟩ := List.nodup_cons.mp nd
    have lo : ∀ z, z ∈ ps → key z < key p → z ∈ cg key pl false n (atP pl q).1 (ps.filter fun x => decide (key x < key p)) := fun z h1 h2 => cg_all n _ _ (List.mem_filter.mpr ⟨h1, decide_eq_true h2⟩)
    have hi : ∀ z, z ∈ ps → key p ≤ key z → z ∈ cg key pl false n (atP pl q).2 (ps.filter fun x => decide (key p ≤ key x)) := fun z h1 h2 => cg_all n _ _ (List.mem_filter.mpr ⟨h1, decide_eq_true h2⟩)
    rw [bef_cg]
    rcases h with ⟨h, h1⟩ | h
    · subst h
      exact .inr (.inr (.inl ⟨rfl, hi y h1 hxy⟩))
    · obtain ⟨mx, my⟩ := bef_mem h
      by_cases h1 : key x < key p
      · by_cases h2 : key y < key p
        · exact .inl (keeps_order hxy n _ _ (hps.filter _) (bef_filter (t := fun z => decide (key z < key p)) (decide_eq_true h1) (decide_eq_true h2) h))
        · exact .inr (.inl ⟨lo x mx h1, .inr (hi y my (by omega))⟩)
      · exact .inr (.inr (.inr (keeps_order hxy n _ _ (hps.filter _) (bef_filter (t := fun z => decide (key p ≤ key z)) (decide_eq_true (by omega)) (decide_eq_true (by omega)) h))))
/-- the one that can part a falling pair -/
def parter (key : α → Int) (x y : α) (ps : List α) : Option α := (ps.filter fun p => decide (key y < key p) && decide (key p ≤ key x)).head?
theorem parts_iff {x y : α} (hxy : key y < key x) : ∀ (n : Nat) (e : Option Nat) (ps : List α), ps.Nodup → ps.length ≤ n → bef x y ps → ∀ p0, parter key x y ps = some p0 → (bef x y (cg key pl false n e ps) ↔ p0 ∉ mk key pl n e ps)
  | 0, e, ps, _, hn, h, p0, _ => by
    have : ps = [] := List.length_eq_zero_iff.mp (by omega)
    rw [this] at h
    exact h.elim
  | n + 1, none, ps, _, _, h, p0, _ => by simp [h]
  | n + 1, some q, [], _, _, h, _, _ => h.elim
  | n + 1, some q, p :: ps, nd, hn, h, p0, h0 => by
    obtain ⟨hp, hps⟩ := List.nodup_cons.mp nd
    have hl : ps.length ≤ n := by rw [List.length_cons] at hn; omega
    have lo : ∀ z, z ∈ ps → key z < key p → z ∈ cg key pl false n (atP pl q).1 (ps.filter fun x => decide (key x < key p)) := fun z h1 h2 => cg_all n _ _ (List.mem_filter.mpr ⟨h1, decide_eq_true h2⟩)
    have hi : ∀ z, z ∈ ps → key p ≤ key z → z ∈ cg key pl false n (atP pl q).2 (ps.filter fun x => decide (key p ≤ key x)) := fun z h1 h2 => cg_all n _ _ (List.mem_filter.mpr ⟨h1, decide_eq_true h2⟩)
    have loI : ∀ z, z ∈ cg key pl false n (atP pl q).1 (ps.filter fun x => decide (key x < key p)) → z ∈ ps ∧ key z < key p := fun z h => by
      obtain ⟨h1, h2⟩ := List.mem_filter.mp (cg_mem _ _ _ h)
      exact ⟨h1, of_decide_eq_true h2⟩
    have hiI : ∀ z, z ∈ cg key pl false n (atP pl q).2 (ps.filter fun x => decide (key p ≤ key x)) → z ∈ ps ∧ key p ≤ key z := fun z h => by
      obtain ⟨h1, h2⟩ := List.mem_filter.mp (cg_mem _ _ _ h)
      exact ⟨h1, of_decide_eq_true h2⟩
    have mlo : ∀ z, z ∈ mk key pl n (atP pl q).1 (ps.filter fun x => decide (key x < key p)) → z ∈ ps ∧ key z < key p := fun z h => by
      obtain ⟨h1, h2⟩ := List.mem_filter.mp (mk_mem _ _ _ h)
      exact ⟨h1, of_decide_eq_true h2⟩
    have mhi : ∀ z, z ∈ mk key pl n (atP pl q).2 (ps.filter fun x => decide (key p ≤ key x)) → z ∈ ps ∧ key p ≤ key z := fun z h => by
      obtain ⟨h1, h2⟩ := List.mem_filter.mp (mk_mem _ _ _ h)
      exact ⟨h1, of_decide_eq_true h2⟩
    unfold parter at h0
    rw [bef_cg, mk_cons, List.mem_cons, List.mem_append]
    by_cases hc : key y < key p ∧ key p ≤ key x
    · rw [List.filter_cons_of_pos (by rw [decide_eq_true hc.1, decide_eq_true hc.2]; rfl)] at h0
      have e0 : p = p0 := Option.some.inj h0
      subst e0
      refine ⟨fun hb => ?_, fun hm => (hm (.inl rfl)).elim⟩
      exfalso
      rcases hb with hb | ⟨hb, _⟩ | ⟨_, hb⟩ | hb
      · have := (loI x (bef_mem hb).1).2
        omega
      · have := (loI x hb).2
        omega
      · have := (hiI y hb).2
        omega
      · have := (hiI y (bef_mem hb).2).2
        omega
    · rw [List.filter_cons_of_neg (by
        intro hh
        simp only [Bool.and_eq_true, decide_eq_true_eq] at hh
        exact hc hh)] at h0
      have m0 : p0 ∈ ps ∧ key y < key p0 ∧ key p0 ≤ key x := by
        have hm := List.mem_of_mem_head? h0
        obtain ⟨h1, h2⟩ := List.mem_filter.mp hm
        simp only [Bool.and_eq_true, decide_eq_true_eq] at h2
        exact ⟨h1, h2⟩
      have ne0 : p0 ≠ p := fun e => hp (e ▸ m0.1)
      have hb : bef x y ps := by
        rcases h with ⟨h, h1⟩ | h
        · subst h
          exact (hc ⟨hxy, Int.le_refl _⟩).elim
        · exact h
      obtain ⟨mx, my⟩ := bef_mem hb
      have cases2 : key p ≤ key y ∨ key x < key p := by omega
      rcases cases2 with hk | hk
      · have f0 : parter key x y (ps.filter fun x => decide (key p ≤ key x)) = some p0 := by
          unfold parter
          rw [List.filter_filter, ← h0]
          congr 1
          apply List.filter_congr
          intro z _
          by_cases hz : key p ≤ key z
          · simp [hz]
          · have : ¬ key y < key z := by omega
            simp [hz, this]
        have ih := parts_iff hxy n (atP pl q).2 (ps.filter fun x => decide (key p ≤ key x)) (hps.filter _) (Nat.le_trans (List.length_filter_le _ _) hl) (bef_filter (t := fun z => decide (key p ≤ key z)) (decide_eq_true (by omega)) (decide_eq_true hk) hb) p0 f0
        constructor
        · rintro (hq | ⟨hq, _⟩ | ⟨hq, _⟩ | hq)
          · have := (loI x (bef_mem hq).1).2
            omega
          · have := (loI x hq).2
            omega
          · exact (hp (hq ▸ mx)).elim
          · rintro (e | e | e)
            · exact ne0 e
            · have := (mlo _ e).2
              omega
            · exact ih.mp hq e
        · intro hm
          exact .inr (.inr (.inr (ih.mpr fun e => hm (.inr (.inr e)))))
      · have f0 : parter key x y (ps.filter fun x => decide (key x < key p)) = some p0 := by
          unfold parter
          rw [List.filter_filter, ← h0]
          congr 1
          apply List.filter_congr
          intro z _
          by_cases hz : key z < key p
          · simp [hz]
          · have : ¬ key z ≤ key x := by omega
            simp [hz, this]
        have ih := parts_iff hxy n (atP pl q).1 (ps.filter fun x => decide (key x < key p)) (hps.filter _) (Nat.le_trans (List.length_filter_le _ _) hl) (bef_filter (t := fun z => decide (key z < key p)) (decide_eq_true hk) (decide_eq_true (by omega)) hb) p0 f0
        constructor
        · rintro (hq | ⟨_, hq | hq⟩ | ⟨_, hq⟩ | hq)
          · rintro (e | e | e)
            · exact ne0 e
            · exact ih.mp hq e
            · have := (mhi _ e).2
              omega
          · exact (hp (hq ▸ my)).elim
          · have := (hiI y hq).2
            omega
          · have := (hiI y hq).2
            omega
          · have := (hiI y (bef_mem hq).2).2
            omega
        · intro hm
          exact .inl (ih.mpr fun e => hm (.inr (.inl e)))
end
end KM
namespace KM
section
variable {α : Type} {key : α → Int} {pl : List (Option Nat × Option Nat)}
theorem mk_nodup : ∀ (n : Nat) (e : Option Nat) (ps : List α), ps.Nodup → (mk key pl n e ps).Nodup
  | 0, e, ps, _ => by
    cases e <;> cases ps <;> exact List.nodup_nil
  | n + 1, none, ps, _ => by
    cases ps <;> exact List.nodup_nil
  | n + 1, some q, [], _ => List.nodup_nil
  | n + 1, some q, p :: ps, h => by
    rw [mk_cons]
    obtain ⟨hp, hn⟩ := List.nodup_cons.mp h
    rw [List.nodup_cons, List.nodup_append]
    refine ⟨fun hm => ?_, mk_nodup n _ _ (hn.filter _), mk_nodup n _ _ (hn.filter _), fun a ha b hb e => ?_⟩
    · rcases List.mem_append.mp hm with c | c
      · exact hp (List.mem_filter.mp (mk_mem _ _ _ c)).1
      · exact hp (List.mem_filter.mp (mk_mem _ _ _ c)).1
    · have h1 := (List.mem_filter.mp (mk_mem _ _ _ ha)).2
      have h2 := (List.mem_filter.mp (mk_mem _ _ _ hb)).2
      rw [e] at h1
      simp only [decide_eq_true_eq] at h1 h2
      omega
end
/-- the words of all values, told while the whole quicksort runs -/
def wds : Nat → List (Int × Nat) → List Bool → List (Nat × List Bool)
  | 0, _, _ => []
  | _ + 1, [], _ => []
  | n + 1, p :: ps, s => (p.2, s) :: (wds n (ps.filter fun x => decide (x.1 < p.1)) (s ++ [true]) ++ wds n (ps.filter fun x => decide (p.1 ≤ x.1)) (s ++ [false]))
theorem wds_perm : ∀ (n : Nat) (ps : List (Int × Nat)) (s : List Bool), ps.length ≤ n → ((wds n ps s).map (·.1)).Perm (ps.map (·.2))
  | 0, [], s, _ => .nil
  | 0, _ :: _, s, h => absurd h (by simp)
  | n + 1, [], s, _ => .nil
  | n + 1, p :: ps, s, h => by
    have hl : ps.length ≤ n := by simpa using h
    have l1 : ∀ t : Int × Nat → Bool, (ps.filter t).length ≤ n := fun t => Nat.le_trans (List.length_filter_le _ _) hl
    rw [wds, List.map_cons, List.map_cons, List.map_append]
    refine List.Perm.cons _ ?_
    refine ((wds_perm n _ (s ++ [true]) (l1 _)).append (wds_perm n _ (s ++ [false]) (l1 _))).trans ?_
    rw [← List.map_append]
    refine List.Perm.map _ ?_
    have e : (fun x : Int × Nat => decide (p.1 ≤ x.1)) = fun x => !decide (x.1 < p.1) := by
      funext x
      by_cases h : x.1 < p.1
      · simp [h]
      · simp [h]
        omega
    rw [e]
    exact List.filter_append_perm _ _
theorem wds_len (n : Nat) (ps : List (Int × Nat)) (s : List Bool) (h : ps.length ≤ n) : (wds n ps s).length = ps.length := by
  have := (wds_perm n ps s h).length_eq
  simpa using this
theorem wds_word (x : Int × Nat) : ∀ (pre post : List (Int × Nat)) (low high : Option Int) (n : Nat) (s : List Bool), outB low high x.1 = false → (pre.filter (inB low high) ++ x :: post.filter (inB low high)).length ≤ n →
    (x.2, s ++ wordF x.1 low high (pre.map (·.1))) ∈ wds n (pre.filter (inB low high) ++ x :: post.filter (inB low high)) s
  | [], post, low, high, n, s, hx, hn => by
    obtain ⟨m, rfl⟩ : ∃ m, n = m + 1 := ⟨n - 1, by simp at hn; omega⟩
    rw [List.filter_nil, List.nil_append, wds]
    simp [wordF]
  | v :: pre, post, low, high, n, s, hx, hn => by
    cases ho : outB low high v.1 with
    | true =>
      have hb : inB low high v = false := by unfold inB; rw [ho]; rfl
      rw [List.filter_cons_of_neg (by rw [hb]; exact Bool.false_ne_true)] at hn ⊢
      rw [List.map_cons, wordF, if_pos ho]
      exact wds_word x pre post low high n s hx hn
    | false =>
      have hb : inB low high v = true := by unfold inB; rw [ho]; rfl
      rw [List.filter_cons_of_pos hb] at hn ⊢
      rw [List.map_cons, wordF, if_neg (by rw [ho]; exact Bool.false_ne_true), List.cons_append]
      obtain ⟨m, rfl⟩ : ∃ m, n = m + 1 := ⟨n - 1, by rw [List.cons_append, List.length_cons] at hn; omega⟩
      rw [wds, List.mem_cons, List.mem_append]
      rw [List.cons_append, List.length_cons] at hn
      have le : ∀ t : Int × Nat → Bool, ((pre.filter (inB low high) ++ x :: post.filter (inB low high)).filter t).length ≤ m := fun t => Nat.le_trans (List.length_filter_le _ _) (by omega)
      by_cases h : x.1 < v.1
      · rw [if_pos h]
        have e1 : (pre.filter (inB low high) ++ x :: post.filter (inB low high)).filter (fun z => decide (z.1 < v.1)) = pre.filter (inB low (some v.1)) ++ x :: post.filter (inB low (some v.1)) := by
          rw [List.filter_append, List.filter_cons_of_pos (a := x) (show (fun z : Int × Nat => decide (z.1 < v.1)) x = true from decide_eq_true h), inB_low ho, inB_low ho]
        have hx' : outB low (some v.1) x.1 = false := by
          unfold outB at *
          cases low <;> cases high <;> simp_all
        have l1 := le fun z => decide (z.1 < v.1)
        rw [e1] at l1
        have := wds_word x pre post low (some v.1) m (s ++ [true]) hx' l1
        rw [e1]
        rw [List.append_assoc] at this
        exact .inr (.inl this)
      · rw [if_neg h]
        have hle : v.1 ≤ x.1 := by omega
        have e1 : (pre.filter (inB low high) ++ x :: post.filter (inB low high)).filter (fun z => decide (v.1 ≤ z.1)) = pre.filter (inB (some v.1) high) ++ x :: post.filter (inB (some v.1) high) := by
          rw [List.filter_append, List.filter_cons_of_pos (a := x) (show (fun z : Int × Nat => decide (v.1 ≤ z.1)) x = true from decide_eq_true hle), inB_high ho, inB_high ho]
        have hx' : outB (some v.1) high x.1 = false := by
          unfold outB at *
          cases low <;> cases high <;> simp_all
        have l1 := le fun z => decide (v.1 ≤ z.1)
        rw [e1] at l1
        have := wds_word x pre post (some v.1) high m (s ++ [false]) hx' l1
        rw [e1]
        rw [List.append_assoc] at this
        exact .inr (.inr this)
end KM
namespace DL
open PySem PyProof.Rows L2

theorem guards_in {A : Around} {env : Env} (h : A.guards = some []) : (A.deeper env).guards = some [] := by
  first
    | exact h
    | (simp [Around.deeper, h])

/-- a def's promise, asked where no repr is under way -/
structure FnG (P : Program) (w : World) (K : PySem.W.Frag) (mg : Str → Option Value) (base : Heap) (k : Nat) (f : Addr) (fd : FuncData) (ps : List Str) (sp : Sp) : Prop where
  len : ∀ vs H Q E, sp vs H Q E → vs.length = ps.length
  go : ∀ (A : Around) (outer : List Env) (s : Shared) (H : Hp) (args : Args) (us : List Value) (vs : List V) (Q : VK), A.guards = some [] → Room k A → Env0 P w K mg base A outer s H → BindsTo s fd args (ps.zip us) → Vals vs us → sp vs H Q E0 →
    codeAny (model P w) A (.call (.ref f) args) (CR CX0 outer P w H s Q E0) s
section
variable {P : Program} {w : World} {K : PySem.W.Frag} {mg : Str → Option Value} {base : Heap} {j k : Nat} {f : Addr} {fd : FuncData} {ps : List Str} {sp sp' : Sp}
theorem FnG.of (h : FnOk P w K mg base CX0 k f fd ps sp) : FnG P w K mg base k f fd ps sp :=
  ⟨h.len, fun A outer s H args us vs Q _ => h.run A outer s H args us vs Q E0⟩
theorem FnG.up (h : FnG P w K mg base j f fd ps sp) (le : j ≤ k) : FnG P w K mg base k f fd ps sp :=
  ⟨h.len, fun A outer s H args us vs Q g r => h.go A outer s H args us vs Q g (r.mono le)⟩
theorem FnG.imp (h : FnG P w K mg base k f fd ps sp) (i : ∀ vs H Q, sp' vs H Q E0 → sp vs H Q E0) (l : ∀ vs H Q E, sp' vs H Q E → vs.length = ps.length) : FnG P w K mg base k f fd ps sp' :=
  ⟨l, fun A outer s H args us vs Q g r e b v q => h.go A outer s H args us vs Q g r e b v (i _ _ _ q)⟩
end

/-- the callee runs (with whatever arguments bind) -/
theorem runG {X : Cx} {k : Nat} {f : Addr} {fd : FuncData} {ps : List Str} {sp : Sp} {pins : List (Addr × Obj)} {σ : L2.St} {H : Hp} {s : Shared} {Q : VK} {us ws : List Value} {kw : List (Str × Value)} {vs : List V}
    (Fn : FnG X.prog X.w X.K X.mg X.base k f fd ps sp) (hg : X.A.guards = some []) (hr : Room k X.A) (I : Inv X pins σ H s) (hb : BindsTo s fd ⟨us, kw⟩ (ps.zip ws)) (r : Vals vs ws) (h : sp vs H Q E0) :
    wpAny (model X.prog X.w) X.A (call (.ref f) us kw) (EP X pins σ Q) X.xe s := by
  have c := Fn.go X.A X.stack s H ⟨us, kw⟩ ws vs Q hg hr I.env0 hb r h
  refine wpAny_call (codeAny_mono c fun res t ht => ?_)
  match res, ht with
  | .ok (.ret u), ht => exact I.after ht
  | .ok .next, ht => exact ht.elim
  | .ok .brk, ht => exact ht.elim
  | .ok .cont, ht => exact ht.elim
  | .error e, ht => exact ht.elim

/-- a def by its body -/
theorem fnG_of {P : Program} {w : World} {K : PySem.W.Frag} {mg : Str → Option Value} {base : Heap} {k : Nat} {f : Addr} {fname qual : Str} {params : Arguments} {body : List Stmt} {scope : Scope} {dV kV doc pm cdv ct oc : Value} {an od : Option Addr} {osl : Array (Option Value)} {N ps : List Str} {sp : Sp}
    (lk : K.lookup f = some ⟨oc, od, .func (PySem.W.fnOf fname qual params body scope dV kV doc pm an cdv ct), osl⟩) (hcd : PySem.W.codeIn K cdv qual = true) (S : FnScope N ps scope) (len : ∀ vs H Q E, sp vs H Q E → vs.length = ps.length)
    (hbody : ∀ (A : Around) (outer : List Env) (s : Shared) (H : Hp) (vs : List V) (Q : VK), A.guards = some [] → Room k (A.deeper (PyProof.Rows.envOfC qual scope s.heap.objs.size f cdv)) → sp vs H Q E0 →
      ∃ t, PSs (cxOf CX0 P w K mg base N qual scope f cdv A outer s H E0).nox body t ∧ t { nx := fun _ H' => Q .non H', rt := Q } (start N vs) H) :
    FnG P w K mg base (k + 1) f (PySem.W.fnOf fname qual params body scope dV kV doc pm an cdv ct) ps sp := by
  constructor
  · exact len
  intro A outer s H args us vs Q hg hr e0 hb r hsp
  have bk : ∀ b o, base.get? b = some o → s.heap.get? b = some o := fun b o e => (e0.bs b o e).1
  have inK := e0.mod.kin.keeps bk
  have kinds : ∀ y ∈ ps.zip us, scope.names.lookup y.1 = some .local ∨ (scope.names.lookup y.1 = some .cell ∧ ((cellsFrom (s.heap.objs.size + 1) scope.names []).lookup y.1).isSome = true) := by
    rintro ⟨n, v⟩ hy
    have hn := (List.of_mem_zip hy).1
    cases S.par n hn with
    | inl q => exact .inl q
    | inr q => exact .inr ⟨q, PySem.W.cellsFrom_some _ _ _ (.inl q)⟩
  apply codeAny_call_function hr.depth (inK _ _ lk) rfl S.co S.gen rfl (PySem.W.codeRec_of inK hcd)
  apply hb
  apply wpAny_newFunctionEnv_cells S.kind kinds
  rintro env rfl s1 x
  refine ⟨(e0.mod.nolimit.keeps bk).keeps x.toInCall.keep, codeAny_func ?_⟩
  obtain ⟨t, ht, hq⟩ := hbody A outer s H vs Q hg (hr.deeper _) hsp
  have I := inv_start (CX := CX0) (P := P) (N := N) (qual := qual) (f := f) (cd := cdv) (E := E0) S hr.hd e0 (len _ _ _ _ hsp) r x
  have run := ht.nox.run [] s1 (start N vs) H _ I hq
  refine wpAny_mono run (fun fl t2 h2 => ?_) fun e t2 h2 => h2
  match fl, h2 with
  | .ret u, ⟨v, σ2, H2, J, rv, q⟩ => exact ⟨v, H2, J.os, J.bare, J.base, J.hok, rv, q⟩
  | .next, ⟨σ2, H2, J, q⟩ => exact ⟨.non, H2, J.os, J.bare, J.base, J.hok, rfl, q⟩
  | .brk, ⟨_, _, _, q⟩ => exact q.elim
  | .cont, ⟨_, _, _, q⟩ => exact q.elim

/-! ### the end: the law's own call -/
theorem intVals : ∀ {us : List Value} {ns : List Int}, IntsAre us ns → Vals (ns.map V.int) us
  | _, _, .nil => .nil
  | _, _, .cons n t h => .cons ⟨t, rfl⟩ (intVals h)
section
variable {P : Program} {w : World} {K : PySem.W.Frag} {mg mb : Str → Option Value} {k : Nat} {fa a : Addr} {fd : FuncData} {x : Str} {sp : Sp} {t : Shared} {us : List Value} {ns : List Int}
/-- over an abstract heap H that tracks nothing but the script -/
theorem law_over {H : Hp} (inK : K.In t.heap) (gl : t.heap.Ns mainGlobals mg) (bl : t.heap.Ns builtinsNs mb) (bb : ∀ x : Str, x ≠ "__name__" → mb x = bootBuiltins x) (lim : t.heap.NoLimit) (gens : t.gens = #[])
    (scr : t.heap.get? a = some { cls := .type "list", data := .seq us.toArray }) (hr : Room k callerA)
    (Fn : ∀ base : Heap, K.In base → base.Ns mainGlobals mg → FnG P w K mg base k fa fd [x] sp) (bind : ∀ (s : Shared) (u : Value), BindsTo s fd ⟨[u], []⟩ [(x, u)])
    (only : ∀ b u, H b = some u → b = a ∧ (∃ o xs, u = .frz o (.lst xs)) ∧ K.lookup a = none) (ok : HOk P w H t.heap) (hsp : sp [.ref a] H (fun v _ => v = .bl true) E0) :
    codeAny (model P w) callerA (.call (.ref fa) ⟨[.ref a], []⟩) (fun r t' => r = .ok (.ret (.bool true)) ∧ OldK t.heap t'.heap ∧ t'.os = t.os ∧ AllBare t'.gens) t := by
  let base := hidT t.heap H
  have free : ∀ {b : Addr} {o : Obj}, t.heap.get? b = some o → (∀ vs n, o.data ≠ .seq vs n) → H b = none := by
    intro b o e nd
    cases q : H b with
    | none => rfl
    | some u =>
      obtain ⟨rfl, _⟩ := only b u q
      rw [scr] at e
      cases e
      exact absurd rfl (nd _ _)
  have ns : ∀ {b : Addr} {m : Str → Option Value}, t.heap.Ns b m → base.Ns b m := by
    rintro b m ⟨o, es, ep, e, d, r⟩
    exact ⟨o, es, ep, hidT_get e (free e fun vs n z => by rw [d] at z; cases z), d, r⟩
  have bK : K.In base := fun b o e => hidT_get (inK b o e) (by
    cases q : H b with
    | none => rfl
    | some u =>
      obtain ⟨rfl, _, z⟩ := only b u q
      rw [z] at e
      cases e)
  have mod : Mod K mg base := ⟨bK, ns gl, ⟨mb, ns bl, bb⟩, by
    obtain ⟨mc, h1, h2⟩ := lim
    exact ⟨mc, ns h1, h2⟩⟩
  have e0 : Env0 P w K mg base callerA [] t H := {
    frames := rfl
    mod := mod
    bs := fun b o e => of_hidT e
    bsz := Nat.le_of_eq (hidT_size _ _)
    funs := trivial
    frf := fun b hb => nomatch (show b ∈ ([] : List Addr) from hb)
    hok := ok
    bare := .of_eq gens }
  have run := (Fn base bK (ns gl)).go callerA [] t H ⟨[.ref a], []⟩ [.ref a] [.ref a] _ rfl hr e0 (bind t (.ref a)) (.cons rfl .nil) hsp
  refine codeAny_mono run fun res t' h => ?_
  match res, h with
  | .error e, h => exact h.elim
  | .ok .next, h => exact h.elim
  | .ok .brk, h => exact h.elim
  | .ok .cont, h => exact h.elim
  | .ok (.ret u), ⟨v, H', os, bare, un, ok', rv, hv⟩ =>
    obtain rfl : v = V.bl true := hv
    obtain rfl : u = Value.bool true := rv
    refine ⟨rfl, OldK.of_keep fun b o e => ?_, os, bare⟩
    cases q : H b with
    | none => exact un.keep b o e q (fun z => nomatch (show b ∈ ([] : List Addr) from z)) (fun z => nomatch z)
    | some hu =>
      obtain ⟨_, ⟨ob, xs, rfl⟩, _⟩ := only b hu q
      have e1 := (ok b _ q).1
      have e2 := (ok' b _ (un.frzs b ob _ q)).1
      rw [e] at e1
      cases e1
      exact e2
theorem lawG (inK : K.In t.heap) (gl : t.heap.Ns mainGlobals mg) (bl : t.heap.Ns builtinsNs mb) (bb : ∀ x : Str, x ≠ "__name__" → mb x = bootBuiltins x) (lim : t.heap.NoLimit) (gens : t.gens = #[])
    (scr : t.heap.get? a = some { cls := .type "list", data := .seq us.toArray }) (nums : IntsAre us ns) (small : ns.length ≤ sizeLine) (hr : Room k callerA)
    (Fn : ∀ base : Heap, K.In base → base.Ns mainGlobals mg → FnG P w K mg base k fa fd [x] sp) (bind : ∀ (s : Shared) (u : Value), BindsTo s fd ⟨[u], []⟩ [(x, u)])
    (hsp : ∀ H : Hp, (∀ b u, H b = some u → b = a) → SqL K H a (ns.map V.int) → sp [.ref a] H (fun v _ => v = .bl true) E0) :
    codeAny (model P w) callerA (.call (.ref fa) ⟨[.ref a], []⟩) (fun r t' => r = .ok (.ret (.bool true)) ∧ OldK t.heap t'.heap ∧ t'.os = t.os ∧ AllBare t'.gens) t := by
  have rv := intVals nums
  cases hk : K.lookup a with
  | some o =>
    have e := inK a o hk
    rw [scr] at e
    cases e
    have H0 : ∀ b u, (fun _ : Addr => (none : Option HO)) b = some u → False := fun b u z => by cases z
    refine law_over (H := fun _ => none) inK gl bl bb lim gens scr hr Fn bind (fun b u z => (H0 b u z).elim) (fun b u z => (H0 b u z).elim) (hsp _ (fun b u z => (H0 b u z).elim) (.inr ?_))
    exact ⟨_, us.toArray, _, hk, rfl, rfl, rfl, by rw [List.size_toArray, nums.length]; exact small, by simpa using rv⟩
  | none =>
    have at_ : ∀ b u, (fun b : Addr => if b = a then some (HO.frz { cls := .type "list", data := .seq us.toArray } (.lst (ns.map V.int))) else none) b = some u → b = a ∧ u = HO.frz { cls := .type "list", data := .seq us.toArray } (.lst (ns.map V.int)) := by
      intro b u z
      by_cases hb : b = a
      · refine ⟨hb, ?_⟩
        simp only [hb, if_true] at z
        exact (Option.some.inj z).symm
      · simp only [hb, if_false] at z
        cases z
    refine law_over (H := fun b => if b = a then some (.frz { cls := .type "list", data := .seq us.toArray } (.lst (ns.map V.int))) else none) inK gl bl bb lim gens scr hr Fn bind (fun b u z => ?_) (fun b u z => ?_) (hsp _ (fun b u z => (at_ b u z).1) (.inl (.inr ⟨_, if_pos rfl⟩)))
    · obtain ⟨rfl, rfl⟩ := at_ b u z
      exact ⟨rfl, ⟨_, _, rfl⟩, hk⟩
    · obtain ⟨rfl, rfl⟩ := at_ b u z
      exact ⟨scr, by rw [List.length_map]; exact small, us, _, rv, scr⟩
end
/-- what k_head leaves, from the promise of the law's def -/
theorem walkG {l : PySem.W.OpenLaw} {n k : Nat} {q : Program} {loose : List Str} {XP : (Str → Option Value) → Heap → Prop} {YP : World → Heap → Prop} {d : DefRec} {K : Params → PySem.W.Frag} {sp : World → Sp} {x : Str}
    (hn : l.most = some n) (hn2 : n ≤ sizeLine) (hdf : d.params.defaults = []) (hr : Room k callerA) (hY : ∀ (w : World) (h : Heap), YP w h → (K w.params).In h)
    (Fn : ∀ (w : World) (mg : Str → Option Value) (fa : Addr) (h : Heap), (K w.params).In h → h.Ns mainGlobals mg → mg d.name = some (.ref fa) →
      ∃ fd : FuncData, (∀ (s : Shared) (u : Value), BindsTo s fd ⟨[u], []⟩ [(x, u)]) ∧ ∀ base : Heap, (K w.params).In base → base.Ns mainGlobals mg → FnG l.prog w (K w.params) mg base k fa fd [x] (sp w))
    (hsp : ∀ (w : World) (H : Hp) (a : Addr) (ns : List Int), ns.length ≤ n → (∀ b u, H b = some u → b = a) → SqL (K w.params) H a (ns.map V.int) → sp w [.ref a] H (fun v _ => v = .bl true) E0) :
    PySem.W.WalkO q loose XP YP l.row.toRowW d [] (fun f vs => PySem.call f vs) :=
  Att.attach_call hn hdf fun w s0 t mg mb fa o pm cd doc a us ns G Y ho hd hcd hmg scr nums len gens =>
    let inK := hY w _ Y
    let ⟨_, bind, F2⟩ := Fn w mg fa _ inK G.T.g hmg
    lawG inK G.T.g G.T.b G.T.builtins G.T.nolimit gens scr nums (Nat.le_trans len hn2) hr F2 bind fun H only seq => hsp w H a ns len only seq
end DL
namespace DL
open PySem L2

/-! ### data that stands in the heap -/
/-- at a: an error of the class at C, its own dict at dd -/
def exV (a C dd : Addr) : HO := .ext fun h => ∃ (oe : Obj) (vs : Array Value), h.get? a = some oe ∧ oe.cls = .ref C ∧ oe.dict = some dd ∧ oe.data = .fields vs
/-- an error as data: its class, its one field -/
abbrev excD (C : Addr) (f : Str) (d : PyData) : PyData := .dict [(.str f, .tuple [.int (C : Int), d])]
mutual
inductive Rp (H : Hp) : V → PyData → Prop
  | non : Rp H .non .none
  | bl (b : Bool) : Rp H (.bl b) (.bool b)
  | int (i : Int) : Rp H (.int i) (.int i)
  | str (x : Str) : Rp H (.str x) (.str x)
  | lst {a : Addr} {xs : List V} {ds : List PyData} : H a = some (.lst xs) → RpA H xs ds → Rp H (.ref a) (.list ds)
  | tup {a : Addr} {xs : List V} {ds : List PyData} : H a = some (.tup xs) → RpA H xs ds → Rp H (.ref a) (.tuple ds)
  /-- a dict of whole numbers by whole numbers -/
  | dct {a : Addr} (kvs : List (Int × Int)) : H a = some (.dK (kvs.map fun q => (Sum.inl q.1, V.int q.2))) → Rp H (.ref a) (.dict (kvs.map fun q => (PyData.int q.1, PyData.int q.2)))
  /-- .. of texts -/
  | dcs {a : Addr} (kvs : List (Int × Str)) : H a = some (.dK (kvs.map fun q => (Sum.inl q.1, V.str q.2))) → Rp H (.ref a) (.dict (kvs.map fun q => (PyData.int q.1, PyData.str q.2)))
  | exc {a C dd : Addr} {f : Str} {v : V} {d : PyData} : H a = some (exV a C dd) → H dd = some (.xd [(f, v)]) → Rp H v d → Rp H (.ref a) (.dict [(.str f, .tuple [.int (C : Int), d])])
inductive RpA (H : Hp) : List V → List PyData → Prop
  | nil : RpA H [] []
  | cons {v : V} {vs : List V} {d : PyData} {ds : List PyData} : Rp H v d → RpA H vs ds → RpA H (v :: vs) (d :: ds)
end

section
variable {G G' H H' : Hp} {v : V} {vs ws : List V} {d : PyData} {ds es : List PyData} {K : PySem.W.Frag}
theorem Rp.mono (e : Same H H') {d : PyData} {v : V} (h : Rp H v d) : Rp H' v d :=
  Rp.rec (motive_1 := fun v d _ => Rp H' v d) (motive_2 := fun vs ds _ => RpA H' vs ds) .non .bl .int .str
    (fun h _ q => .lst (e _ _ h) q) (fun h _ q => .tup (e _ _ h) q) (fun kvs h => .dct kvs (e _ _ h)) (fun kvs h => .dcs kvs (e _ _ h)) (fun h1 h2 _ q => .exc (e _ _ h1) (e _ _ h2) q) .nil (fun _ _ p q => .cons p q) h
theorem RpA.mono (e : Same H H') {ds : List PyData} {vs : List V} (h : RpA H vs ds) : RpA H' vs ds :=
  RpA.rec (motive_1 := fun v d _ => Rp H' v d) (motive_2 := fun vs ds _ => RpA H' vs ds) .non .bl .int .str
    (fun h _ q => .lst (e _ _ h) q) (fun h _ q => .tup (e _ _ h) q) (fun kvs h => .dct kvs (e _ _ h)) (fun kvs h => .dcs kvs (e _ _ h)) (fun h1 h2 _ q => .exc (e _ _ h1) (e _ _ h2) q) .nil (fun _ _ p q => .cons p q) h
theorem Rp.up (e : Same H H') (h : Rp H v d) : Rp H' v d := Rp.mono e h
theorem RpA.up (e : Same H H') (h : RpA H vs ds) : RpA H' vs ds := RpA.mono e h
theorem Rp.exc_inv {C : Addr} {f : Str} (h : Rp H v (excD C f d)) : ∃ a dd w, v = .ref a ∧ H a = some (exV a C dd) ∧ H dd = some (.xd [(f, w)]) ∧ Rp H w d := by
  unfold excD at h
  generalize hD : PyData.dict [(PyData.str f, PyData.tuple [PyData.int (C : Int), d])] = D at h
  cases h with
  | dct kvs h =>
    cases kvs with
    | nil => cases hD
    | cons q kvs =>
      have h2 := PyData.dict.inj hD
      simp at h2
  | dcs kvs h =>
    cases kvs with
    | nil => cases hD
    | cons q kvs =>
      have h2 := PyData.dict.inj hD
      simp at h2
  | @exc a C2 dd f2 w d2 h1 h2 q =>
    have h3 := PyData.dict.inj hD
    simp only [List.cons.injEq, Prod.mk.injEq, PyData.str.injEq, PyData.tuple.injEq, PyData.int.injEq, and_true] at h3
    obtain ⟨e1, e2, e3⟩ := h3
    have e2' : C = C2 := by exact Int.ofNat.inj e2
    subst e1 e2' e3
    exact ⟨a, dd, w, rfl, h1, h2, q⟩
  | _ => cases hD
mutual
theorem Rp.dp : ∀ (d : PyData) (v : V), d.hasDict = false → Rp H v d → Dp K H v d
  | .none, _, _, .non => .non
  | .bool b, _, _, .bl _ => .bl b
  | .int i, _, _, .int _ => .int i
  | .str x, _, _, .str _ => .str x
  | .list ds, _, n, .lst h q => .lst (SqL.of h) (RpA.dp ds _ (by simpa only [PyData.hasDict] using n) q)
  | .tuple ds, _, n, .tup h q => .tup (SqT.of h) (RpA.dp ds _ (by simpa only [PyData.hasDict] using n) q)
  | .dict _, _, n, _ => by simp [PyData.hasDict] at n
theorem RpA.dp : ∀ (ds : List PyData) (vs : List V), PyData.hasDictAll ds = false → RpA H vs ds → DpAll K H vs ds
  | [], _, _, .nil => .nil
  | d :: ds, _, n, .cons h q => by
    simp only [PyData.hasDictAll, Bool.or_eq_false_iff] at n
    exact .cons (Rp.dp d _ n.1 h) (RpA.dp ds _ n.2 q)
end
theorem RpA.len : ∀ {vs : List V} {ds : List PyData}, RpA H vs ds → vs.length = ds.length
  | _, _, .nil => rfl
  | _, _, .cons _ q => congrArg (· + 1) (RpA.len q)
theorem RpA.get : ∀ {vs : List V} {ds : List PyData} {i : Nat} {d : PyData}, RpA H vs ds → ds[i]? = some d → ∃ v, vs[i]? = some v ∧ Rp H v d
  | _, _, _, _, .nil, e => by simp at e
  | _, _, 0, _, .cons r _, e => by
    simp at e
    subst e
    exact ⟨_, rfl, r⟩
  | _, _, i + 1, d, .cons _ t, e => by
    obtain ⟨v, h1, h2⟩ := RpA.get (i := i) (d := d) t (by simpa using e)
    exact ⟨v, by simpa using h1, h2⟩
theorem RpA.get' : ∀ {vs : List V} {ds : List PyData} {i : Nat} {v : V}, RpA H vs ds → vs[i]? = some v → ∃ d, ds[i]? = some d ∧ Rp H v d
  | _, _, _, _, .nil, e => by simp at e
  | _, _, 0, _, .cons r _, e => by
    simp at e
    subst e
    exact ⟨_, rfl, r⟩
  | _, _, i + 1, d, .cons _ t, e => by
    obtain ⟨v, h1, h2⟩ := RpA.get' (i := i) (v := d) t (by simpa using e)
    exact ⟨v, by simpa using h1, h2⟩
theorem RpA.app : ∀ {vs ws : List V} {ds es : List PyData}, RpA H vs ds → RpA H ws es → RpA H (vs ++ ws) (ds ++ es)
  | _, _, _, _, .nil, q => q
  | _, _, _, _, .cons r t, q => .cons r (RpA.app t q)
theorem RpA.one (h : Rp H v d) : RpA H [v] [d] := .cons h .nil
theorem RpA.take : ∀ {vs : List V} {ds : List PyData} (n : Nat), RpA H vs ds → RpA H (vs.take n) (ds.take n)
  | _, _, 0, _ => .nil
  | _, _, _ + 1, .nil => .nil
  | _, _, n + 1, .cons r t => .cons r (RpA.take n t)
theorem RpA.drop : ∀ {vs : List V} {ds : List PyData} (n : Nat), RpA H vs ds → RpA H (vs.drop n) (ds.drop n)
  | _, _, 0, r => r
  | _, _, _ + 1, .nil => .nil
  | _, _, n + 1, .cons _ t => RpA.drop n t
theorem RpA.set (r : Rp H v d) : ∀ {vs : List V} {ds : List PyData} (i : Nat), RpA H vs ds → RpA H (vs.set i v) (ds.set i d)
  | _, _, _, .nil => .nil
  | _, _, 0, .cons _ t => .cons r t
  | _, _, i + 1, .cons q t => .cons q (RpA.set r i t)
theorem RpA.erase : ∀ {vs : List V} {ds : List PyData} (i : Nat), RpA H vs ds → RpA H (vs.eraseIdx i) (ds.eraseIdx i)
  | _, _, _, .nil => .nil
  | _, _, 0, .cons _ t => t
  | _, _, i + 1, .cons q t => .cons q (RpA.erase i t)
theorem RpA.rev : ∀ {vs : List V} {ds : List PyData}, RpA H vs ds → RpA H vs.reverse ds.reverse
  | _, _, .nil => .nil
  | _, _, .cons r t => by
    rw [List.reverse_cons, List.reverse_cons]
    exact (RpA.rev t).app (.one r)
theorem RpA.ints : ∀ (ns : List Int), RpA H (ns.map V.int) (ns.map PyData.int)
  | [] => .nil
  | n :: ns => .cons (.int n) (RpA.ints ns)
theorem RpA.of_ints : ∀ {ns : List Int} {vs : List V}, RpA H vs (ns.map PyData.int) → vs = ns.map V.int
  | [], _, .nil => rfl
  | n :: ns, _, .cons r t => by
    cases r
    rw [RpA.of_ints t]
    rfl
theorem RpA.of_bools : ∀ {ns : List Bool} {vs : List V}, RpA H vs (ns.map PyData.bool) → vs = ns.map V.bl
  | [], _, .nil => rfl
  | n :: ns, _, .cons r t => by
    cases r
    rw [RpA.of_bools t]
    rfl
end

/-! ### slots -/
/-- the tables of code objects that are told of: each one's address, the name of what is made there -/
class TabL where
  T : List (Addr × Str)
variable [TabL]
inductive Sl where
  | no
  | va (d : PyData)
  /-- a list that only this name holds -/
  | ow (ds : List PyData)
  /-- of the name nothing; the tables stand, none is frozen -/
  | tb
  /-- a function made here, at G1 -/
  | fn (f : Addr) (G1 : Hp)

/-! tables of code objects: a lambda that is made writes there -/
def NT (o : HO) : Prop := ∀ ps, o ≠ .tbl ps
theorem nt_lst {xs : List V} : NT (.lst xs) := fun _ z => by cases z
/-- neither a table nor a code object -/
def Pl (o : HO) : Prop := NT o ∧ ∀ c q, o ≠ LamX.CodeO c q
theorem pl_lst {xs : List V} : Pl (.lst xs) := ⟨nt_lst, fun _ _ z => by unfold LamX.CodeO at z; cases z⟩
def NoT (G : Hp) : Prop := ∀ b o, G b = some o → NT o
theorem NoT.upd {G : Hp} {p : Addr} {o : HO} (h : NoT G) (n : NT o) : NoT (upd G p o) := fun b u e => by
  by_cases hb : b = p
  · rw [hb, upd_same] at e
    cases e
    exact n
  · rw [upd_ne hb] at e
    exact h b u e
def SlOk (G H : Hp) : Option V → Sl → Prop
  | _, .no => True
  | x, .va d => ∃ v, x = some v ∧ Rp G v d
  | x, .ow ds => ∃ a xs, x = some (.ref a) ∧ H a = some (.lst xs) ∧ RpA G xs ds ∧ G a = none
  | _, .tb => LamX.Tabs TabL.T H ∧ NoT G
  | x, .fn f G1 => x = some (.ref f) ∧ Same G1 G
def Own (L : List Sl) (σ : L2.St) (b : Addr) : Prop := ∃ (i : Nat) (ds : List PyData), L[i]? = some (Sl.ow ds) ∧ σ[i]? = some (some (V.ref b))

/-- L tells what the slots hold, over the frozen part G of the heap H -/
structure Sta (L : List Sl) (σ : L2.St) (G H : Hp) : Prop where
  gh : Same G H
  ln : σ.length = L.length
  sl : ∀ (i : Nat) (x : Option V) (t : Sl), σ[i]? = some x → L[i]? = some t → SlOk G H x t
  di : ∀ (i j : Nat) (a : Addr) (ds es : List PyData), L[i]? = some (Sl.ow ds) → L[j]? = some (Sl.ow es) → σ[i]? = some (some (V.ref a)) → σ[j]? = some (some (V.ref a)) → i = j

/-- kept, but for tables and codes -/
def Fr1 (H' G' : Hp) (b : Addr) (o : HO) : Prop := Pl o → H' b = some o ∧ G' b = none
structure Thr (G H G' H' : Hp) : Prop where
  th : ∀ b o, H b = some o → ∃ u, H' b = some u
  tb : LamX.Tabs TabL.T H → LamX.Tabs TabL.T H'
  nt : NoT G → NoT G'
section
variable {G G' G1 G2 H H' H1 H2 : Hp}
theorem Thr.refl : Thr G H G H := ⟨fun _ o h => ⟨o, h⟩, fun h => h, fun h => h⟩
theorem Thr.trans (a : Thr G H G1 H1) (b : Thr G1 H1 G2 H2) : Thr G H G2 H2 := ⟨fun c o h => let ⟨u, h1⟩ := a.th c o h; b.th c u h1, fun h => b.tb (a.tb h), fun h => b.nt (a.nt h)⟩
theorem Thr.ext (e : ∀ b o, H b = some o → H' b = some o) (n : NoT G → NoT G' := by exact fun h => h) : Thr G H G' H' := ⟨fun b o h => ⟨o, e b o h⟩, fun h => h.ext e, n⟩
theorem Thr.frz {p : Addr} {o : HO} (n : NT o) : Thr G H (upd G p o) H := .ext (fun _ _ h => h) fun h => h.upd n
/-- only lists change -/
theorem Thr.lists (t : ∀ b o, H b = some o → ∃ u, H' b = some u) (e : ∀ b o, H b = some o → (∀ xs, o ≠ .lst xs) → H' b = some o) : Thr G H G H' := by
  refine ⟨t, fun h p hp => ?_, fun h => h⟩
  obtain ⟨ps, h1, h2, h3⟩ := h p hp
  refine ⟨ps, e _ _ h1 (fun xs z => by cases z), h2, fun pos cv hc => ?_⟩
  obtain ⟨c, e1, e2⟩ := h3 pos cv hc
  exact ⟨c, e1, e _ _ e2 fun xs z => by unfold LamX.CodeO at z; cases z⟩
theorem Thr.put {q : Addr} {xs ys : List V} (h : H q = some (.lst xs)) : Thr G H G (upd H q (.lst ys)) := by
  refine .lists (fun b o hb => ?_) fun b o hb n => ?_
  · by_cases e : b = q
    · exact ⟨_, by rw [e]; exact upd_same⟩
    · exact ⟨o, by rw [upd_ne e]; exact hb⟩
  · rw [upd_ne]
    · exact hb
    · intro e
      rw [e, h] at hb
      exact n xs (Option.some.inj hb).symm
theorem Thr.tabs (t : Thr G H G' H') (h : LamX.Tabs TabL.T H ∧ NoT G) : LamX.Tabs TabL.T H' ∧ NoT G' := ⟨t.tb h.1, t.nt h.2⟩
end
/-- what an evaluation leaves -/
structure Te (L : List Sl) (σ : L2.St) (G H : Hp) (L' : List Sl) (G' H' : Hp) : Prop where
  g : Same G G'
  fr : ∀ b o, H b = some o → G b = none → ¬ Own L σ b → Fr1 H' G' b o
  ow : ∀ b, Own L' σ b → Own L σ b
  th : Thr G H G' H'
/-- what a statement leaves -/
structure Ts (L : List Sl) (σ : L2.St) (G H : Hp) (L' : List Sl) (σ' : L2.St) (G' H' : Hp) : Prop where
  g : Same G G'
  fr : ∀ b o, H b = some o → G b = none → ¬ Own L σ b → Fr1 H' G' b o
  ow : ∀ b, Own L' σ' b → Own L σ b ∨ H b = none
  th : Thr G H G' H'

section
variable {L L1 L2' L' : List Sl} {σ σ' σ1 σ2 : L2.St} {G G1 G2 G' H H1 H2 H' : Hp} {p : Addr} {o : HO} {xs : List V} {d : PyData} {ds : List PyData} {v : V}
theorem Te.refl : Te L σ G H L G H := ⟨Same.refl _, fun _ _ h g _ _ => ⟨h, g⟩, fun _ h => h, .refl⟩
theorem Te.trans (a : Te L σ G H L1 G1 H1) (b : Te L1 σ G1 H1 L' G' H') : Te L σ G H L' G' H' :=
  ⟨a.g.trans b.g, fun c o h g n t => let ⟨h1, g1⟩ := a.fr c o h g n t; b.fr c o h1 g1 (fun z => n (a.ow c z)) t, fun c z => a.ow c (b.ow c z), a.th.trans b.th⟩
theorem Te.back (a : Te L σ G H L1 G1 H1) (h : H1 p = none) : H p = none := by
  cases e : H p with
  | none => rfl
  | some o =>
    obtain ⟨u, q⟩ := a.th.th p o e
    rw [h] at q
    cases q
theorem Te.ts (a : Te L σ G H L1 G1 H1) : Ts L σ G H L1 σ G1 H1 := ⟨a.g, a.fr, fun b z => .inl (a.ow b z), a.th⟩
theorem Ts.refl : Ts L σ G H L σ G H := Te.refl.ts
theorem Sta.own_some (S : Sta L σ G H) {b : Addr} (h : Own L σ b) : (∃ xs, H b = some (.lst xs)) ∧ G b = none := by
  obtain ⟨i, ds, h1, h2⟩ := h
  obtain ⟨a, xs, e, h3, _, h4⟩ := S.sl i _ _ h2 h1
  cases e
  exact ⟨⟨xs, h3⟩, h4⟩
theorem Ts.trans (gh : Same G1 H1) (a : Ts L σ G H L1 σ1 G1 H1) (b : Ts L1 σ1 G1 H1 L' σ' G' H') : Ts L σ G H L' σ' G' H' := by
  refine ⟨a.g.trans b.g, fun c o h g n t => ?_, fun c z => ?_, a.th.trans b.th⟩
  · obtain ⟨h1, g1⟩ := a.fr c o h g n t
    refine b.fr c o h1 g1 (fun z => ?_) t
    rcases a.ow c z with z | z
    · exact n z
    · rw [h] at z
      cases z
  · rcases b.ow c z with z | z
    · exact a.ow c z
    · by_cases q : Own L σ c
      · exact .inl q
      · cases e : H c with
        | none => exact .inr rfl
        | some o =>
          obtain ⟨u, h1⟩ := a.th.th c o e
          rw [h1] at z
          cases z
/-- a new object -/
theorem Sta.new (S : Sta L σ G H) (h : H p = none) : Sta L σ G (upd H p o) ∧ Te L σ G H L G (upd H p o) := by
  refine ⟨⟨fun b u q => ?_, S.ln, fun i x t e1 e2 => ?_, S.di⟩, ⟨Same.refl _, fun b u q g _ _ => ⟨by rw [upd_ne (ne_of_none q h)]; exact q, g⟩, fun _ z => z, .ext fun b u q => by rw [upd_ne (ne_of_none q h)]; exact q⟩⟩
  · rw [upd_ne (ne_of_none (S.gh b u q) h)]
    exact S.gh b u q
  · have q := S.sl i x t e1 e2
    cases t with
    | no => exact q
    | va d => exact q
    | ow ds =>
      obtain ⟨a, ys, e, q1, q2, q3⟩ := q
      exact ⟨a, ys, e, by rw [upd_ne (ne_of_none q1 h)]; exact q1, q2, q3⟩
    | tb => exact Thr.tabs (.ext (fun b u q => by rw [upd_ne (ne_of_none q h)]; exact q)) q
    | fn f G1 => exact q
theorem Sta.gn (S : Sta L σ G H) (h : H p = none) : G p = none := by
  cases e : G p with
  | none => rfl
  | some u =>
    rw [S.gh p u e] at h
    cases h
theorem Same.upd_ {o : HO} (h : G p = none) : Same G (upd G p o) := fun b u q => by
  rw [upd_ne (ne_of_none q h)]
  exact q
/-- a new object that is frozen at once -/
theorem Sta.newG (S : Sta L σ G H) (h : H p = none) (no : NT o := by intro _ z; cases z) : Sta L σ (upd G p o) (upd H p o) ∧ Te L σ G H L (upd G p o) (upd H p o) := by
  have hg : G p = none := by
    cases e : G p with
    | none => rfl
    | some u =>
      rw [S.gh p u e] at h
      cases h
  refine ⟨⟨fun b u q => ?_, S.ln, fun i x t e1 e2 => ?_, S.di⟩, ⟨Same.upd_ hg, fun b u q g _ _ => ⟨by rw [upd_ne (ne_of_none q h)]; exact q, by rw [upd_ne (ne_of_none q h)]; exact g⟩, fun _ z => z, .ext (fun b u q => by rw [upd_ne (ne_of_none q h)]; exact q) fun g => g.upd no⟩⟩
  · by_cases hb : b = p
    · rw [hb, upd_same] at q
      rw [hb, upd_same]
      exact q
    · rw [upd_ne hb] at q
      rw [upd_ne hb]
      exact S.gh b u q
  · have q := S.sl i x t e1 e2
    cases t with
    | no => exact q
    | va d =>
      obtain ⟨v, e, r⟩ := q
      exact ⟨v, e, r.up (Same.upd_ hg)⟩
    | ow ds =>
      obtain ⟨a, ys, e, q1, q2, q3⟩ := q
      exact ⟨a, ys, e, by rw [upd_ne (ne_of_none q1 h)]; exact q1, q2.up (Same.upd_ hg), by rw [upd_ne (ne_of_none q1 h)]; exact q3⟩
    | tb => exact Thr.tabs (.ext (fun b u q => by rw [upd_ne (ne_of_none q h)]; exact q) fun g => g.upd no) q
    | fn f G1 => exact ⟨q.1, q.2.trans (Same.upd_ hg)⟩
/-- an object that stands, known to nobody else, is frozen -/
theorem Sta.freeze (S : Sta L σ G H) (h : H p = some o) (hg : G p = none) (no : ¬ Own L σ p) (nt : NT o := by intro _ z; cases z) : Sta L σ (upd G p o) H ∧ Same G (upd G p o) := by
  refine ⟨⟨fun b u q => ?_, S.ln, fun i x t e1 e2 => ?_, S.di⟩, Same.upd_ hg⟩
  · by_cases hb : b = p
    · rw [hb, upd_same] at q
      rw [hb, ← q]
      exact h
    · rw [upd_ne hb] at q
      exact S.gh b u q
  · have q := S.sl i x t e1 e2
    cases t with
    | no => exact q
    | va d =>
      obtain ⟨v, e, r⟩ := q
      exact ⟨v, e, r.up (Same.upd_ hg)⟩
    | ow ds =>
      obtain ⟨a, ys, e, q1, q2, q3⟩ := q
      refine ⟨a, ys, e, q1, q2.up (Same.upd_ hg), ?_⟩
      rw [upd_ne]
      · exact q3
      · rintro rfl
        subst e
        exact no ⟨i, ds, e2, e1⟩
    | tb => exact Thr.tabs (.frz nt) q
    | fn f G1 => exact ⟨q.1, q.2.trans (Same.upd_ hg)⟩
end

/-! ### contexts: a def's body at all its calls, a block within one -/
structure Fam where
  J : Type
  x : J → Cx
  P : Program
  w : World
  K : PySem.W.Frag
  mg : Str → Option Value
  base : Heap
  N : List Str
  sc : Scope
  fn : Str → Bool
  k : Nat
  hP : ∀ j, (x j).prog = P
  hw : ∀ j, (x j).w = w
  hK : ∀ j, (x j).K = K
  hmg : ∀ j, (x j).mg = mg
  hbase : ∀ j, (x j).base = base
  hN : ∀ j, (x j).N = N
  hsc : ∀ j, (x j).env.scope = sc
  hfn : ∀ j, (x j).fn = fn
  hc : ∀ j, (x j).calm = true
  hr : ∀ j, Room k (x j).A
  hxe : ∀ j, (x j).xe = fun _ _ => False
  hg : ∀ j, (x j).A.guards = some []
theorem relabel_eq (scope : Scope) (env : Env) : relabel scope env = relS scope env.scope := rfl
/-- a comprehension's block -/
def Fam.blk (F : Fam) (scope : Scope) : Fam where
  J := F.J × Shared × Hp × Addr × List (Str × Addr) × List Addr
  x := fun j => (F.x j.1).blk j.2.1 j.2.2.1 scope (compEnvC scope j.2.2.2.2.1 j.2.2.2.1 (F.x j.1).env) j.2.2.2.2.2
  P := F.P
  w := F.w
  K := F.K
  mg := F.mg
  base := F.base
  N := F.N
  sc := relS scope F.sc
  fn := fun y => scope.names.lookup y == some .cell
  k := F.k
  hP := fun j => F.hP j.1
  hw := fun j => F.hw j.1
  hK := fun j => F.hK j.1
  hmg := fun j => F.hmg j.1
  hbase := fun j => F.hbase j.1
  hN := fun j => F.hN j.1
  hsc := fun j => by
    show relabel scope (F.x j.1).env = relS scope F.sc
    rw [relabel_eq, F.hsc]
  hfn := fun j => rfl
  hc := fun j => F.hc j.1
  hr := fun j => F.hr j.1
  hxe := fun j => rfl
  hg := fun j => F.hg j.1
def PEf (F : Fam) (e : Expr) (t : TE) : Prop := ∀ j, PE (F.x j) e t
def PTf (F : Fam) (e : Expr) (t : TT) : Prop := ∀ j, PT (F.x j) e t
def PWf (F : Fam) (e : Expr) (t : TT) : Prop := ∀ j, PW (F.x j) e t
def PAf (F : Fam) (es : List Expr) (t : TA) : Prop := ∀ j, PA (F.x j) es t
def PSf (F : Fam) (s : Stmt) (t : TS) : Prop := ∀ j, PS (F.x j) s t
def PSsf (F : Fam) (s : List Stmt) (t : TS) : Prop := ∀ j, PSs (F.x j) s t
def PGf (F : Fam) (e : Expr) (t : TG) : Prop := ∀ j, PG (F.x j) e t
def PIf (F : Fam) (tg e : Expr) (t : TI) : Prop := ∀ j, PI (F.x j) tg e t
def GlF (F : Fam) (x : Str) : Prop := F.sc.names.lookup x = some .globalImplicit
theorem GlF.gl {F : Fam} {x : Str} (h : GlF F x) (j : F.J) : Gl (F.x j) x := by
  show (F.x j).env.scope.names.lookup x = _
  rw [F.hsc]
  exact h

/-! ### judgements -/
section
variable (F : Fam)
/-- e gives d, frozen -/
def ED (e : Expr) (L : List Sl) (d : PyData) (L' : List Sl) : Prop := ∃ te, PEf F e te ∧ ∀ σ G H, Sta L σ G H → ∀ Q : VK, (∀ v G' H', Sta L' σ G' H' → Te L σ G H L' G' H' → Rp G' v d → Q v H') → te σ H Q
/-- e gives a new list of ds -/
def FD (e : Expr) (L : List Sl) (ds : List PyData) (L' : List Sl) : Prop := ∃ te, PEf F e te ∧ ∀ σ G H, Sta L σ G H → ∀ Q : VK, (∀ p xs G' H', Sta L' σ G' H' → Te L σ G H L' G' H' → H p = none → H' p = some (.lst xs) → G' p = none → RpA G' xs ds → Q (.ref p) H') → te σ H Q
/-- e gives a list of ds, perhaps one's own -/
def LD (e : Expr) (L : List Sl) (ds : List PyData) (L' : List Sl) : Prop := ∃ te, PEf F e te ∧ ∀ σ G H, Sta L σ G H → ∀ Q : VK, (∀ p xs G' H', Sta L' σ G' H' → Te L σ G H L' G' H' → H' p = some (.lst xs) → RpA G' xs ds → Q (.ref p) H') → te σ H Q
/-- e gives d, as it stands now -/
def HD (e : Expr) (L : List Sl) (d : PyData) (L' : List Sl) : Prop := ∃ te, PEf F e te ∧ ∀ σ G H, Sta L σ G H → ∀ Q : VK, (∀ v G' H', Sta L' σ G' H' → Te L σ G H L' G' H' → Rp H' v d → Q v H') → te σ H Q
/-- a test -/
def BD (e : Expr) (L : List Sl) (b : Bool) (L' : List Sl) : Prop := ∃ tt, PTf F e tt ∧ ∀ σ G H, Sta L σ G H → ∀ Q : Bool → Hp → Prop, (∀ G' H', Sta L' σ G' H' → Te L σ G H L' G' H' → Q b H') → tt σ H Q
/-- arguments -/
def AD (es : List Expr) (L : List Sl) (ds : List PyData) (L' : List Sl) : Prop := ∃ ta, PAf F es ta ∧ ∀ σ G H, Sta L σ G H → ∀ Q : List V → Hp → Prop, (∀ vs G' H', Sta L' σ G' H' → Te L σ G H L' G' H' → RpA G' vs ds → Q vs H') → ta σ H Q
end

section
variable {F : Fam} {e a b c : Expr} {L L1 L2' L' L3 : List Sl} {d d1 d2 : PyData} {ds es : List PyData} {i : Nat}

theorem Sta.own_ne {σ : L2.St} {G H : Hp} {p : Addr} (S : Sta L σ G H) (h : H p = none) : ¬ Own L σ p := fun z => by
  obtain ⟨⟨xs, q⟩, _⟩ := S.own_some z
  rw [q] at h
  cases h
theorem FD.ed (h : FD F e L ds L') : ED F e L (.list ds) L' := by
  obtain ⟨te, pe, run⟩ := h
  refine ⟨te, pe, fun σ G H S Q q => run σ G H S _ fun p xs G' H' S' T hp hp' gp r => ?_⟩
  have no : ¬ Own L' σ p := fun z => S.own_ne hp (T.ow p z)
  obtain ⟨S2, g2⟩ := S'.freeze hp' gp no
  refine q _ _ _ S2 ⟨T.g.trans g2, fun b o h g n t => ?_, T.ow, T.th.trans (.frz nt_lst)⟩ (.lst upd_same (r.up g2))
  obtain ⟨h1, h2⟩ := T.fr b o h g n t
  refine ⟨h1, ?_⟩
  rw [upd_ne (ne_of_none h hp)]
  exact h2
theorem ED.ld (h : ED F e L (.list ds) L') : LD F e L ds L' := by
  obtain ⟨te, pe, run⟩ := h
  refine ⟨te, pe, fun σ G H S Q q => run σ G H S _ fun v G' H' S' T r => ?_⟩
  cases r with
  | lst h1 h2 => exact q _ _ _ _ S' T (S'.gh _ _ h1) h2
theorem FD.ld (h : FD F e L ds L') : LD F e L ds L' := by
  obtain ⟨te, pe, run⟩ := h
  exact ⟨te, pe, fun σ G H S Q q => run σ G H S _ fun p xs G' H' S' T hp hp' gp r => q _ _ _ _ S' T hp' r⟩
theorem LD.hd (h : LD F e L ds L') : HD F e L (.list ds) L' := by
  obtain ⟨te, pe, run⟩ := h
  exact ⟨te, pe, fun σ G H S Q q => run σ G H S _ fun p xs G' H' S' T hp r => q _ _ _ S' T (.lst hp (r.up S'.gh))⟩
theorem ED.hd (h : ED F e L d L') : HD F e L d L' := by
  obtain ⟨te, pe, run⟩ := h
  exact ⟨te, pe, fun σ G H S Q q => run σ G H S _ fun v G' H' S' T r => q _ _ _ S' T (r.up S'.gh)⟩

/-! names, constants -/
theorem Sta.get {σ : L2.St} {G H : Hp} {t : Sl} (S : Sta L σ G H) (h : L[i]? = some t) : ∃ x, σ[i]? = some x ∧ SlOk G H x t := by
  have hl : i < σ.length := by
    rw [S.ln]
    exact (List.getElem?_eq_some_iff.mp h).1
  exact ⟨σ[i], List.getElem?_eq_getElem hl, S.sl i _ t (List.getElem?_eq_getElem hl) h⟩
theorem ed_var_ {te : TE} (pe : PEf F e te) (ht : te = tVar i) (h : L[i]? = some (.va d)) : ED F e L d L := by
  subst ht
  refine ⟨_, pe, fun σ G H S Q q => ?_⟩
  obtain ⟨x, e1, v, rfl, r⟩ := S.get h
  exact ⟨v, e1, q _ _ _ S .refl r⟩
theorem ld_var_ {te : TE} (pe : PEf F e te) (ht : te = tVar i) (h : L[i]? = some (.ow ds)) : LD F e L ds L := by
  subst ht
  refine ⟨_, pe, fun σ G H S Q q => ?_⟩
  obtain ⟨x, e1, p, xs, rfl, h1, r, _⟩ := S.get h
  exact ⟨_, e1, q _ _ _ _ S .refl h1 r⟩
theorem ed_c_ {v : V} (pe : PEf F e (tC v)) (r : ∀ G, Rp G v d) : ED F e L d L := ⟨_, pe, fun σ G H S Q q => q _ _ _ S .refl (r G)⟩
theorem ed_int {n : Int} {j pos} : ED F (.Constant (.int n) j pos) L (.int n) L := ed_c_ (fun _ => pe_int) fun _ => .int _
theorem ed_bl {n : Bool} {j pos} : ED F (.Constant (.bool n) j pos) L (.bool n) L := ed_c_ (fun _ => pe_bl) fun _ => .bl _
theorem ed_non {j pos} : ED F (.Constant .none j pos) L .none L := ed_c_ (fun _ => pe_non) fun _ => .non
theorem ed_str {n : Str} {j pos} : ED F (.Constant (.str n) j pos) L (.str n) L := ed_c_ (fun _ => pe_str) fun _ => .str _

/-! operators of values -/
theorem ed_op {op : Operator} {r : R2} {pos : Pos} (ho : ∀ j, OpR (F.x j) (binaryOp op) r) (ha : ED F a L d1 L1) (hb : ED F b L1 d2 L2')
    (hr : ∀ x y G H, Same G H → Rp G x d1 → Rp G y d2 → ∀ Q : VK, (∀ v, Rp G v d → Q v H) → r x y H Q) : ED F (.BinOp a op b pos) L d L2' := by
  obtain ⟨ta, pa, ra⟩ := ha
  obtain ⟨tb, pb, rb⟩ := hb
  refine ⟨_, fun j => pe_op (ho j) (pa j) (pb j), fun σ G H S Q q => ra σ G H S _ fun x G1 H1 S1 T1 r1 => rb σ G1 H1 S1 _ fun y G2 H2 S2 T2 r2 => ?_⟩
  exact hr x y G2 H2 S2.gh (r1.up T2.g) r2 Q fun v rv => q v G2 H2 S2 (T1.trans T2) rv
/-- a comparison, as a value and as a test -/
def CD (F : Fam) (e : Expr) (L : List Sl) (k : Bool) (L' : List Sl) : Prop := ∃ te, PEf F e te ∧ PTf F e (tTest te) ∧ ∀ σ G H, Sta L σ G H → ∀ Q : VK, (∀ G' H', Sta L' σ G' H' → Te L σ G H L' G' H' → Q (.bl k) H') → te σ H Q
theorem CD.ed {k : Bool} (h : CD F e L k L') : ED F e L (.bool k) L' := by
  obtain ⟨te, pe, _, run⟩ := h
  exact ⟨te, pe, fun σ G H S Q q => run σ G H S Q fun G' H' S' T' => q _ _ _ S' T' (.bl k)⟩
theorem CD.bd {k : Bool} (h : CD F e L k L') : BD F e L k L' := by
  obtain ⟨te, _, pt, run⟩ := h
  exact ⟨_, pt, fun σ G H S Q q => run σ G H S _ fun G' H' S' T' => ⟨k, rfl, q G' H' S' T'⟩⟩
theorem CD.is {k l : Bool} (h : CD F e L k L') (q : k = l) : CD F e L l L' := q ▸ h
theorem cd_cmp {op : CmpOp} {r : R2} {pos : Pos} {k : Bool} (ho : ∀ j, OpR (F.x j) (compareOp op) r) (hm : behindInMarks op b = false) (ha : ED F a L d1 L1) (hb : ED F b L1 d2 L2')
    (hr : ∀ x y G H, Same G H → Rp G x d1 → Rp G y d2 → ∀ Q : VK, Q (.bl k) H → r x y H Q) : CD F (.Compare a [op] [b] pos) L k L2' := by
  obtain ⟨ta, pa, ra⟩ := ha
  obtain ⟨tb, pb, rb⟩ := hb
  refine ⟨_, fun j => pe_cmpR (ho j) (pa j) (pb j) hm, fun j => pt_cmpR (ho j) (pa j) (pb j) hm, fun σ G H S Q q => ra σ G H S _ fun x G1 H1 S1 T1 r1 => rb σ G1 H1 S1 _ fun y G2 H2 S2 T2 r2 => ?_⟩
  exact hr x y G2 H2 S2.gh (r1.up T2.g) r2 Q (q G2 H2 S2 (T1.trans T2))
theorem cd_cmpH {op : CmpOp} {r : R2} {pos : Pos} {k : Bool} (ho : ∀ j, OpR (F.x j) (compareOp op) r) (hm : behindInMarks op b = false) (ha : ED F a L d1 L1) (hb : HD F b L1 d2 L2')
    (hr : ∀ x y H, Rp H x d1 → Rp H y d2 → ∀ Q : VK, Q (.bl k) H → r x y H Q) : CD F (.Compare a [op] [b] pos) L k L2' := by
  obtain ⟨ta, pa, ra⟩ := ha
  obtain ⟨tb, pb, rb⟩ := hb
  refine ⟨_, fun j => pe_cmpR (ho j) (pa j) (pb j) hm, fun j => pt_cmpR (ho j) (pa j) (pb j) hm, fun σ G H S Q q => ra σ G H S _ fun x G1 H1 S1 T1 r1 => rb σ G1 H1 S1 _ fun y G2 H2 S2 T2 r2 => ?_⟩
  exact hr x y H2 ((r1.up T2.g).up S2.gh) r2 Q (q G2 H2 S2 (T1.trans T2))
section
variable {m n : Int} {pos : Pos}
theorem ed_add (ha : ED F a L (.int m) L1) (hb : ED F b L1 (.int n) L2') : ED F (.BinOp a .Add b pos) L (.int (m + n)) L2' := ed_op (fun _ => op_add) ha hb fun x y G H _ r1 r2 Q q => by
  cases r1; cases r2; exact ⟨m, n, rfl, rfl, q _ (.int _)⟩
theorem ed_sub (ha : ED F a L (.int m) L1) (hb : ED F b L1 (.int n) L2') : ED F (.BinOp a .Sub b pos) L (.int (m - n)) L2' := ed_op (fun _ => op_sub) ha hb fun x y G H _ r1 r2 Q q => by
  cases r1; cases r2; exact ⟨m, n, rfl, rfl, q _ (.int _)⟩
theorem ed_mul (hc : CMul m n) (ha : ED F a L (.int m) L1) (hb : ED F b L1 (.int n) L2') : ED F (.BinOp a .Mult b pos) L (.int (m * n)) L2' := ed_op (fun _ => op_mul) ha hb fun x y G H _ r1 r2 Q q => by
  cases r1; cases r2; exact ⟨m, n, rfl, rfl, hc, q _ (.int _)⟩
theorem ed_fdiv (hc : CDiv m n) (ha : ED F a L (.int m) L1) (hb : ED F b L1 (.int n) L2') : ED F (.BinOp a .FloorDiv b pos) L (.int (m / n)) L2' := ed_op (fun _ => op_fdiv) ha hb fun x y G H _ r1 r2 Q q => by
  cases r1; cases r2; exact ⟨m, n, rfl, rfl, hc, q _ (.int _)⟩
theorem ed_mod (hc : 0 < n) (ha : ED F a L (.int m) L1) (hb : ED F b L1 (.int n) L2') : ED F (.BinOp a .Mod b pos) L (.int (m % n)) L2' := ed_op (fun _ => op_mod) ha hb fun x y G H _ r1 r2 Q q => by
  cases r1; cases r2; exact ⟨m, n, rfl, rfl, hc, q _ (.int _)⟩
theorem ed_pow (hc : CPow m n) (ha : ED F a L (.int m) L1) (hb : ED F b L1 (.int n) L2') : ED F (.BinOp a .Pow b pos) L (.int (m ^ n.toNat)) L2' := ed_op (fun _ => op_pow) ha hb fun x y G H _ r1 r2 Q q => by
  cases r1; cases r2; exact ⟨m, n, rfl, rfl, hc, q _ (.int _)⟩
theorem cd_lt (ha : ED F a L (.int m) L1) (hb : ED F b L1 (.int n) L2') : CD F (.Compare a [.Lt] [b] pos) L (decide (m < n)) L2' := cd_cmp (fun _ => op_lt) (nomark _) ha hb fun x y G H _ r1 r2 Q q => by
  cases r1; cases r2; exact ⟨m, n, rfl, rfl, q⟩
theorem cd_le (ha : ED F a L (.int m) L1) (hb : ED F b L1 (.int n) L2') : CD F (.Compare a [.LtE] [b] pos) L (decide (m ≤ n)) L2' := cd_cmp (fun _ => op_le) (nomark _) ha hb fun x y G H _ r1 r2 Q q => by
  cases r1; cases r2; exact ⟨m, n, rfl, rfl, q⟩
theorem cd_gt (ha : ED F a L (.int m) L1) (hb : ED F b L1 (.int n) L2') : CD F (.Compare a [.Gt] [b] pos) L (decide (n < m)) L2' := cd_cmp (fun _ => op_gt) (nomark _) ha hb fun x y G H _ r1 r2 Q q => by
  cases r1; cases r2; exact ⟨m, n, rfl, rfl, q⟩
theorem cd_ge (ha : ED F a L (.int m) L1) (hb : ED F b L1 (.int n) L2') : CD F (.Compare a [.GtE] [b] pos) L (decide (n ≤ m)) L2' := cd_cmp (fun _ => op_ge) (nomark _) ha hb fun x y G H _ r1 r2 Q q => by
  cases r1; cases r2; exact ⟨m, n, rfl, rfl, q⟩
theorem cd_eqI (ha : ED F a L (.int m) L1) (hb : ED F b L1 (.int n) L2') : CD F (.Compare a [.Eq] [b] pos) L (decide (m = n)) L2' := cd_cmp (fun _ => op_eq) (nomark _) ha hb fun x y G H _ r1 r2 Q q => by
  cases r1; cases r2
  refine ⟨rfl, ?_⟩
  have e : decide (V.int m = V.int n) = decide (m = n) := by
    by_cases h : m = n
    · subst h; simp
    · rw [decide_eq_false h, decide_eq_false fun z => h (V.int.inj z)]
  rw [e]
  exact q
theorem cd_neI (ha : ED F a L (.int m) L1) (hb : ED F b L1 (.int n) L2') : CD F (.Compare a [.NotEq] [b] pos) L (!decide (m = n)) L2' := cd_cmp (fun _ => op_ne) (nomark _) ha hb fun x y G H _ r1 r2 Q q => by
  cases r1; cases r2
  refine ⟨rfl, ?_⟩
  have e : decide (V.int m = V.int n) = decide (m = n) := by
    by_cases h : m = n
    · subst h; simp
    · rw [decide_eq_false h, decide_eq_false fun z => h (V.int.inj z)]
  rw [e]
  exact q
end
end
end DL
namespace DL
open PySem L2
variable [TabL]

section
variable {F : Fam} {e a b c : Expr} {es : List Expr} {L L1 L2' L' L3 : List Sl} {d d1 d2 : PyData} {ds ds2 : List PyData} {i : Nat} {pos p : Pos} {x : Str}

theorem pvF (F : Fam) (i : Nat) {x : Str} {pos : Pos} (hN : F.N[i]? = some x) (hv : Vis F.sc x) (hd : (x == ("__debug__" : Str)) = false) (hcd : (x == ("__classdict__" : Str)) = false) : PEf F (.Name x pos) (tVar i) :=
  fun j => pe_var (by rw [F.hN]; exact hN) (by rw [F.hsc]; exact hv) hd hcd
/-- a name that holds frozen data -/
theorem ed_var (i : Nat) (h : L[i]? = some (Sl.va d)) (hN : F.N[i]? = some x := by rfl) (hv : Vis F.sc x := by first | exact Or.inl rfl | exact Or.inr (Or.inl rfl) | exact Or.inr (Or.inr rfl)) (hd : (x == ("__debug__" : Str)) = false := by decide) (hcd : (x == ("__classdict__" : Str)) = false := by decide) : ED F (.Name x pos) L d L :=
  ed_var_ (pvF F i hN hv hd hcd) rfl h
/-- a name that holds its own list -/
theorem ld_var (i : Nat) (h : L[i]? = some (Sl.ow ds)) (hN : F.N[i]? = some x := by rfl) (hv : Vis F.sc x := by first | exact Or.inl rfl | exact Or.inr (Or.inl rfl) | exact Or.inr (Or.inr rfl)) (hd : (x == ("__debug__" : Str)) = false := by decide) (hcd : (x == ("__classdict__" : Str)) = false := by decide) : LD F (.Name x pos) L ds L :=
  ld_var_ (pvF F i hN hv hd hcd) rfl h
/-- a constant of the module -/
theorem ed_glob {u : Value} {v : V} (hm : F.mg x = some u) (r : RelV v u) (rp : ∀ G, Rp G v d) (hg : GlF F x := by rfl) (hd : (x == ("__debug__" : Str)) = false := by decide) : ED F (.Name x pos) L d L :=
  ed_c_ (v := v) (fun j => pe_glob (hg.gl j) (by rw [F.hmg]; exact hm) r hd) rp
theorem ed_globI {n : Int} {t : Tok} (hm : F.mg x = some (.int n t)) (hg : GlF F x := by rfl) (hd : (x == ("__debug__" : Str)) = false := by decide) : ED F (.Name x pos) L (.int n) L :=
  ed_glob (v := .int n) hm ⟨_, rfl⟩ (fun _ => .int n) hg hd
theorem ED.is (h : ED F e L d L') (q : d = d2) : ED F e L d2 L' := q ▸ h
theorem LD.is (h : LD F e L ds L') (q : ds = ds2) : LD F e L ds2 L' := q ▸ h
theorem FD.is (h : FD F e L ds L') (q : ds = ds2) : FD F e L ds2 L' := q ▸ h

/-! ### tests -/
theorem pt_no (X : Cx) (e : Expr) : PT X e (fun _ _ _ => False) := ⟨fun _ _ _ _ _ _ h => h.elim⟩
theorem pe_no (X : Cx) (e : Expr) : PE X e (fun _ _ _ => False) := ⟨fun _ _ _ _ _ _ h => h.elim⟩
theorem pw_no (X : Cx) (e : Expr) : PW X e (fun _ _ _ => False) := ⟨fun _ _ _ _ _ _ _ h => h.elim⟩
theorem BD.is {u v : Bool} (h : BD F e L u L') (q : u = v) : BD F e L v L' := q ▸ h
theorem bd_val {k : Bool} (h : ED F e L (.bool k) L') (he : ∀ X t, PE X e t → PT X e (tB t) := by intro X t q; exact pt_val q) : BD F e L k L' := by
  obtain ⟨te, pe, run⟩ := h
  refine ⟨_, fun j => he _ _ (pe j), fun σ G H S Q q => run σ G H S _ fun v G' H' S' T r => ?_⟩
  cases r
  exact ⟨k, rfl, q _ _ S' T⟩
theorem bd_not {k : Bool} (h : BD F e L k L') : BD F (.UnaryOp .Not e pos) L (!k) L' := by
  obtain ⟨te, pe, run⟩ := h
  exact ⟨_, fun j => pt_not (pe j), fun σ G H S Q q => run σ G H S _ fun G' H' S' T => q _ _ S' T⟩
/-- the chains of and, or -/
def WD (F : Fam) (e : Expr) (L : List Sl) (b : Bool) (L' : List Sl) : Prop := ∃ tt, PWf F e tt ∧ ∀ σ G H, Sta L σ G H → ∀ Q : Bool → Hp → Prop, (∀ G' H', Sta L' σ G' H' → Te L σ G H L' G' H' → Q b H') → tt σ H Q
theorem WD.bd {k : Bool} (h : WD F e L k L') : BD F e L k L' := by
  obtain ⟨te, pe, run⟩ := h
  exact ⟨_, fun j => (pe j).pt, run⟩
theorem wd_and1 {k : Bool} (h : BD F a L k L') : WD F (.BoolOp .And [a] pos) L k L' := by
  obtain ⟨te, pe, run⟩ := h
  exact ⟨_, fun j => pw_and1 (pe j), run⟩
theorem wd_or1 {k : Bool} (h : BD F a L k L') : WD F (.BoolOp .Or [a] pos) L k L' := by
  obtain ⟨te, pe, run⟩ := h
  exact ⟨_, fun j => pw_or1 (pe j), run⟩
theorem wd_andT {k : Bool} (h : BD F a L true L1) (h2 : WD F (.BoolOp .And (b :: es) pos) L1 k L') : WD F (.BoolOp .And (a :: b :: es) pos) L k L' := by
  obtain ⟨te, pe, run⟩ := h
  obtain ⟨te2, pe2, run2⟩ := h2
  refine ⟨_, fun j => pw_and (pe j) (pe2 j), fun σ G H S Q q => run σ G H S _ fun G' H' S' T => ?_⟩
  exact iteT (run2 σ G' H' S' Q fun G2 H2 S2 T2 => q _ _ S2 (T.trans T2))
theorem wd_andF (h : BD F a L false L1) : WD F (.BoolOp .And (a :: b :: es) pos) L false L1 := by
  obtain ⟨te, pe, run⟩ := h
  refine ⟨_, fun j => pw_and (pe j) (pw_no _ _), fun σ G H S Q q => run σ G H S _ fun G' H' S' T => ?_⟩
  exact iteF (q _ _ S' T)
theorem wd_orF {k : Bool} (h : BD F a L false L1) (h2 : WD F (.BoolOp .Or (b :: es) pos) L1 k L') : WD F (.BoolOp .Or (a :: b :: es) pos) L k L' := by
  obtain ⟨te, pe, run⟩ := h
  obtain ⟨te2, pe2, run2⟩ := h2
  refine ⟨_, fun j => pw_or (pe j) (pe2 j), fun σ G H S Q q => run σ G H S _ fun G' H' S' T => ?_⟩
  exact iteF (run2 σ G' H' S' Q fun G2 H2 S2 T2 => q _ _ S2 (T.trans T2))
theorem wd_orT (h : BD F a L true L1) : WD F (.BoolOp .Or (a :: b :: es) pos) L true L1 := by
  obtain ⟨te, pe, run⟩ := h
  refine ⟨_, fun j => pw_or (pe j) (pw_no _ _), fun σ G H S Q q => run σ G H S _ fun G' H' S' T => ?_⟩
  exact iteT (q _ _ S' T)
/-- a and b, nothing changed by either -/
theorem bd_and2 {k l : Bool} (h : BD F a L k L) (h2 : k = true → BD F b L l L) : BD F (.BoolOp .And [a, b] pos) L (k && l) L := by
  cases k with
  | true => exact (wd_andT h (wd_and1 (h2 rfl))).bd
  | false => exact (wd_andF h).bd
theorem bd_or2 {k l : Bool} (h : BD F a L k L) (h2 : k = false → BD F b L l L) : BD F (.BoolOp .Or [a, b] pos) L (k || l) L := by
  cases k with
  | true => exact (wd_orT h).bd
  | false => exact (wd_orF h (wd_or1 (h2 rfl))).bd
/-- as values -/
theorem ed_and2 {k l : Bool} (h : ED F a L (.bool k) L) (h2 : k = true → ED F b L (.bool l) L) : ED F (.BoolOp .And [a, b] pos) L (.bool (k && l)) L := by
  obtain ⟨te, pe, run⟩ := h
  cases k with
  | true =>
    obtain ⟨te2, pe2, run2⟩ := h2 rfl
    refine ⟨_, fun j => pe_and (pe j) (pe_one (pe2 j)), fun σ G H S Q q => run σ G H S _ fun v G' H' S' T r => ?_⟩
    cases r
    exact ⟨true, rfl, iteT (run2 σ G' H' S' Q fun v G2 H2 S2 T2 r2 => q _ _ _ S2 (T.trans T2) r2)⟩
  | false =>
    refine ⟨_, fun j => pe_and (pe j) (pe_one (pe_no _ _)), fun σ G H S Q q => run σ G H S _ fun v G' H' S' T r => ?_⟩
    cases r
    exact ⟨false, rfl, iteF (q _ _ _ S' T (.bl _))⟩
theorem ed_or2 {k l : Bool} (h : ED F a L (.bool k) L) (h2 : k = false → ED F b L (.bool l) L) : ED F (.BoolOp .Or [a, b] pos) L (.bool (k || l)) L := by
  obtain ⟨te, pe, run⟩ := h
  cases k with
  | false =>
    obtain ⟨te2, pe2, run2⟩ := h2 rfl
    refine ⟨_, fun j => pe_or (pe j) (pe_one (pe2 j)), fun σ G H S Q q => run σ G H S _ fun v G' H' S' T r => ?_⟩
    cases r
    exact ⟨false, rfl, iteF (run2 σ G' H' S' Q fun v G2 H2 S2 T2 r2 => q _ _ _ S2 (T.trans T2) r2)⟩
  | true =>
    refine ⟨_, fun j => pe_or (pe j) (pe_one (pe_no _ _)), fun σ G H S Q q => run σ G H S _ fun v G' H' S' T r => ?_⟩
    cases r
    exact ⟨true, rfl, iteT (q _ _ _ S' T (.bl _))⟩
theorem ed_not {k : Bool} (h : ED F e L (.bool k) L') : ED F (.UnaryOp .Not e pos) L (.bool (!k)) L' := by
  obtain ⟨te, pe, run⟩ := h
  refine ⟨_, fun j => pe_not (pe j), fun σ G H S Q q => run σ G H S _ fun v G' H' S' T r => ?_⟩
  cases r
  exact ⟨k, rfl, q _ _ _ S' T (.bl _)⟩
theorem ed_if {k : Bool} (h : BD F c L k L1) (h1 : k = true → ED F a L1 d L') (h2 : k = false → ED F b L1 d L') : ED F (.IfExp c a b pos) L d L' := by
  obtain ⟨tc, pc, run⟩ := h
  cases k with
  | true =>
    obtain ⟨te, pe, run1⟩ := h1 rfl
    refine ⟨_, fun j => pe_ifExp (pc j) (pe j) (pe_no _ _), fun σ G H S Q q => run σ G H S _ fun G' H' S' T => ?_⟩
    exact iteT (run1 σ G' H' S' Q fun v G2 H2 S2 T2 r => q _ _ _ S2 (T.trans T2) r)
  | false =>
    obtain ⟨te, pe, run1⟩ := h2 rfl
    refine ⟨_, fun j => pe_ifExp (pc j) (pe_no _ _) (pe j), fun σ G H S Q q => run σ G H S _ fun G' H' S' T => ?_⟩
    exact iteF (run1 σ G' H' S' Q fun v G2 H2 S2 T2 r => q _ _ _ S2 (T.trans T2) r)
/-- truth of a list -/
def TruD : PyData → Bool → Prop
  | .none, k => k = false
  | .bool b, k => k = b
  | .int i, k => k = (i != 0)
  | .list ds, k => k = !ds.isEmpty
  | .tuple ds, k => k = !ds.isEmpty
  | _, _ => False
theorem emptyA {H : Hp} {xs : List V} {ds : List PyData} (r : RpA H xs ds) : xs.isEmpty = ds.isEmpty := by cases r <;> rfl
theorem bd_tru {k : Bool} (h : HD F e L d L') (ht : TruD d k) (he : ∀ X : Cx, ∀ whole, isTrue e X.env whole = (do let v ← whole; standAt e.pos; holding [v] (truthy v)) := by intro _ _; rfl) : BD F e L k L' := by
  obtain ⟨te, pe, run⟩ := h
  refine ⟨fun σ H Q => te σ H fun x H' => ∃ k, TruV F.K x H' k ∧ Q k H', fun j => by rw [← F.hK j]; exact pt_truth (pe j) (he _), fun σ G H S Q q => run σ G H S _ fun v G' H' S' T r => ⟨k, ?_, q _ _ S' T⟩⟩
  cases r with
  | non => exact ht
  | bl b => exact ht
  | int n => exact ht
  | str z => exact ht.elim
  | lst h1 h2 => exact .inl ⟨_, SqL.of h1, by rw [emptyA h2]; exact ht⟩
  | tup h1 h2 => exact .inr (.inl ⟨_, SqT.of h1, by rw [emptyA h2]; exact ht⟩)
  | dct kvs h => exact ht.elim
  | dcs => exact ht.elim
  | exc => exact ht.elim

/-! ### is None, ==, in -/
def isN : PyData → Bool
  | .none => true
  | _ => false
theorem rp_isN {G : Hp} {v : V} (r : Rp G v d) : decide (v = .non) = isN d := by
  cases r <;> first | rfl | exact decide_eq_false (fun z => nomatch z)
theorem cd_isN {j0 : Nat} {pos' : Pos} (h : ED F a L d L') : CD F (.Compare a [.Is] [.Constant .none j0 pos'] pos) L (isN d) L' :=
  cd_cmp (fun _ => op_isN) (nomark _) h ed_non fun x y G H _ r1 r2 Q q => by
    cases r2
    refine ⟨rfl, ?_⟩
    rw [rp_isN r1]
    exact q
theorem cd_notN {j0 : Nat} {pos' : Pos} (h : ED F a L d L') : CD F (.Compare a [.IsNot] [.Constant .none j0 pos'] pos) L (!isN d) L' :=
  cd_cmp (fun _ => op_notN) (nomark _) h ed_non fun x y G H _ r1 r2 Q q => by
    cases r2
    refine ⟨rfl, ?_⟩
    rw [rp_isN r1]
    exact q
theorem eqDf (F : Fam) (j : F.J) : OpR (F.x j) (compareOp .Eq) (rEqD F.K) := by
  rw [← F.hK j]
  exact op_eqD (F.hr j).units
theorem neDf (F : Fam) (j : F.J) : OpR (F.x j) (compareOp .NotEq) (rNeD F.K) := by
  rw [← F.hK j]
  exact op_neD (F.hr j).units
theorem noDict_shaped {d : PyData} (h : SeqAt.shaped d = true) : d.hasDict = false := PyData.hasDict_of_canLay d (SeqAt.canLay_of_shaped h)
theorem cd_eqD (ha : ED F a L d1 L1) (hb : HD F b L1 d2 L2') (s1 : SeqAt.shaped d1 = true) (s2 : SeqAt.shaped d2 = true) : CD F (.Compare a [.Eq] [b] pos) L (PyData.eqv d1 d2) L2' :=
  cd_cmpH (eqDf F) (nomark _) ha hb fun x y H r1 r2 Q q => ⟨d1, d2, Rp.dp _ _ (noDict_shaped s1) r1, Rp.dp _ _ (noDict_shaped s2) r2, s1, s2, q⟩
theorem cd_neD (ha : ED F a L d1 L1) (hb : HD F b L1 d2 L2') (s1 : SeqAt.shaped d1 = true) (s2 : SeqAt.shaped d2 = true) : CD F (.Compare a [.NotEq] [b] pos) L (!PyData.eqv d1 d2) L2' :=
  cd_cmpH (neDf F) (nomark _) ha hb fun x y H r1 r2 Q q => ⟨d1, d2, Rp.dp _ _ (noDict_shaped s1) r1, Rp.dp _ _ (noDict_shaped s2) r2, s1, s2, q⟩
/-- flat data -/
def flatD : PyData → Bool
  | .none | .bool _ | .int _ | .str _ => true
  | _ => false
def eqF : PyData → PyData → Bool
  | .none, .none => true
  | .bool a, .bool b => a == b
  | .int a, .int b => a == b
  | .int a, .bool b => a == (if b then 1 else 0)
  | .bool a, .int b => b == (if a then 1 else 0)
  | .str a, .str b => a == b
  | _, _ => false
/-! ### arguments -/
theorem ad_nil : AD F [] L [] L := ⟨_, fun _ => pa_nil, fun σ G H S Q q => q _ _ _ S .refl .nil⟩
theorem ad_cons (h : ED F e L d L1) (h2 : AD F es L1 ds L') (hs : ∀ env, starEach (e :: es) env = (false, eval e env) :: starEach es env := by intro _; rfl) : AD F (e :: es) L (d :: ds) L' := by
  obtain ⟨te, pe, run⟩ := h
  obtain ⟨ta, pa, run2⟩ := h2
  refine ⟨_, fun j => pa_cons (pe j) (pa j) (hs _), fun σ G H S Q q => run σ G H S _ fun v G' H' S' T r => run2 σ G' H' S' _ fun vs G2 H2 S2 T2 r2 => ?_⟩
  exact q _ _ _ S2 (T.trans T2) (.cons (r.up T2.g) r2)
theorem ad_one (h : ED F e L d L') (hs : ∀ env, starEach [e] env = (false, eval e env) :: starEach [] env := by intro _; rfl) : AD F [e] L [d] L' := ad_cons h ad_nil hs
/-! ### displays -/
theorem fd_lst (h : AD F es L ds L') (hl : ds.length ≤ 100000 := by first | decide | simp | omega) : FD F (.List es pos) L ds L' := by
  obtain ⟨te, pe, run⟩ := h
  refine ⟨_, fun j => pe_lst (pe j), fun σ G H S Q q => run σ G H S _ fun vs G' H' S' T r => ⟨Nat.le_trans (by rw [r.len]; exact hl) (by decide), fun p hp => ?_⟩⟩
  obtain ⟨S2, T2⟩ := S'.new (o := .lst vs) hp
  exact q p vs G' _ S2 (T.trans T2) (T.back hp) upd_same (S'.gn hp) r
end
end DL
namespace DL
open PySem L2
variable [TabL]

/-! ### the widest readings -/
section
variable (F : Fam)
def teA (e : Expr) : TE := fun σ H Q => ∃ te, PEf F e te ∧ te σ H Q
def ttA (e : Expr) : TT := fun σ H Q => ∃ te, PTf F e te ∧ te σ H Q
def tssA (b : List Stmt) : TS := fun D σ H => ∃ ts, PSsf F b ts ∧ ts D σ H
theorem pe_any (e : Expr) : PEf F e (teA F e) := fun j => ⟨fun pins s σ H Q I h => let ⟨te, pe, q⟩ := h; (pe j).run pins s σ H Q I q⟩
theorem pt_any (e : Expr) : PTf F e (ttA F e) := fun j => ⟨fun pins s σ H Q I h => let ⟨te, pe, q⟩ := h; (pe j).run pins s σ H Q I q⟩
theorem pss_any (b : List Stmt) : PSsf F b (tssA F b) := fun j => ⟨fun pins s σ H Q I h => let ⟨te, pe, q⟩ := h; (pe j).run pins s σ H Q I q⟩
end

/-! ### what a call leaves -/
structure Aft (A : Addr → Prop) (G H G' H' : Hp) : Prop where
  g : Same G G'
  gh : Same G' H'
  fr : ∀ b o, H b = some o → G b = none → ¬ A b → Fr1 H' G' b o
  th : Thr G H G' H'
abbrev N0 : Addr → Prop := fun _ => False
section
variable {L L1 L2' L' : List Sl} {σ σ' : L2.St} {G G1 G' H H1 H' : Hp} {i : Nat} {p a : Addr} {v : V} {d r : PyData} {ds ms ms' : List PyData} {xs : List V}
theorem Sta.aft (S : Sta L σ G H) (A : Aft N0 G H G' H') : Sta L σ G' H' ∧ Te L σ G H L G' H' := by
  refine ⟨⟨A.gh, S.ln, fun i x t e1 e2 => ?_, S.di⟩, ⟨A.g, fun b o h g _ => A.fr b o h g (fun z => z), fun _ z => z, A.th⟩⟩
  have q := S.sl i x t e1 e2
  cases t with
  | no => exact q
  | va d =>
    obtain ⟨v, e, r⟩ := q
    exact ⟨v, e, r.up A.g⟩
  | ow ds =>
    obtain ⟨a, ys, e, q1, q2, q3⟩ := q
    obtain ⟨z1, z2⟩ := A.fr a _ q1 q3 (fun z => z) pl_lst
    exact ⟨a, ys, e, z1, q2.up A.g, z2⟩
  | tb => exact A.th.tabs q
  | fn f G1 => exact ⟨q.1, q.2.trans A.g⟩
theorem own_set {b : Addr} {t : Sl} (h : Own (L.set i t) σ b) : Own L σ b ∨ (∃ ds, t = .ow ds ∧ σ[i]? = some (some (V.ref b))) := by
  obtain ⟨j, ds, h1, h2⟩ := h
  by_cases hj : i = j
  · subst hj
    have hl : i < L.length := by
      have := (List.getElem?_eq_some_iff.mp h1).1
      rwa [List.length_set] at this
    rw [List.getElem?_set_self hl] at h1
    cases h1
    exact .inr ⟨ds, rfl, h2⟩
  · rw [List.getElem?_set_ne hj] at h1
    exact .inl ⟨j, ds, h1, h2⟩
/-- one's own list at slot i is changed -/
theorem Sta.mut (S : Sta L σ G H) (hi : L[i]? = some (Sl.ow ms)) (hs : σ[i]? = some (some (V.ref a))) (A : Aft (· = a) G H G' H') (ha : H' a = some (.lst xs)) (r : RpA G' xs ms') (hg : G' a = none) :
    Sta (L.set i (.ow ms')) σ G' H' ∧ Te L σ G H (L.set i (.ow ms')) G' H' := by
  have hl : i < L.length := (List.getElem?_eq_some_iff.mp hi).1
  refine ⟨⟨A.gh, by rw [List.length_set]; exact S.ln, fun j x t e1 e2 => ?_, fun j k b es us e1 e2 e3 e4 => ?_⟩, ⟨A.g, fun b o h g n => A.fr b o h g (fun z => n ⟨i, ms, hi, by rw [z]; exact hs⟩), fun b z => ?_, A.th⟩⟩
  · by_cases hj : i = j
    · subst hj
      rw [List.getElem?_set_self hl] at e2
      cases e2
      rw [hs] at e1
      cases e1
      exact ⟨a, xs, rfl, ha, r, hg⟩
    · rw [List.getElem?_set_ne hj] at e2
      have q := S.sl j x t e1 e2
      cases t with
      | no => exact q
      | va d =>
        obtain ⟨v, e, r⟩ := q
        exact ⟨v, e, r.up A.g⟩
      | ow ds =>
        obtain ⟨b, ys, e, q1, q2, q3⟩ := q
        subst e
        have nb : ¬ b = a := fun z => hj (S.di i j a ms ds hi e2 hs (by rw [← z]; exact e1))
        obtain ⟨z1, z2⟩ := A.fr b _ q1 q3 nb pl_lst
        exact ⟨b, ys, rfl, z1, q2.up A.g, z2⟩
      | tb => exact A.th.tabs q
      | fn f G1 => exact ⟨q.1, q.2.trans A.g⟩
  · have back : ∀ k us, (L.set i (.ow ms'))[k]? = some (Sl.ow us) → ∃ ws, L[k]? = some (Sl.ow ws) := fun k us e => by
      by_cases hk : i = k
      · subst hk
        exact ⟨ms, hi⟩
      · rw [List.getElem?_set_ne hk] at e
        exact ⟨us, e⟩
    obtain ⟨_, f1⟩ := back j es e1
    obtain ⟨_, f2⟩ := back k us e2
    exact S.di j k b _ _ f1 f2 e3 e4
  · rcases own_set z with z | ⟨_, _, z⟩
    · exact z
    · exact ⟨i, ms, hi, z⟩
end

/-! ### promises -/
def spD (Φ : List PyData → PyData → Prop) : Sp := fun vs H Q _ => ∃ ds r G, Φ ds r ∧ Same G H ∧ RpA G vs ds ∧ ∀ v G' H', Aft N0 G H G' H' → Rp G' v r → Q v H'
/-- a new list -/
def spL (Φ : List PyData → List PyData → Prop) : Sp := fun vs H Q _ => ∃ ds rs G, Φ ds rs ∧ Same G H ∧ RpA G vs ds ∧ ∀ p xs G' H', Aft N0 G H G' H' → H p = none → H' p = some (.lst xs) → G' p = none → RpA G' xs rs → Q (.ref p) H'
/-- the first argument is a list that is changed -/
def spM (Φ : List PyData → List PyData → PyData × List PyData → Prop) : Sp := fun vs H Q _ => ∃ a ws xs ms ds r ms' G, vs = .ref a :: ws ∧ Φ ms ds (r, ms') ∧ Same G H ∧ RpA G ws ds ∧ H a = some (.lst xs) ∧ RpA G xs ms ∧ G a = none ∧
  ∀ v G' H' ys, Aft (· = a) G H G' H' → H' a = some (.lst ys) → RpA G' ys ms' → G' a = none → Rp G' v r → Q v H'
/-- .. and a new list is handed back -/
def spML (Φ : List PyData → List PyData → List PyData × List PyData → Prop) : Sp := fun vs H Q _ => ∃ a ws xs ms ds rs ms' G, vs = .ref a :: ws ∧ Φ ms ds (rs, ms') ∧ Same G H ∧ RpA G ws ds ∧ H a = some (.lst xs) ∧ RpA G xs ms ∧ G a = none ∧
  ∀ p zs G' H' ys, Aft (· = a) G H G' H' → H' a = some (.lst ys) → RpA G' ys ms' → G' a = none → H p = none → H' p = some (.lst zs) → G' p = none → RpA G' zs rs → Q (.ref p) H'
/-- a def of the program as it may be called by place -/
structure Df (P : Program) (w : World) (K : PySem.W.Frag) (mg : Str → Option Value) (base : Heap) (x : Str) (k : Nat) (sp : Sp) : Prop where
  ex : ∃ f fd ps, FnG P w K mg base k f fd ps sp ∧ mg x = some (.ref f) ∧ PySem.W.keepIn K (.ref f) = true ∧ ∀ (s : Shared) (us : List Value), K.In s.heap → us.length = ps.length → BindsTo s fd ⟨us, []⟩ (ps.zip us)
/-- .. n things by place, the others by the names ks, brought into the def's order by g -/
structure Dk (P : Program) (w : World) (K : PySem.W.Frag) (mg : Str → Option Value) (base : Heap) (x : Str) (k : Nat) (n : Nat) (ks : List Str) (g : List Value → List Value) (gV : List V → List V) (gD : List PyData → List PyData) (sp : Sp) : Prop where
  ex : ∃ f fd ps, FnG P w K mg base k f fd ps sp ∧ mg x = some (.ref f) ∧ PySem.W.keepIn K (.ref f) = true ∧ ∀ (s : Shared) (us ws : List Value), K.In s.heap → us.length = n → ws.length = ks.length → BindsTo s fd ⟨us, ks.zip ws⟩ (ps.zip (g (us ++ ws)))
  vals : ∀ (vs : List V) (us : List Value), vs.length = n + ks.length → Vals vs us → Vals (gV vs) (g us)
  data : ∀ (G : Hp) (vs : List V) (ds : List PyData), vs.length = n + ks.length → RpA G vs ds → RpA G (gV vs) (gD ds)
theorem Df.mono {P : Program} {w : World} {K : PySem.W.Frag} {mg : Str → Option Value} {base : Heap} {x : Str} {j k : Nat} {sp : Sp} (D : Df P w K mg base x j sp) (h : j ≤ k := by exact Nat.le_of_ble_eq_true rfl) : Df P w K mg base x k sp := by
  obtain ⟨f, fd, ps, F, q⟩ := D.ex
  exact ⟨f, fd, ps, F.up h, q⟩
theorem Dk.mono {P : Program} {w : World} {K : PySem.W.Frag} {mg : Str → Option Value} {base : Heap} {x : Str} {j k n : Nat} {ks : List Str} {g : List Value → List Value} {gV : List V → List V} {gD : List PyData → List PyData} {sp : Sp} (D : Dk P w K mg base x j n ks g gV gD sp) (h : j ≤ k := by exact Nat.le_of_ble_eq_true rfl) : Dk P w K mg base x k n ks g gV gD sp := by
  obtain ⟨f, fd, ps, F, q⟩ := D.ex
  exact ⟨⟨f, fd, ps, F.up h, q⟩, D.vals, D.data⟩
abbrev Fam.Df (F : Fam) (x : Str) (sp : Sp) : Prop := DL.Df F.P F.w F.K F.mg F.base x F.k sp
abbrev Fam.Dk (F : Fam) (x : Str) (n : Nat) (ks : List Str) (g : List Value → List Value) (gV : List V → List V) (gD : List PyData → List PyData) (sp : Sp) : Prop := DL.Dk F.P F.w F.K F.mg F.base x F.k n ks g gV gD sp

section
variable {F : Fam} {e a b c : Expr} {es : List Expr} {L L1 L2' L' L3 : List Sl} {d d1 d2 r : PyData} {ds ds2 rs ms ms' : List PyData} {i : Nat} {pos p p2 : Pos} {x : Str}

theorem call_any {sp : Sp} {ta : TA} (D : F.Df x sp) (hg : GlF F x) (pa : PAf F (e :: es) ta) (hdb : (x == ("__debug__" : Str)) = false) (he : ∀ env, starEach (e :: es) env = (false, eval e env) :: starEach es env) (hpl : ∀ env, (backTo pos (starEach es env)).any (·.1) = false) :
    PEf F (.Call (.Name x p) (e :: es) [] pos) (fun σ H Q => ta σ H fun vs H1 => sp vs H1 Q E0) := by
  obtain ⟨f, fd, ps, Fn, mf, kp, hb⟩ := D.ex
  intro j
  have Fj : FnG (F.x j).prog (F.x j).w (F.x j).K (F.x j).mg (F.x j).base F.k f fd ps sp := by
    rw [F.hP, F.hw, F.hK, F.hmg, F.hbase]
    exact Fn
  refine ⟨fun pins s σ H Q I h => ?_⟩
  refine wpAny_Call_Name_kw (ld_glob I (hg.gl j) (by rw [F.hmg]; exact mf) ?_ hdb)
  refine PySem.W.callWith_K (K := F.K) (h₀ := (F.x j).base) (by rw [← F.hK j]; exact I.ok.mod.kin) kp (thn ((pa j).run pos pins s σ H _ I h) fun us s1 ⟨vs, H1, I1, r, q⟩ => ?_) (he _) (hpl _)
  have inK : F.K.In s1.heap := by
    rw [← F.hK j]
    exact I1.kIn
  refine ⟨inK, ?_⟩
  exact runG Fj (F.hg j) (F.hr j) I1 (hb s1 us inK (by rw [← r.length]; exact Fn.len _ _ _ _ q)) r q
/-- with keywords -/
theorem callK_any {sp : Sp} {ta tk : TA} {n : Nat} {ks : List Str} {g : List Value → List Value} {gV : List V → List V} {gD : List PyData → List PyData} {kws : List Keyword} (D : F.Dk x n ks g gV gD sp) (hg : GlF F x) (pa : PAf F (e :: es) ta) (pk : ∀ j, PK (F.x j) kws tk) (hdb : (x == ("__debug__" : Str)) = false)
    (he : ∀ env, starEach (e :: es) env = (false, eval e env) :: starEach es env) (hall : ∀ env, (backToKw pos (keywordEach kws env)).all (·.1.isSome) = true) (hks : ∀ env, (backToKw pos (keywordEach kws env)).filterMap (·.1) = ks)
    (hpl : ∀ env, ((backTo pos (starEach (e :: es) env)).any (·.1) || (backToKw pos (keywordEach kws env)).any (·.1.isNone)) = false) :
    PEf F (.Call (.Name x p) (e :: es) kws pos) (fun σ H Q => ta σ H fun vs H1 => tk σ H1 fun zs H2 => vs.length = n ∧ zs.length = ks.length ∧ sp (gV (vs ++ zs)) H2 Q E0) := by
  obtain ⟨f, fd, ps, Fn, mf, kp, hb⟩ := D.ex
  intro j
  have Fj : FnG (F.x j).prog (F.x j).w (F.x j).K (F.x j).mg (F.x j).base F.k f fd ps sp := by
    rw [F.hP, F.hw, F.hK, F.hmg, F.hbase]
    exact Fn
  refine ⟨fun pins s σ H Q I h => ?_⟩
  refine wpAny_Call_Name_kw (ld_glob I (hg.gl j) (by rw [F.hmg]; exact mf) ?_ hdb)
  refine PySem.W.callWith_KW (K := F.K) (h₀ := (F.x j).base) (by rw [← F.hK j]; exact I.ok.mod.kin) kp (hall _) (thn ((pa j).run pos pins s σ H _ I h) fun us s1 ⟨vs, H1, I1, r, q⟩ => ?_) (hpl _) (he _)
  refine thn ((pk j).run pos pins s1 σ H1 _ I1 q) fun ws s2 ⟨zs, H2, I2, rz, l1, l2, q2⟩ => ?_
  have inK : F.K.In s2.heap := by
    rw [← F.hK j]
    exact I2.kIn
  refine ⟨inK, ?_⟩
  rw [hks]
  exact runG Fj (F.hg j) (F.hr j) I2 (hb s2 us ws inK (by rw [← r.length]; exact l1) (by rw [← rz.length]; exact l2)) (D.vals _ _ (by rw [List.length_append, l1, l2]) (r.append rz)) q2
theorem callK0_any {sp : Sp} {tk : TA} {ks : List Str} {g : List Value → List Value} {gV : List V → List V} {gD : List PyData → List PyData} {kws : List Keyword} (D : F.Dk x 0 ks g gV gD sp) (hg : GlF F x) (pk : ∀ j, PK (F.x j) kws tk) (hdb : (x == ("__debug__" : Str)) = false)
    (hall : ∀ env, (backToKw pos (keywordEach kws env)).all (·.1.isSome) = true) (hks : ∀ env, (backToKw pos (keywordEach kws env)).filterMap (·.1) = ks)
    (hpl : ∀ env, ((backTo pos (starEach [] env)).any (·.1) || (backToKw pos (keywordEach kws env)).any (·.1.isNone)) = false) :
    PEf F (.Call (.Name x p) [] kws pos) (fun σ H Q => tk σ H fun zs H2 => zs.length = ks.length ∧ sp (gV zs) H2 Q E0) := by
  obtain ⟨f, fd, ps, Fn, mf, kp, hb⟩ := D.ex
  intro j
  have Fj : FnG (F.x j).prog (F.x j).w (F.x j).K (F.x j).mg (F.x j).base F.k f fd ps sp := by
    rw [F.hP, F.hw, F.hK, F.hmg, F.hbase]
    exact Fn
  refine ⟨fun pins s σ H Q I h => ?_⟩
  refine wpAny_Call_Name_kw (ld_glob I (hg.gl j) (by rw [F.hmg]; exact mf) ?_ hdb)
  refine PySem.W.callWith_KW0 (K := F.K) (h₀ := (F.x j).base) (by rw [← F.hK j]; exact I.ok.mod.kin) kp (hall _) (thn ((pk j).run pos pins s σ H _ I h) fun ws s2 ⟨zs, H2, I2, rz, l2, q2⟩ => ?_) (hpl _)
  have inK : F.K.In s2.heap := by
    rw [← F.hK j]
    exact I2.kIn
  refine ⟨inK, ?_⟩
  rw [hks]
  exact runG Fj (F.hg j) (F.hr j) I2 (hb s2 [] ws inK rfl (by rw [← rz.length]; exact l2)) (D.vals _ _ (by rw [l2]; simp) rz) q2
theorem ed_call {Φ : List PyData → PyData → Prop} (D : F.Df x (spD Φ)) (ha : AD F (e :: es) L ds L') (hΦ : Φ ds r) (hg : GlF F x := by rfl) (hdb : (x == ("__debug__" : Str)) = false := by decide)
    (he : ∀ env, starEach (e :: es) env = (false, eval e env) :: starEach es env := by intro _; rfl) (hpl : ∀ env, (backTo pos (starEach es env)).any (·.1) = false := by intro _; rfl) : ED F (.Call (.Name x p) (e :: es) [] pos) L r L' := by
  obtain ⟨ta, pa, ra⟩ := ha
  refine ⟨_, call_any D hg pa hdb he hpl, fun σ G H S Q q => ra σ G H S _ fun vs G1 H1 S1 T1 r1 => ⟨ds, r, G1, hΦ, S1.gh, r1, fun v G' H' A rv => ?_⟩⟩
  obtain ⟨S2, T2⟩ := S1.aft A
  exact q v G' H' S2 (T1.trans T2) rv
theorem fd_call {Φ : List PyData → List PyData → Prop} (D : F.Df x (spL Φ)) (ha : AD F (e :: es) L ds L') (hΦ : Φ ds rs) (hg : GlF F x := by rfl) (hdb : (x == ("__debug__" : Str)) = false := by decide)
    (he : ∀ env, starEach (e :: es) env = (false, eval e env) :: starEach es env := by intro _; rfl) (hpl : ∀ env, (backTo pos (starEach es env)).any (·.1) = false := by intro _; rfl) : FD F (.Call (.Name x p) (e :: es) [] pos) L rs L' := by
  obtain ⟨ta, pa, ra⟩ := ha
  refine ⟨_, call_any D hg pa hdb he hpl, fun σ G H S Q q => ra σ G H S _ fun vs G1 H1 S1 T1 r1 => ⟨ds, rs, G1, hΦ, S1.gh, r1, fun p xs G' H' A hp hp' gp rv => ?_⟩⟩
  obtain ⟨S2, T2⟩ := S1.aft A
  exact q p xs G' H' S2 (T1.trans T2) (T1.back hp) hp' gp rv
/-- f(x, ..), x's own list is changed by f -/
theorem ed_callM {Φ : List PyData → List PyData → PyData × List PyData → Prop} {y : Str} {py : Pos} (i : Nat) (D : F.Df x (spM Φ)) (hi : L'[i]? = some (Sl.ow ms)) (ha : AD F es L ds L') (hΦ : Φ ms ds (r, ms')) (hg : GlF F x := by rfl)
    (hN : F.N[i]? = some y := by rfl) (hv : Vis F.sc y := by first | exact Or.inl rfl | exact Or.inr (Or.inl rfl) | exact Or.inr (Or.inr rfl)) (hd : (y == ("__debug__" : Str)) = false := by decide) (hcd : (y == ("__classdict__" : Str)) = false := by decide)
    (hdb : (x == ("__debug__" : Str)) = false := by decide) (he : ∀ env, starEach (.Name y py :: es) env = (false, eval (.Name y py) env) :: starEach es env := by intro _; rfl) (hpl : ∀ env, (backTo pos (starEach es env)).any (·.1) = false := by intro _; rfl) (hL : ∃ us, L[i]? = some (Sl.ow us) := by exact ⟨_, rfl⟩) :
    ED F (.Call (.Name x p) (.Name y py :: es) [] pos) L r (L'.set i (.ow ms')) := by
  obtain ⟨ta, pa, ra⟩ := ha
  refine ⟨_, call_any D hg (fun j => pa_cons (pvF F i hN hv hd hcd j) (pa j) (he _)) hdb he hpl, fun σ G H S Q q => ?_⟩
  obtain ⟨us, hus⟩ := hL
  obtain ⟨x0, e1, a, xs0, rfl, _⟩ := S.get hus
  refine ⟨.ref a, e1, ra σ G H S _ fun vs G1 H1 S1 T1 r1 => ?_⟩
  obtain ⟨x1, e2, a', xs, z, h1, r2, g1⟩ := S1.get hi
  rw [e1] at e2
  cases e2
  cases z
  refine ⟨a, vs, xs, ms, ds, r, ms', G1, rfl, hΦ, S1.gh, r1, h1, r2, g1, fun v G' H' ys A hy ry gy rv => ?_⟩
  obtain ⟨S2, T2⟩ := S1.mut hi e1 A hy ry gy
  exact q v G' H' S2 (T1.trans T2) rv
theorem fd_callM {Φ : List PyData → List PyData → List PyData × List PyData → Prop} {y : Str} {py : Pos} (i : Nat) (D : F.Df x (spML Φ)) (hi : L'[i]? = some (Sl.ow ms)) (ha : AD F es L ds L') (hΦ : Φ ms ds (rs, ms')) (hg : GlF F x := by rfl)
    (hN : F.N[i]? = some y := by rfl) (hv : Vis F.sc y := by first | exact Or.inl rfl | exact Or.inr (Or.inl rfl) | exact Or.inr (Or.inr rfl)) (hd : (y == ("__debug__" : Str)) = false := by decide) (hcd : (y == ("__classdict__" : Str)) = false := by decide)
    (hdb : (x == ("__debug__" : Str)) = false := by decide) (he : ∀ env, starEach (.Name y py :: es) env = (false, eval (.Name y py) env) :: starEach es env := by intro _; rfl) (hpl : ∀ env, (backTo pos (starEach es env)).any (·.1) = false := by intro _; rfl) (hL : ∃ us, L[i]? = some (Sl.ow us) := by exact ⟨_, rfl⟩) :
    FD F (.Call (.Name x p) (.Name y py :: es) [] pos) L rs (L'.set i (.ow ms')) := by
  obtain ⟨ta, pa, ra⟩ := ha
  refine ⟨_, call_any D hg (fun j => pa_cons (pvF F i hN hv hd hcd j) (pa j) (he _)) hdb he hpl, fun σ G H S Q q => ?_⟩
  obtain ⟨us, hus⟩ := hL
  obtain ⟨x0, e1, a, xs0, rfl, _⟩ := S.get hus
  refine ⟨.ref a, e1, ra σ G H S _ fun vs G1 H1 S1 T1 r1 => ?_⟩
  obtain ⟨x1, e2, a', xs, z, h1, r2, g1⟩ := S1.get hi
  rw [e1] at e2
  cases e2
  cases z
  refine ⟨a, vs, xs, ms, ds, rs, ms', G1, rfl, hΦ, S1.gh, r1, h1, r2, g1, fun p zs G' H' ys A hy ry gy hp hp' gp rz => ?_⟩
  obtain ⟨S2, T2⟩ := S1.mut hi e1 A hy ry gy
  exact q p zs G' H' S2 (T1.trans T2) (T1.back hp) hp' gp rz

/-! ### built-ins by name -/
theorem bt_any {id : String} {rr : List V → Hp → VK → Prop} {ta : TA} (hc : ∀ j, CallR (F.x j) (.builtin id) rr) (hg : GlF F x) (hm : F.mg x = none) (hv : bootBuiltins x = some (.builtin id)) (pa : PAf F (e :: es) ta) (hn : x ≠ "__name__") (hdb : (x == ("__debug__" : Str)) = false)
    (he : ∀ env, starEach (e :: es) env = (false, eval e env) :: starEach es env) (hpl : ∀ env, (backTo pos (starEach es env)).any (·.1) = false) : PEf F (.Call (.Name x p) (e :: es) [] pos) (tCB rr ta) :=
  fun j => pe_callB (hc j) (hg.gl j) (by rw [F.hmg]; exact hm) hv (pa j) hn hdb (he _) (hpl _)
theorem ty_any {id : String} {rr : List V → Hp → VK → Prop} {ta : TA} (hc : ∀ j, CallR (F.x j) (.type id) rr) (hg : GlF F x) (hm : F.mg x = none) (hv : bootBuiltins x = some (.type id)) (pa : PAf F (e :: es) ta) (hn : x ≠ "__name__") (hdb : (x == ("__debug__" : Str)) = false)
    (he : ∀ env, starEach (e :: es) env = (false, eval e env) :: starEach es env) (hpl : ∀ env, (backTo pos (starEach es env)).any (·.1) = false) : PEf F (.Call (.Name x p) (e :: es) [] pos) (tCB rr ta) :=
  fun j => pe_callTy (hc j) (hg.gl j) (by rw [F.hmg]; exact hm) hv (pa j) hn hdb (he _) (hpl _)
theorem pa1 {te : TE} (pe : PEf F e te) (hs : ∀ env, starEach [e] env = (false, eval e env) :: starEach [] env) : PAf F [e] (tCons te tNil) := fun j => pa_cons (pe j) pa_nil (hs _)
/-- int(e) of a number -/
theorem ed_int1 {n : Int} (h : ED F e L (.int n) L') (hm : F.mg "int" = none) (hg : GlF F "int" := by rfl) (hs : ∀ env, starEach [e] env = (false, eval e env) :: starEach [] env := by intro _; rfl) : ED F (.Call (.Name "int" p) [e] [] pos) L (.int n) L' := by
  obtain ⟨te, pe, run⟩ := h
  refine ⟨_, ty_any (fun _ => call_int1) hg hm PyProof.Rows.boot_int (pa1 pe hs) (by decide) (by decide) hs (fun _ => rfl), fun σ G H S Q q => run σ G H S _ fun v G' H' S' T r => ?_⟩
  cases r
  exact .inl ⟨n, rfl, q _ _ _ S' T (.int n)⟩
theorem ed_intB {k : Bool} (h : ED F e L (.bool k) L') (hm : F.mg "int" = none) (hg : GlF F "int" := by rfl) (hs : ∀ env, starEach [e] env = (false, eval e env) :: starEach [] env := by intro _; rfl) : ED F (.Call (.Name "int" p) [e] [] pos) L (.int (if k then 1 else 0)) L' := by
  obtain ⟨te, pe, run⟩ := h
  refine ⟨_, ty_any (fun _ => call_int1) hg hm PyProof.Rows.boot_int (pa1 pe hs) (by decide) (by decide) hs (fun _ => rfl), fun σ G H S Q q => run σ G H S _ fun v G' H' S' T r => ?_⟩
  cases r
  exact .inr ⟨k, rfl, q _ _ _ S' T (.int _)⟩
theorem lenf (F : Fam) (j : F.J) : CallR (F.x j) (.builtin "len") (fun xs H Q => ∃ p ys, xs = [.ref p] ∧ (SqL F.K H p ys ∨ SqT F.K H p ys) ∧ Q (.int ys.length) H) := by
  rw [← F.hK j]
  exact call_len_seq
theorem ed_len (h : LD F e L ds L') (hm : F.mg "len" = none) (hg : GlF F "len" := by rfl) (hs : ∀ env, starEach [e] env = (false, eval e env) :: starEach [] env := by intro _; rfl) : ED F (.Call (.Name "len" p) [e] [] pos) L (.int ds.length) L' := by
  obtain ⟨te, pe, run⟩ := h
  refine ⟨_, bt_any (lenf F) hg hm PySem.boot_len (pa1 pe hs) (by decide) (by decide) hs (fun _ => rfl), fun σ G H S Q q => run σ G H S _ fun a xs G' H' S' T h1 r => ⟨a, xs, rfl, .inl (SqL.of h1), ?_⟩⟩
  rw [r.len]
  exact q _ _ _ S' T (.int _)
theorem ed_lenT (h : ED F e L (.tuple ds) L') (hm : F.mg "len" = none) (hg : GlF F "len" := by rfl) (hs : ∀ env, starEach [e] env = (false, eval e env) :: starEach [] env := by intro _; rfl) : ED F (.Call (.Name "len" p) [e] [] pos) L (.int ds.length) L' := by
  obtain ⟨te, pe, run⟩ := h
  refine ⟨_, bt_any (lenf F) hg hm PySem.boot_len (pa1 pe hs) (by decide) (by decide) hs (fun _ => rfl), fun σ G H S Q q => run σ G H S _ fun v G' H' S' T r => ?_⟩
  cases r with
  | tup h1 h2 =>
    refine ⟨_, _, rfl, .inr (SqT.of (S'.gh _ _ h1)), ?_⟩
    rw [h2.len]
    exact q _ _ _ S' T (.int _)
theorem listf (F : Fam) (j : F.J) : CallR (F.x j) (.type "list") (fun xs H Q => ∃ p ys, xs = [.ref p] ∧ (SqL F.K H p ys ∨ SqT F.K H p ys) ∧ ∀ l, H l = none → Q (.ref l) (upd H l (.lst ys))) := by
  rw [← F.hK j]
  exact call_list_of
theorem fd_list (h : LD F e L ds L') (hm : F.mg "list" = none) (hg : GlF F "list" := by rfl) (hs : ∀ env, starEach [e] env = (false, eval e env) :: starEach [] env := by intro _; rfl) : FD F (.Call (.Name "list" p) [e] [] pos) L ds L' := by
  obtain ⟨te, pe, run⟩ := h
  refine ⟨_, ty_any (listf F) hg hm (by decide +kernel) (pa1 pe hs) (by decide) (by decide) hs (fun _ => rfl), fun σ G H S Q q => run σ G H S _ fun a xs G' H' S' T h1 r => ⟨a, xs, rfl, .inl (SqL.of h1), fun l hl => ?_⟩⟩
  obtain ⟨S2, T2⟩ := S'.new (o := .lst xs) hl
  exact q l xs G' _ S2 (T.trans T2) (T.back hl) upd_same (S'.gn hl) r

/-! ### subscripts -/
theorem ixLf (F : Fam) (j : F.J) : IxR (F.x j) (rIxL F.K) := by
  rw [← F.hK j]
  exact ix_list
theorem ixTf (F : Fam) (j : F.J) : IxR (F.x j) (rIxT F.K) := by
  rw [← F.hK j]
  exact ix_tup
theorem RpA.atI {G : Hp} {xs : List V} {n : Int} (r : RpA G xs ds) (h : atI ds n = some d) : ∃ v, L2.atI xs n = some v ∧ Rp G v d := by
  unfold L2.atI at h ⊢
  rw [r.len]
  cases e : ixN ds.length n with
  | none =>
    rw [e] at h
    cases h
  | some k =>
    rw [e] at h
    exact r.get h
theorem ed_ixL {n : Int} (ha : ED F a L (.list ds) L1) (hb : ED F b L1 (.int n) L') (h : atI ds n = some d) (hs : PlainIx b := by exact fun _ _ => rfl) : ED F (.Subscript a b pos) L d L' := by
  obtain ⟨ta, pa, ra⟩ := ha
  obtain ⟨tb, pb, rb⟩ := hb
  refine ⟨_, fun j => pe_ix (ixLf F j) (pa j) (pb j) hs, fun σ G H S Q q => ra σ G H S _ fun x G1 H1 S1 T1 r1 => rb σ G1 H1 S1 _ fun y G2 H2 S2 T2 r2 => ?_⟩
  cases r2
  cases r1 with
  | lst h1 h2 =>
    obtain ⟨v, hv, rv⟩ := h2.atI h
    exact ⟨_, _, n, v, rfl, rfl, SqL.of (S2.gh _ _ (T2.g _ _ h1)), hv, q v G2 H2 S2 (T1.trans T2) (rv.up T2.g)⟩
theorem ed_ixT {n : Int} (ha : ED F a L (.tuple ds) L1) (hb : ED F b L1 (.int n) L') (h : atI ds n = some d) (hs : PlainIx b := by exact fun _ _ => rfl) : ED F (.Subscript a b pos) L d L' := by
  obtain ⟨ta, pa, ra⟩ := ha
  obtain ⟨tb, pb, rb⟩ := hb
  refine ⟨_, fun j => pe_ix (ixTf F j) (pa j) (pb j) hs, fun σ G H S Q q => ra σ G H S _ fun x G1 H1 S1 T1 r1 => rb σ G1 H1 S1 _ fun y G2 H2 S2 T2 r2 => ?_⟩
  cases r2
  cases r1 with
  | tup h1 h2 =>
    obtain ⟨v, hv, rv⟩ := h2.atI h
    exact ⟨_, _, n, v, rfl, rfl, SqT.of (S2.gh _ _ (T2.g _ _ h1)), hv, q v G2 H2 S2 (T1.trans T2) (rv.up T2.g)⟩
/-- of one's own list, the index a reckoning that changes nothing -/
theorem ed_ixO {n : Int} {y : Str} {py : Pos} (i : Nat) (hi : L[i]? = some (Sl.ow ds)) (hb : ED F b L (.int n) L) (h : atI ds n = some d) (hN : F.N[i]? = some y := by rfl) (hv : Vis F.sc y := by first | exact Or.inl rfl | exact Or.inr (Or.inl rfl) | exact Or.inr (Or.inr rfl)) (hd : (y == ("__debug__" : Str)) = false := by decide) (hcd : (y == ("__classdict__" : Str)) = false := by decide)
    (hs : PlainIx b := by exact fun _ _ => rfl) : ED F (.Subscript (.Name y py) b pos) L d L := by
  obtain ⟨tb, pb, rb⟩ := hb
  refine ⟨_, fun j => pe_ix (ixLf F j) (pvF F i hN hv hd hcd j) (pb j) hs, fun σ G H S Q q => ?_⟩
  obtain ⟨x0, e1, a, xs0, rfl, _⟩ := S.get hi
  refine ⟨.ref a, e1, rb σ G H S _ fun y G2 H2 S2 T2 r2 => ?_⟩
  cases r2
  obtain ⟨x1, e2, a', xs, z, h1, r2, g1⟩ := S2.get hi
  rw [e1] at e2
  cases e2
  cases z
  obtain ⟨v, hv, rv⟩ := r2.atI h
  exact ⟨_, _, n, v, rfl, rfl, SqL.of h1, hv, q v G2 H2 S2 T2 rv⟩
end
end DL
namespace DL
open PySem PyProof.Rows L2
variable [TabL]

/-- what is wanted behind a statement, told over data -/
inductive Out where
  | nx (L : List Sl)
  | ct (L : List Sl)
  | bk (L : List Sl)
  | rt (d : PyData) (L : List Sl)
  /-- a new list is handed back -/
  | rl (ds : List PyData) (L : List Sl)

/-- the first z slots are not stored to -/
def Anc (z : List Nat) (σ σ' : L2.St) : Prop := ∀ i, i ∈ z → σ'[i]? = σ[i]?
def EndOk (z : List Nat) (L : List Sl) (σ : L2.St) (G H : Hp) (D : Ends) : Out → Prop
  | .nx L' => ∀ σ' G' H', Sta L' σ' G' H' → Ts L σ G H L' σ' G' H' → Anc z σ σ' → D.nx σ' H'
  | .ct L' => ∀ σ' G' H', Sta L' σ' G' H' → Ts L σ G H L' σ' G' H' → Anc z σ σ' → D.ct σ' H'
  | .bk L' => ∀ σ' G' H', Sta L' σ' G' H' → Ts L σ G H L' σ' G' H' → Anc z σ σ' → D.bk σ' H'
  | .rt d L' => ∀ v σ' G' H', Sta L' σ' G' H' → Ts L σ G H L' σ' G' H' → Anc z σ σ' → Rp G' v d → D.rt v H'
  | .rl ds L' => ∀ p xs σ' G' H', Sta L' σ' G' H' → Ts L σ G H L' σ' G' H' → Anc z σ σ' → (Own L σ p ∨ H p = none) → ¬ Own L' σ' p → H' p = some (.lst xs) → G' p = none → RpA G' xs ds → D.rt (.ref p) H'

/-- a statement, over the first z slots kept -/
def SD (z : List Nat) (F : Fam) (st : Stmt) (L : List Sl) (o : Out) : Prop := ∃ ts, PSf F st ts ∧ ∀ σ G H, Sta L σ G H → ∀ D, EndOk z L σ G H D o → ts D σ H
def SsD (z : List Nat) (F : Fam) (st : List Stmt) (L : List Sl) (o : Out) : Prop := ∃ ts, PSsf F st ts ∧ ∀ σ G H, Sta L σ G H → ∀ D, EndOk z L σ G H D o → ts D σ H

section
variable {z : List Nat} {F : Fam} {e a b c : Expr} {es : List Expr} {st : Stmt} {sts sts2 : List Stmt} {L L1 L2' L' L3 : List Sl} {d d1 d2 r : PyData} {ds ds2 rs ms ms' : List PyData} {i : Nat} {pos p p2 : Pos} {x y : Str} {o : Out} {σ σ' σ1 : L2.St} {G H G1 H1 : Hp} {D : Ends}

theorem Anc.refl : Anc z σ σ := fun _ _ => rfl
theorem Anc.trans (h : Anc z σ σ1) (h2 : Anc z σ1 σ') : Anc z σ σ' := fun i hi => (h2 i hi).trans (h i hi)
theorem Ts.ow2 {q : Addr} (gh : Same G1 H1) (T : Ts L σ G H L1 σ1 G1 H1) (h : Own L1 σ1 q ∨ H1 q = none) : Own L σ q ∨ H q = none := by
  rcases h with h | h
  · exact T.ow q h
  · refine .inr ?_
    cases e0 : H q with
    | none => rfl
    | some o =>
      obtain ⟨u, hu⟩ := T.th.th q o e0
      rw [h] at hu
      cases hu
/-- what is wanted goes over a step -/
theorem EndOk.from (h : EndOk z L σ G H D o) (S1 : Sta L1 σ1 G1 H1) (T : Ts L σ G H L1 σ1 G1 H1) (A : Anc z σ σ1) : EndOk z L1 σ1 G1 H1 D o := by
  cases o with
  | nx L' => exact fun σ' G' H' S' T' A' => h σ' G' H' S' (T.trans S1.gh T') (A.trans A')
  | ct L' => exact fun σ' G' H' S' T' A' => h σ' G' H' S' (T.trans S1.gh T') (A.trans A')
  | bk L' => exact fun σ' G' H' S' T' A' => h σ' G' H' S' (T.trans S1.gh T') (A.trans A')
  | rt d L' => exact fun v σ' G' H' S' T' A' r => h v σ' G' H' S' (T.trans S1.gh T') (A.trans A') r
  | rl ds L' => exact fun p xs σ' G' H' S' T' A' hp n q g r => h p xs σ' G' H' S' (T.trans S1.gh T') (A.trans A') (T.ow2 S1.gh hp) n q g r
def Out.leaves : Out → Bool
  | .nx _ => false
  | _ => true
theorem EndOk.ends {D' : Ends} (h : EndOk z L σ G H D o) (hl : o.leaves = true) (h1 : D'.ct = D.ct) (h2 : D'.bk = D.bk) (h3 : D'.rt = D.rt) : EndOk z L σ G H D' o := by
  cases o with
  | nx L' => cases hl
  | ct L' => intro σ' G' H' S' T' A'; rw [h1]; exact h σ' G' H' S' T' A'
  | bk L' => intro σ' G' H' S' T' A'; rw [h2]; exact h σ' G' H' S' T' A'
  | rt d L' => intro v σ' G' H' S' T' A' r; rw [h3]; exact h v σ' G' H' S' T' A' r
  | rl ds L' => intro p xs σ' G' H' S' T' A' hp n q g r; rw [h3]; exact h p xs σ' G' H' S' T' A' hp n q g r

/-! ### blocks -/
theorem ss_nil : SsD z F [] L (.nx L) := ⟨_, fun _ => pss_nil, fun σ G H S D q => q σ G H S .refl .refl⟩
theorem ss_cons (h : SD z F st L (.nx L1)) (h2 : SsD z F sts L1 o) : SsD z F (st :: sts) L o := by
  obtain ⟨t1, p1, r1⟩ := h
  obtain ⟨t2, p2, r2⟩ := h2
  refine ⟨_, fun j => pss_cons (p1 j) (p2 j), fun σ G H S D q => ?_⟩
  exact r1 σ G H S { D with nx := t2 D } fun σ' G' H' S' T' A' => r2 σ' G' H' S' D (q.from S' T' A')
theorem ss_end (h : SD z F st L o) (hl : o.leaves = true := by rfl) : SsD z F (st :: sts) L o := by
  obtain ⟨t1, p1, r1⟩ := h
  refine ⟨_, fun j => pss_cons (p1 j) pss_never, fun σ G H S D q => ?_⟩
  exact r1 σ G H S { D with nx := tNever D } (q.ends hl rfl rfl rfl)
theorem ss_one (h : SD z F st L o) : SsD z F [st] L o := by
  obtain ⟨t1, p1, r1⟩ := h
  exact ⟨_, fun j => pss_one (p1 j), r1⟩
/-- a block that may leave or go on -/
theorem ss_app (h : SD z F st L (.nx L1)) (h2 : SsD z F sts L1 o) : SsD z F (st :: sts) L o := ss_cons h h2

/-! ### slots stored -/
theorem Sta.set_va {v : V} (S : Sta L σ G H) (hi : i < L.length) (r : Rp G v d) : Sta (L.set i (.va d)) (σ.set i (some v)) G H ∧ Ts L σ G H (L.set i (.va d)) (σ.set i (some v)) G H := by
  have hs : i < σ.length := by rw [S.ln]; exact hi
  have own : ∀ j us, (L.set i (Sl.va d))[j]? = some (Sl.ow us) → i ≠ j ∧ L[j]? = some (Sl.ow us) := fun j us e => by
    by_cases hj : i = j
    · subst hj
      rw [List.getElem?_set_self hi] at e
      cases e
    · rw [List.getElem?_set_ne hj] at e
      exact ⟨hj, e⟩
  refine ⟨⟨S.gh, by rw [List.length_set, List.length_set]; exact S.ln, fun j x t e1 e2 => ?_, fun j k q us ws e1 e2 e3 e4 => ?_⟩, ⟨Same.refl _, fun b o h g _ _ => ⟨h, g⟩, fun b ⟨j, us, e1, e2⟩ => ?_, .refl⟩⟩
  · by_cases hj : i = j
    · subst hj
      rw [List.getElem?_set_self hs] at e1
      rw [List.getElem?_set_self hi] at e2
      cases e1
      cases e2
      exact ⟨v, rfl, r⟩
    · rw [List.getElem?_set_ne hj] at e1 e2
      exact S.sl j x t e1 e2
  · obtain ⟨n1, f1⟩ := own j us e1
    obtain ⟨n2, f2⟩ := own k ws e2
    rw [List.getElem?_set_ne n1] at e3
    rw [List.getElem?_set_ne n2] at e4
    exact S.di j k q us ws f1 f2 e3 e4
  · obtain ⟨n1, f1⟩ := own j us e1
    rw [List.getElem?_set_ne n1] at e2
    exact .inl ⟨j, us, f1, e2⟩
theorem Sta.set_ow {q : Addr} {xs : List V} (S : Sta L σ G H) (hi : i < L.length) (hq : H q = some (.lst xs)) (hg : G q = none) (no : ¬ Own L σ q) (r : RpA G xs ds) :
    Sta (L.set i (.ow ds)) (σ.set i (some (.ref q))) G H ∧ ∀ b, Own (L.set i (.ow ds)) (σ.set i (some (.ref q))) b → Own L σ b ∨ b = q := by
  have hs : i < σ.length := by rw [S.ln]; exact hi
  refine ⟨⟨S.gh, by rw [List.length_set, List.length_set]; exact S.ln, fun j x t e1 e2 => ?_, fun j k b us ws e1 e2 e3 e4 => ?_⟩, fun b ⟨j, us, e1, e2⟩ => ?_⟩
  · by_cases hj : i = j
    · subst hj
      rw [List.getElem?_set_self hs] at e1
      rw [List.getElem?_set_self hi] at e2
      cases e1
      cases e2
      exact ⟨q, xs, rfl, hq, r, hg⟩
    · rw [List.getElem?_set_ne hj] at e1 e2
      exact S.sl j x t e1 e2
  · by_cases hj : i = j
    · by_cases hk : i = k
      · exact hj.symm.trans hk
      · subst hj
        rw [List.getElem?_set_self hs] at e3
        cases e3
        rw [List.getElem?_set_ne hk] at e2 e4
        exact (no ⟨k, ws, e2, e4⟩).elim
    · by_cases hk : i = k
      · subst hk
        rw [List.getElem?_set_self hs] at e4
        cases e4
        rw [List.getElem?_set_ne hj] at e1 e3
        exact (no ⟨j, us, e1, e3⟩).elim
      · rw [List.getElem?_set_ne hj] at e1 e3
        rw [List.getElem?_set_ne hk] at e2 e4
        exact S.di j k b us ws e1 e2 e3 e4
  · by_cases hj : i = j
    · subst hj
      rw [List.getElem?_set_self hs] at e2
      cases e2
      exact .inr rfl
    · rw [List.getElem?_set_ne hj] at e1 e2
      exact .inl ⟨j, us, e1, e2⟩
theorem Anc.set {v : Option V} (h : i ∉ z) : Anc z σ (σ.set i v) := fun j hj => by
  rw [List.getElem?_set_ne (fun e => h (by rw [e]; exact hj))]

theorem locF {F : Fam} (hx : Loc F.sc x) (j : F.J) : Loc (F.x j).env.scope x := by
  rw [F.hsc]
  exact hx
/-- the names may be stored: cells of the def, or locals -/
def StF (F : Fam) (x : Str) : Prop := F.fn x = true ∨ F.sc.names.lookup x = some .local
theorem StF.at {F : Fam} (h : StF F x) (j : F.J) : (F.x j).fn x = true ∨ (F.x j).env.scope.names.lookup x = some .local := by
  rw [F.hfn, F.hsc]
  exact h
theorem set_any {te : TE} {e : Expr} {pos' : Pos} (pe : PEf F e te) (hn : F.N.Nodup) (hi : F.N[i]? = some x) (hx : Loc F.sc x) (hf : StF F x) (hs : ∀ j, swapsWith e (some (.Name x pos')) pos.line (F.x j).env = pure false) : PSf F (.Assign [.Name x pos'] e pos) (tAsg te (gName i)) :=
  fun j => ps_set (by rw [F.hN]; exact hn) (by rw [F.hN]; exact hi) (locF hx j) (pe j) (hs j) (hf.at j)
/-- x = e -/
theorem sd_set (i : Nat) {e : Expr} {pos' : Pos} (h : ED F e L d L1) (hz : i ∉ z := by decide) (hi : F.N[i]? = some x := by rfl) (hl : i < L1.length := by exact Nat.le_of_ble_eq_true rfl) (hx : Loc F.sc x := by first | exact Or.inl rfl | exact Or.inr rfl) (hf : StF F x := by first | exact Or.inl rfl | exact Or.inr rfl) (hn : F.N.Nodup := by exact of_decide_eq_true rfl)
    (hs : ∀ j, swapsWith e (some (.Name x pos')) pos.line (F.x j).env = pure false := by intro _; rfl) : SD z F (.Assign [.Name x pos'] e pos) L (.nx (L1.set i (.va d))) := by
  obtain ⟨te, pe, run⟩ := h
  refine ⟨_, set_any pe hn hi hx hf hs, fun σ G H S D q => run σ G H S _ fun v G' H' S' T' r => ?_⟩
  obtain ⟨S2, T2⟩ := S'.set_va hl r
  exact q _ _ _ S2 (T'.ts.trans S'.gh T2) (Anc.set hz)
/-- x = a new list -/
theorem sd_new (i : Nat) {e : Expr} {pos' : Pos} (h : FD F e L ds L1) (hz : i ∉ z := by decide) (hi : F.N[i]? = some x := by rfl) (hl : i < L1.length := by exact Nat.le_of_ble_eq_true rfl) (hx : Loc F.sc x := by first | exact Or.inl rfl | exact Or.inr rfl) (hf : StF F x := by first | exact Or.inl rfl | exact Or.inr rfl) (hn : F.N.Nodup := by exact of_decide_eq_true rfl)
    (hs : ∀ j, swapsWith e (some (.Name x pos')) pos.line (F.x j).env = pure false := by intro _; rfl) : SD z F (.Assign [.Name x pos'] e pos) L (.nx (L1.set i (.ow ds))) := by
  obtain ⟨te, pe, run⟩ := h
  refine ⟨_, set_any pe hn hi hx hf hs, fun σ G H S D q => run σ G H S _ fun p xs G' H' S' T' hp hp' gp r => ?_⟩
  obtain ⟨S2, O2⟩ := S'.set_ow hl hp' gp (fun w => S.own_ne hp (T'.ow p w)) r
  refine q _ _ _ S2 ⟨T'.g, T'.fr, fun b w => ?_, T'.th⟩ (Anc.set hz)
  rcases O2 b w with w | w
  · exact .inl (T'.ow b w)
  · exact .inr (by rw [w]; exact hp)
/-! ### return, if, pass .. -/
theorem sd_ret (h : ED F e L d L1) : SD z F (.Return (some e) pos) L (.rt d L1) := by
  obtain ⟨te, pe, run⟩ := h
  exact ⟨_, fun j => ps_ret (pe j), fun σ G H S D q => run σ G H S _ fun v G' H' S' T' r => q v σ G' H' S' T'.ts .refl r⟩
theorem sd_retL (h : FD F e L ds L1) : SD z F (.Return (some e) pos) L (.rl ds L1) := by
  obtain ⟨te, pe, run⟩ := h
  exact ⟨_, fun j => ps_ret (pe j), fun σ G H S D q => run σ G H S _ fun p xs G' H' S' T' hp hp' gp r => q p xs σ G' H' S' T'.ts .refl (.inr hp) (fun w => S.own_ne hp (T'.ow p w)) hp' gp r⟩
/-- return x, x's own list -/
theorem Sta.drop (S : Sta L σ G H) (i : Nat) : Sta (L.set i .no) σ G H ∧ Ts L σ G H (L.set i .no) σ G H := by
  have own : ∀ j us, (L.set i Sl.no)[j]? = some (Sl.ow us) → L[j]? = some (Sl.ow us) := fun j us e => by
    by_cases hj : i = j
    · subst hj
      have hi : i < L.length := by
        have := (List.getElem?_eq_some_iff.mp e).1
        rwa [List.length_set] at this
      rw [List.getElem?_set_self hi] at e
      cases e
    · rw [List.getElem?_set_ne hj] at e
      exact e
  refine ⟨⟨S.gh, by rw [List.length_set]; exact S.ln, fun j x t e1 e2 => ?_, fun j k b us ws e1 e2 e3 e4 => S.di j k b us ws (own j us e1) (own k ws e2) e3 e4⟩, ⟨Same.refl _, fun b o h g _ _ => ⟨h, g⟩, fun b ⟨j, us, e1, e2⟩ => .inl ⟨j, us, own j us e1, e2⟩, .refl⟩⟩
  by_cases hj : i = j
  · subst hj
    have hi : i < L.length := by
      have := (List.getElem?_eq_some_iff.mp e2).1
      rwa [List.length_set] at this
    rw [List.getElem?_set_self hi] at e2
    cases e2
    trivial
  · rw [List.getElem?_set_ne hj] at e2
    exact S.sl j x t e1 e2
theorem sd_retO (i : Nat) (hi : L[i]? = some (Sl.ow ds)) (hN : F.N[i]? = some x := by rfl) (hv : Vis F.sc x := by first | exact Or.inl rfl | exact Or.inr (Or.inl rfl) | exact Or.inr (Or.inr rfl)) (hd : (x == ("__debug__" : Str)) = false := by decide) (hcd : (x == ("__classdict__" : Str)) = false := by decide) :
    SD z F (.Return (some (.Name x p)) pos) L (.rl ds (L.set i .no)) := by
  refine ⟨_, fun j => ps_ret (pvF F i hN hv hd hcd j), fun σ G H S D q => ?_⟩
  obtain ⟨x1, e1, a, xs, rfl, h1, r, g⟩ := S.get hi
  obtain ⟨S2, T2⟩ := S.drop i
  refine ⟨.ref a, e1, q a xs σ G H S2 T2 .refl (.inl ⟨i, ds, hi, e1⟩) (fun w => ?_) h1 g r⟩
  obtain ⟨j, us, w1, w2⟩ := w
  by_cases hj : i = j
  · subst hj
    have hl : i < L.length := (List.getElem?_eq_some_iff.mp hi).1
    rw [List.getElem?_set_self hl] at w1
    cases w1
  · rw [List.getElem?_set_ne hj] at w1
    exact hj (S.di i j a ds us hi w1 e1 w2)
theorem sd_if {k : Bool} (h : BD F c L k L1) (h1 : k = true → SsD z F sts L1 o) (h2 : k = false → SsD z F sts2 L1 o) : SD z F (.If c sts sts2 pos) L o := by
  obtain ⟨tc, pc, run⟩ := h
  cases k with
  | true =>
    obtain ⟨t1, p1, r1⟩ := h1 rfl
    exact ⟨_, fun j => ps_if (pc j) (p1 j) pss_never, fun σ G H S D q => run σ G H S _ fun G' H' S' T' => iteT (r1 σ G' H' S' D (q.from S' T'.ts .refl))⟩
  | false =>
    obtain ⟨t2, p2, r2⟩ := h2 rfl
    exact ⟨_, fun j => ps_if (pc j) pss_never (p2 j), fun σ G H S D q => run σ G H S _ fun G' H' S' T' => iteF (r2 σ G' H' S' D (q.from S' T'.ts .refl))⟩
theorem sd_pass : SD z F (.Pass pos) L (.nx L) := ⟨_, fun _ => ps_pass, fun σ G H S D q => q σ G H S .refl .refl⟩
theorem sd_cont : SD z F (.Continue pos) L (.ct L) := ⟨_, fun _ => ps_continue, fun σ G H S D q => q σ G H S .refl .refl⟩
theorem sd_break : SD z F (.Break pos) L (.bk L) := ⟨_, fun _ => ps_break, fun σ G H S D q => q σ G H S .refl .refl⟩
theorem sd_expr (h : ED F e L d L1) (hs : ∀ env, swapsWith e none pos.line env = pure false := by intro _; rfl) : SD z F (.Expr e pos) L (.nx L1) := by
  obtain ⟨te, pe, run⟩ := h
  exact ⟨_, fun j => ps_expr (pe j) (hs _), fun σ G H S D q => run σ G H S _ fun v G' H' S' T' r => q σ G' H' S' T'.ts .refl⟩
/-! ### what is known is told otherwise -/
/-- one's own list is frozen -/
theorem ss_freeze (i : Nat) (hi : L[i]? = some (Sl.ow ds)) (h : SsD z F sts (L.set i (.va (.list ds))) o) : SsD z F sts L o := by
  obtain ⟨ts, ps, run⟩ := h
  refine ⟨ts, ps, fun σ G H S D q => ?_⟩
  obtain ⟨x1, e1, a, xs, rfl, h1, r, g⟩ := S.get hi
  obtain ⟨S1, T1⟩ := S.drop i
  have hl : i < L.length := (List.getElem?_eq_some_iff.mp hi).1
  have no : ¬ Own (L.set i .no) σ a := by
    rintro ⟨j, us, w1, w2⟩
    by_cases hj : i = j
    · subst hj
      rw [List.getElem?_set_self hl] at w1
      cases w1
    · rw [List.getElem?_set_ne hj] at w1
      exact hj (S.di i j a ds us hi w1 e1 w2)
  obtain ⟨S2, g2⟩ := S1.freeze h1 g no
  obtain ⟨S3, T3⟩ := S2.set_va (i := i) (d := .list ds) (v := .ref a) (by rw [List.length_set]; exact hl) (.lst upd_same (r.up g2))
  have eσ : σ.set i (some (V.ref a)) = σ := by
    obtain ⟨hlt, he⟩ := List.getElem?_eq_some_iff.mp e1
    rw [← he]
    exact List.set_getElem_self hlt
  rw [List.set_set, eσ] at S3
  refine run σ _ H S3 D (q.from S3 ⟨g2, fun b o hb gb nb _ => ⟨hb, ?_⟩, fun b ⟨j, us, w1, w2⟩ => ?_, .frz nt_lst⟩ .refl)
  · rw [upd_ne]
    · exact gb
    · rintro rfl
      exact nb ⟨i, ds, hi, e1⟩
  · refine .inl ⟨j, us, ?_, w2⟩
    by_cases hj : i = j
    · subst hj
      rw [List.getElem?_set_self hl] at w1
      cases w1
    · rw [List.getElem?_set_ne hj] at w1
      exact w1
/-- less is said -/
inductive Wk : List Sl → List Sl → Prop
  | nil : Wk [] []
  | keep {s : Sl} {L L' : List Sl} : Wk L L' → Wk (s :: L) (s :: L')
  | drop {s : Sl} {L L' : List Sl} : Wk L L' → Wk (s :: L) (.no :: L')
theorem Wk.refl : ∀ {L : List Sl}, Wk L L
  | [] => .nil
  | _ :: _ => .keep Wk.refl
theorem Wk.len : ∀ {L L' : List Sl}, Wk L L' → L.length = L'.length
  | _, _, .nil => rfl
  | _, _, .keep h => congrArg (· + 1) h.len
  | _, _, .drop h => congrArg (· + 1) h.len
theorem Wk.at : ∀ {L L' : List Sl} {i : Nat} {t : Sl}, Wk L L' → L'[i]? = some t → t = .no ∨ L[i]? = some t
  | _, _, _, _, .nil, e => by simp at e
  | _, _, 0, _, .keep _, e => .inr e
  | _, _, 0, _, .drop _, e => .inl (Option.some.inj e).symm
  | _, _, i + 1, _, .keep h, e => Wk.at (i := i) h e
  | _, _, i + 1, _, .drop h, e => Wk.at (i := i) h e
theorem Sta.wk (S : Sta L σ G H) (w : Wk L L') : Sta L' σ G H ∧ Ts L σ G H L' σ G H := by
  have own : ∀ j us, L'[j]? = some (Sl.ow us) → L[j]? = some (Sl.ow us) := fun j us e => by
    rcases w.at e with q | q
    · cases q
    · exact q
  refine ⟨⟨S.gh, S.ln.trans w.len, fun j x t e1 e2 => ?_, fun j k b us ws e1 e2 e3 e4 => S.di j k b us ws (own j us e1) (own k ws e2) e3 e4⟩, ⟨Same.refl _, fun b o h g _ _ => ⟨h, g⟩, fun b ⟨j, us, e1, e2⟩ => .inl ⟨j, us, own j us e1, e2⟩, .refl⟩⟩
  rcases w.at e2 with q | q
  · subst q
    trivial
  · exact S.sl j x t e1 q
theorem ss_wk (w : Wk L L1) (h : SsD z F sts L1 o) : SsD z F sts L o := by
  obtain ⟨ts, ps, run⟩ := h
  refine ⟨ts, ps, fun σ G H S D q => ?_⟩
  obtain ⟨S1, T1⟩ := S.wk w
  exact run σ G H S1 D (q.from S1 T1 .refl)
theorem ss_nxwk (w : Wk L1 L') (h : SsD z F sts L (.nx L1)) : SsD z F sts L (.nx L') := by
  obtain ⟨ts, ps, run⟩ := h
  refine ⟨ts, ps, fun σ G H S D q => run σ G H S D fun σ' G' H' S' T' A' => ?_⟩
  obtain ⟨S2, T2⟩ := S'.wk w
  exact q σ' G' H' S2 (T'.trans S'.gh T2) A'
theorem sd_nxwk (w : Wk L1 L') (h : SD z F st L (.nx L1)) : SD z F st L (.nx L') := by
  obtain ⟨ts, ps, run⟩ := h
  refine ⟨ts, ps, fun σ G H S D q => run σ G H S D fun σ' G' H' S' T' A' => ?_⟩
  obtain ⟨S2, T2⟩ := S'.wk w
  exact q σ' G' H' S2 (T'.trans S'.gh T2) A'
end
end DL
namespace DL
open PySem PyProof.Rows L2
variable [TabL]

/-! ### what is walked -/
/-- from the frozen part G1 on, J yields its, one after another -/
def RunsJ (J : It) (its : List PyData) (G1 : Hp) : Prop := ∀ (i : Nat) (G H : Hp), Same G1 G → Same G H →
  (its.length ≤ i → J.stop i H) ∧ ∀ d, its[i]? = some d → J.go i H ∧ ∀ x H', J.yld i H x H' → (H' = H ∧ Rp G x d) ∨ ∃ T xs ds, x = .ref T ∧ H T = none ∧ H' = upd H T (.tup xs) ∧ d = .tuple ds ∧ RpA G xs ds
def ItD (F : Fam) (tg iter : Expr) (L : List Sl) (its : List PyData) (L' : List Sl) : Prop := ∃ wi, PIf F tg iter wi ∧ ∀ σ G H, Sta L σ G H → ∀ R : It → Hp → Prop, (∀ J G' H', Sta L' σ G' H' → Te L σ G H L' G' H' → RunsJ J its G' → R J H') → wi σ H R
/-- a target, storing to the slots T: u tells the slots behind the store of d -/
structure TgD (F : Fam) (tg : Expr) (T : List Nat) (ok : PyData → Prop) (u : PyData → List Sl → List Sl) : Prop where
  run : ∃ g, PGf F tg g ∧ ∀ d, ok d → ∀ L v σ G H, L.length = F.N.length → Sta L σ G H → Rp G v d → ∀ Q : L2.St → Hp → Prop, (∀ σ', Sta (u d L) σ' G H → Ts L σ G H (u d L) σ' G H → (∀ k, k ∉ T → σ'[k]? = σ[k]?) → Q σ' H) → g v σ H Q
  out : ∀ d L k, ok d → k ∉ T → (u d L)[k]? = L[k]?
  own : ∀ d L k ds, ok d → k ∈ T → (u d L)[k]? ≠ some (Sl.ow ds)
  len : ∀ d L, ok d → (u d L).length = L.length

section
variable {z : List Nat} {F : Fam} {e e2 a b c tg iter elt : Expr} {es : List Expr} {st : Stmt} {sts sts2 : List Stmt} {L L1 L2' L' L3 : List Sl} {d d1 d2 r : PyData} {ds ds2 its rs ms ms' : List PyData} {i : Nat} {pos p p2 : Pos} {x y : Str} {o : Out} {σ σ' σ1 : L2.St} {G H G1 H1 G' H' : Hp} {D : Ends}

theorem plf (F : Fam) {tg : Expr} {tl : TE} (h : PEf F e tl) : PIf F tg e (iList F.K tl) := fun j => by
  rw [← F.hK j]
  exact pi_list (h j)
theorem it_list (h : ED F iter L (.list its) L') : ItD F tg iter L its L' := by
  obtain ⟨te, pe, run⟩ := h
  refine ⟨_, plf F pe, fun σ G H S R q => run σ G H S _ fun v G' H' S' T' r => ?_⟩
  cases r with
  | @lst a xs _ h1 h2 =>
    have sq : ∀ {G2 H2 : Hp}, Same G' G2 → Same G2 H2 → H2 a = some (.lst xs) := fun g gh => gh _ _ (g _ _ h1)
    refine ⟨a, rfl, ⟨xs, SqL.of (S'.gh _ _ h1)⟩, q _ G' H' S' T' fun i G2 H2 g gh => ⟨fun hi => ⟨xs, SqL.of (sq g gh), by rw [h2.len]; exact hi⟩, fun d hd => ?_⟩⟩
    obtain ⟨v, hv, rv⟩ := h2.get hd
    refine ⟨⟨xs, v, SqL.of (sq g gh), hv⟩, fun x H3 hy => .inl ⟨hy.1, ?_⟩⟩
    have e1 := hy.2 xs (SqL.of (sq g gh))
    rw [hv] at e1
    cases e1
    exact rv.up g
theorem it_range1 {n : Int} (h : ED F e L (.int n) L') (hb : -(2 ^ 62) ≤ n ∧ n < 2 ^ 62) (hm : F.mg "range" = none) (hg : GlF F "range" := by rfl) (hs : ∀ env, starEach [e] env = [(false, eval e env)] := by intro _; rfl) :
    ItD F tg (.Call (.Name "range" p) [e] [] pos) L ((List.range n.toNat).map fun (i : Nat) => PyData.int i) L' := by
  obtain ⟨te, pe, run⟩ := h
  refine ⟨_, fun j => pi_range1 (hg.gl j) (by rw [F.hmg]; exact hm) (pa_cons (pe j) pa_nil (hs _)) (hs _), fun σ G H S R q => run σ G H S _ fun v G' H' S' T' r => ?_⟩
  cases r
  refine ⟨n, rfl, hb.1, hb.2, q _ G' H' S' T' fun i G2 H2 g gh => ⟨fun hi => by rw [List.length_map, List.length_range] at hi; exact hi, fun d hd => ?_⟩⟩
  rw [List.getElem?_map] at hd
  have hi : i < n.toNat := by
    by_cases hi : i < n.toNat
    · exact hi
    · rw [List.getElem?_eq_none (by simpa using hi)] at hd
      cases hd
  rw [List.getElem?_range hi] at hd
  cases hd
  refine ⟨hi, fun x H3 hy => .inl ⟨hy.1, ?_⟩⟩
  rw [hy.2]
  have e0 : (0 : Int) + (i : Int) = (i : Int) := Int.zero_add _
  rw [e0]
  exact .int _
theorem it_range2 {m n : Int} (h : ED F e L (.int m) L1) (h2 : ED F e2 L1 (.int n) L') (hb : -(2 ^ 62) ≤ m ∧ m < 2 ^ 62 ∧ -(2 ^ 62) ≤ n ∧ n < 2 ^ 62) (hm : F.mg "range" = none) (hg : GlF F "range" := by rfl) (hs : ∀ env, starEach [e, e2] env = [(false, eval e env), (false, eval e2 env)] := by intro _; rfl) (hs2 : ∀ env, starEach [e2] env = [(false, eval e2 env)] := by intro _; rfl) :
    ItD F tg (.Call (.Name "range" p) [e, e2] [] pos) L ((List.range (n - m).toNat).map fun (i : Nat) => PyData.int (m + i)) L' := by
  obtain ⟨te, pe, run⟩ := h
  obtain ⟨te2, pe2, run2⟩ := h2
  refine ⟨_, fun j => pi_range2 (hg.gl j) (by rw [F.hmg]; exact hm) (pa_cons (pe j) (pa_cons (pe2 j) pa_nil (hs2 _)) (by rw [hs, hs2])) (hs _) (hs2 _), fun σ G H S R q => run σ G H S _ fun v G1 H1 S1 T1 r => run2 σ G1 H1 S1 _ fun v2 G' H' S' T' r2 => ?_⟩
  cases r
  cases r2
  refine ⟨m, n, rfl, hb, q _ G' H' S' (T1.trans T') fun i G2 H2 g gh => ⟨fun hi => by rw [List.length_map, List.length_range] at hi; exact hi, fun d hd => ?_⟩⟩
  rw [List.getElem?_map] at hd
  have hi : i < (n - m).toNat := by
    by_cases hi : i < (n - m).toNat
    · exact hi
    · rw [List.getElem?_eq_none (by simpa using hi)] at hd
      cases hd
  rw [List.getElem?_range hi] at hd
  cases hd
  refine ⟨hi, fun x H3 hy => .inl ⟨hy.1, ?_⟩⟩
  rw [hy.2]
  exact .int _
/-- enumerate: pairs of the place and the item -/
def enumD (ds : List PyData) : List PyData := ds.mapIdx fun (i : Nat) d => .tuple [.int i, d]
theorem it_enum {elts : List Expr} {kk : Nat} {tpos : Pos} (h : ED F e L (.list ds) L') (hm : F.mg "enumerate" = none) (hg : GlF F "enumerate" := by rfl) (hs : ∀ env, starEach [e] env = [(false, eval e env)] := by intro _; rfl) :
    ItD F (.Tuple elts kk tpos) (.Call (.Name "enumerate" p) [e] [] pos) L (enumD ds) L' := by
  obtain ⟨te, pe, run⟩ := h
  have pi : PIf F (.Tuple elts kk tpos) (.Call (.Name "enumerate" p) [e] [] pos) (iEnum F.K (tCons te tNil)) := fun j => by
    rw [← F.hK j]
    exact pi_enum (hg.gl j) (by rw [F.hmg]; exact hm) (pa_cons (pe j) pa_nil (hs _)) (hs _)
  refine ⟨_, pi, fun σ G H S R q => run σ G H S _ fun v G' H' S' T' r => ?_⟩
  cases r with
  | @lst a xs _ h1 h2 =>
    have sq : ∀ {G2 H2 : Hp}, Same G' G2 → Same G2 H2 → H2 a = some (.lst xs) := fun g gh => gh _ _ (g _ _ h1)
    refine ⟨a, xs, rfl, SqL.of (S'.gh _ _ h1), q _ G' H' S' T' fun i G2 H2 g gh => ⟨fun hi => ⟨xs, SqL.of (sq g gh), by rw [h2.len]; simpa [enumD] using hi⟩, fun d hd => ?_⟩⟩
    unfold enumD at hd
    rw [List.getElem?_mapIdx] at hd
    cases e0 : ds[i]? with
    | none =>
      rw [e0] at hd
      cases hd
    | some d0 =>
      rw [e0] at hd
      cases hd
      obtain ⟨v, hv, rv⟩ := h2.get e0
      refine ⟨⟨xs, v, SqL.of (sq g gh), hv⟩, fun x H3 ⟨T, x0, ex, hT, eH, hx⟩ => .inr ⟨T, [.int i, x0], _, ex, hT, eH, rfl, .cons (.int _) (.one ?_)⟩⟩
      have e1 := hx xs (SqL.of (sq g gh))
      rw [hv] at e1
      cases e1
      exact rv.up g
theorem it_zip {elts : List Expr} {kk : Nat} {tpos : Pos} (h : ED F e L (.list ds) L1) (h2 : ED F e2 L1 (.list ds2) L') (hm : F.mg "zip" = none) (hg : GlF F "zip" := by rfl) (hs : ∀ env, starEach [e, e2] env = [(false, eval e env), (false, eval e2 env)] := by intro _; rfl) (hs2 : ∀ env, starEach [e2] env = [(false, eval e2 env)] := by intro _; rfl) :
    ItD F (.Tuple elts kk tpos) (.Call (.Name "zip" p) [e, e2] [] pos) L (List.zipWith (fun a b => PyData.tuple [a, b]) ds ds2) L' := by
  obtain ⟨te, pe, run⟩ := h
  obtain ⟨te2, pe2, run2⟩ := h2
  have pi : PIf F (.Tuple elts kk tpos) (.Call (.Name "zip" p) [e, e2] [] pos) (iZip F.K (tCons te (tCons te2 tNil))) := fun j => by
    rw [← F.hK j]
    exact pi_zip (hg.gl j) (by rw [F.hmg]; exact hm) (pa_cons (pe j) (pa_cons (pe2 j) pa_nil (hs2 _)) (by rw [hs, hs2])) (by rw [hs, hs2]) (by rw [hs2]; rfl)
  refine ⟨_, pi, fun σ G H S R q => run σ G H S _ fun v G1 H1 S1 T1 r => run2 σ G1 H1 S1 _ fun v2 G' H' S' T' r2 => ?_⟩
  cases r with
  | @lst a xs _ h1 h2 =>
    cases r2 with
    | @lst b ys _ k1 k2 =>
      have sq : ∀ {G2 H2 : Hp}, Same G' G2 → Same G2 H2 → H2 a = some (.lst xs) := fun g gh => gh _ _ (g _ _ (T'.g _ _ h1))
      have sq2 : ∀ {G2 H2 : Hp}, Same G' G2 → Same G2 H2 → H2 b = some (.lst ys) := fun g gh => gh _ _ (g _ _ k1)
      refine ⟨a, b, xs, ys, rfl, SqL.of (S'.gh _ _ (T'.g _ _ h1)), SqL.of (S'.gh _ _ k1), q _ G' H' S' (T1.trans T') fun i G2 H2 g gh => ⟨fun hi => ⟨xs, ys, SqL.of (sq g gh), SqL.of (sq2 g gh), ?_⟩, fun d hd => ?_⟩⟩
      · rw [List.length_zipWith, ← h2.len, ← k2.len] at hi
        omega
      · rw [List.getElem?_zipWith] at hd
        cases e0 : ds[i]? with
        | none =>
          rw [e0] at hd
          cases hd
        | some d0 =>
          cases e1 : ds2[i]? with
          | none =>
            rw [e0, e1] at hd
            cases hd
          | some d1 =>
            rw [e0, e1] at hd
            cases hd
            obtain ⟨v, hv, rv⟩ := h2.get e0
            obtain ⟨w, hw, rw'⟩ := k2.get e1
            refine ⟨⟨xs, ys, v, w, SqL.of (sq g gh), SqL.of (sq2 g gh), hv, hw⟩, fun x H3 ⟨T, x0, y0, ex, hT, eH, hx, hy⟩ => .inr ⟨T, [x0, y0], _, ex, hT, eH, rfl, .cons ?_ (.one ?_)⟩⟩
            · have q1 := hx xs (SqL.of (sq g gh))
              rw [hv] at q1
              cases q1
              exact (rv.up T'.g).up g
            · have q1 := hy ys (SqL.of (sq2 g gh))
              rw [hw] at q1
              cases q1
              exact rw'.up g

/-! ### targets -/
theorem set_noown {L : List Sl} {i : Nat} {d : PyData} {ds : List PyData} : (L.set i (.va d))[i]? ≠ some (Sl.ow ds) := fun h => by
  have hl : i < L.length := by
    have := (List.getElem?_eq_some_iff.mp h).1
    rwa [List.length_set] at this
  rw [List.getElem?_set_self hl] at h
  cases h
theorem tg_name (i : Nat) (hi : F.N[i]? = some x := by rfl) (hx : Loc F.sc x := by first | exact Or.inl rfl | exact Or.inr rfl) (hf : StF F x := by first | exact Or.inl rfl | exact Or.inr rfl) (hn : F.N.Nodup := by exact of_decide_eq_true rfl) :
    TgD F (.Name x p) [i] (fun _ => True) (fun d L => L.set i (.va d)) where
  run := by
    refine ⟨_, fun j => pg_name (by rw [F.hN]; exact hn) (by rw [F.hN]; exact hi) (locF hx j) (hf.at j), fun d _ L v σ G H hL S r Q q => ?_⟩
    obtain ⟨S2, T2⟩ := S.set_va (i := i) (by rw [hL]; exact (List.getElem?_eq_some_iff.mp hi).1) r
    exact q _ S2 T2 fun k hk => List.getElem?_set_ne (fun h => hk (by simp [h]))
  out := fun d L k _ hk => List.getElem?_set_ne (fun h => hk (by simp [h]))
  own := fun d L k ds _ hk => by
    obtain rfl : k = i := by simpa using hk
    exact set_noown
  len := fun d L _ => List.length_set
theorem ptf (F : Fam) {es : List Expr} {k n : Nat} {t : TGs} (h : ∀ j, PGs (F.x j) es t) (hn : ∀ env, (assignEach es env).length = n) (hst : ∀ env, (assignEach es env).findIdx? (·.1) = none) : PGf F (.Tuple es k pos) (gTup F.K n t) := fun j => by
  rw [← F.hK j]
  exact pg_tup (F.hc j) (h j) (hn _) (hst _)
def uTup2 (i j : Nat) (d : PyData) (L : List Sl) : List Sl := match d with
  | .tuple [d1, d2] => (L.set i (.va d1)).set j (.va d2)
  | _ => L
theorem tg_tup2 (i j : Nat) {px py : Pos} {k : Nat} (hi : F.N[i]? = some x := by rfl) (hx : Loc F.sc x := by first | exact Or.inl rfl | exact Or.inr rfl) (hf : StF F x := by first | exact Or.inl rfl | exact Or.inr rfl)
    (hj : F.N[j]? = some y := by rfl) (hy : Loc F.sc y := by first | exact Or.inl rfl | exact Or.inr rfl) (hfy : StF F y := by first | exact Or.inl rfl | exact Or.inr rfl) (hn : F.N.Nodup := by exact of_decide_eq_true rfl)
    (hlen : ∀ env, (assignEach [.Name x px, .Name y py] env).length = 2 := by intro _; rfl) (hst : ∀ env, (assignEach [.Name x px, .Name y py] env).findIdx? (·.1) = none := by intro _; rfl) :
    TgD F (.Tuple [.Name x px, .Name y py] k p) [i, j] (fun d => ∃ d1 d2, d = .tuple [d1, d2]) (uTup2 i j) where
  run := by
    refine ⟨_, ptf F (fun j0 => pgs_cons (pg_name (by rw [F.hN]; exact hn) (by rw [F.hN]; exact hi) (locF hx j0) (hf.at j0)) (pgs_cons (pg_name (by rw [F.hN]; exact hn) (by rw [F.hN]; exact hj) (locF hy j0) (hfy.at j0)) pgs_nil)) hlen hst, fun d hd L v σ G H hL S r Q q => ?_⟩
    obtain ⟨d1, d2, rfl⟩ := hd
    cases r with
    | @tup a xs _ h1 h2 =>
      cases h2 with
      | cons r1 t1 =>
        cases t1 with
        | cons r2 t2 =>
          cases t2
          refine ⟨a, _, rfl, SqT.of (S.gh _ _ h1), rfl, _, _, rfl, _, _, rfl, rfl, ?_⟩
          obtain ⟨S2, T2⟩ := S.set_va (i := i) (by rw [hL]; exact (List.getElem?_eq_some_iff.mp hi).1) r1
          obtain ⟨S3, T3⟩ := S2.set_va (i := j) (by rw [List.length_set, hL]; exact (List.getElem?_eq_some_iff.mp hj).1) r2
          exact q _ S3 (T2.trans S2.gh T3) fun k hk => by
            rw [List.getElem?_set_ne (fun h => hk (by simp [h])), List.getElem?_set_ne (fun h => hk (by simp [h]))]
  out := fun d L k hd hk => by
    obtain ⟨d1, d2, rfl⟩ := hd
    show ((L.set i (.va d1)).set j (.va d2))[k]? = L[k]?
    rw [List.getElem?_set_ne (fun h => hk (by simp [h])), List.getElem?_set_ne (fun h => hk (by simp [h]))]
  own := fun d L k ds hd hk => by
    obtain ⟨d1, d2, rfl⟩ := hd
    show ((L.set i (.va d1)).set j (.va d2))[k]? ≠ some (Sl.ow ds)
    by_cases hj' : k = j
    · subst hj'
      exact set_noown
    · obtain rfl : k = i := by simpa [hj'] using hk
      rw [List.getElem?_set_ne (Ne.symm hj')]
      exact set_noown
  len := fun d L hd => by
    obtain ⟨d1, d2, rfl⟩ := hd
    show ((L.set i (.va d1)).set j (.va d2)).length = L.length
    rw [List.length_set, List.length_set]

/-! ### for -/
/-- the item stands frozen -/
theorem yielded {v : V} (S : Sta L σ G H) (h : (H' = H ∧ Rp G v d) ∨ ∃ T xs us, v = .ref T ∧ H T = none ∧ H' = upd H T (.tup xs) ∧ d = .tuple us ∧ RpA G xs us) : ∃ G', Sta L σ G' H' ∧ Te L σ G H L G' H' ∧ Rp G' v d := by
  rcases h with ⟨rfl, r⟩ | ⟨T, xs, us, rfl, hT, rfl, rfl, r⟩
  · exact ⟨G, S, .refl, r⟩
  · obtain ⟨S2, T2⟩ := S.newG (o := .tup xs) hT
    exact ⟨_, S2, T2, .tup upd_same (r.up T2.g)⟩
def tforA (F : Fam) (b : List Stmt) : TS := tssA F b
theorem for_any {wi : TI} {g : TG} (pi : PIf F tg iter wi) (pg : PGf F tg g) (hs : ∀ env x, foldedSetIterable iter env x = pure x) : PSf F (.For tg iter sts [] pos) (tFor wi g (tssA F sts)) :=
  fun j => ps_for (by rw [F.hxe]; exact PassesOwn.never) (F.hc j) (pi j) (pg j) (pss_any F sts j) (hs _)
/-- what one turn brings, item by item: M i tells the slots ahead of turn i; at turn m (if m is below the number of items) the loop is left by o -/
theorem sd_for {ok : PyData → Prop} {u : PyData → List Sl → List Sl} {T : List Nat} (M : Nat → List Sl) (m : Nat) (hi : ItD F tg iter L its (M 0)) (ht : TgD F tg T ok u) (hz : ∀ k ∈ T, k ∉ z) (hM : ∀ i, (M i).length = F.N.length) (hm : m ≤ its.length)
    (hb : ∀ i d, i < m → its[i]? = some d → ok d ∧ (SsD z F sts (u d (M i)) (.nx (M (i + 1))) ∨ SsD z F sts (u d (M i)) (.ct (M (i + 1)))))
    (hl : match its[m]? with
      | none => o = .nx (M m)
      | some d => ok d ∧ ((∃ L', o = .nx L' ∧ SsD z F sts (u d (M m)) (.bk L')) ∨ (SsD z F sts (u d (M m)) o ∧ ((∃ r L', o = .rt r L') ∨ ∃ r L', o = .rl r L'))))
    (hs : ∀ env x, foldedSetIterable iter env x = pure x := by intro _ _; rfl) : SD z F (.For tg iter sts [] pos) L o := by
  obtain ⟨wi, pi, runI⟩ := hi
  obtain ⟨⟨g, pg, runG⟩, _, _, _⟩ := ht
  have ancT : ∀ {σ1 σ2 : L2.St}, (∀ k, k ∉ T → σ2[k]? = σ1[k]?) → Anc z σ1 σ2 := fun h k hk => h k fun hT => hz k hT hk
  refine ⟨_, for_any pi pg hs, fun σ0 G0 H0 S0 D q => runI σ0 G0 H0 S0 _ fun J G1 H1 S1 T1 RJ => ?_⟩
  refine ⟨fun i k σ H => k = its.length - i ∧ i ≤ m ∧ ∃ G, Sta (M i) σ G H ∧ Ts (M 0) σ0 G1 H1 (M i) σ G H ∧ Anc z σ0 σ, ⟨its.length, by simp, Nat.zero_le _, G1, S1, .refl, .refl⟩, ?_⟩
  rintro i k σ H ⟨rfl, him, G, S, T0, A⟩
  obtain ⟨stop, go⟩ := RJ i G H T0.g S.gh
  have q2 : EndOk z (M i) σ G H D o := q.from S (T1.ts.trans S1.gh T0) A
  by_cases h : i < m
  · have hlt : i < its.length := by omega
    obtain ⟨hg, hy⟩ := go its[i] (List.getElem?_eq_getElem hlt)
    obtain ⟨okd, body⟩ := hb i its[i] h (List.getElem?_eq_getElem hlt)
    refine .inr ⟨hg, fun σ' H' => i + 1 ≤ m ∧ ∃ G', Sta (M (i + 1)) σ' G' H' ∧ Ts (M 0) σ0 G1 H1 (M (i + 1)) σ' G' H' ∧ Anc z σ0 σ', fun σ' H' ⟨h1, w⟩ => ⟨its.length - (i + 1), by omega, rfl, h1, w⟩, fun x H' hx => ?_⟩
    obtain ⟨G2, S2, T2, r2⟩ := yielded S (hy x H' hx)
    refine runG _ okd _ _ _ _ _ (hM i) S2 r2 _ fun σ3 S3 T3 A30 => ?_
    have A3 := ancT A30
    have T4 := (T0.trans S.gh T2.ts).trans S2.gh T3
    have fin : ∀ {σ' : L2.St} {G' H'' : Hp}, Sta (M (i + 1)) σ' G' H'' → Ts (u its[i] (M i)) σ3 G2 H' (M (i + 1)) σ' G' H'' → Anc z σ3 σ' → (i + 1 ≤ m ∧ ∃ G', Sta (M (i + 1)) σ' G' H'' ∧ Ts (M 0) σ0 G1 H1 (M (i + 1)) σ' G' H'' ∧ Anc z σ0 σ') := fun S5 T5 A5 =>
      ⟨by omega, _, S5, T4.trans S3.gh T5, (A.trans A3).trans A5⟩
    rcases body with ⟨ts, ps, run⟩ | ⟨ts, ps, run⟩
    · exact ⟨ts, ps, run σ3 G2 H' S3 _ fun σ' G' H'' S5 T5 A5 => fin S5 T5 A5⟩
    · exact ⟨ts, ps, run σ3 G2 H' S3 _ fun σ' G' H'' S5 T5 A5 => fin S5 T5 A5⟩
  · obtain rfl : i = m := by omega
    cases e0 : its[i]? with
    | none =>
      rw [e0] at hl
      subst hl
      have hle : its.length ≤ i := List.getElem?_eq_none_iff.mp e0
      exact .inl ⟨stop hle, q2 σ G H S .refl .refl⟩
    | some d =>
      rw [e0] at hl
      obtain ⟨okd, body⟩ := hl
      obtain ⟨hg, hy⟩ := go d e0
      refine .inr ⟨hg, fun _ _ => False, fun _ _ w => w.elim, fun x H' hx => ?_⟩
      obtain ⟨G2, S2, T2, r2⟩ := yielded S (hy x H' hx)
      refine runG _ okd _ _ _ _ _ (hM i) S2 r2 _ fun σ3 S3 T3 A30 => ?_
      have A3 := ancT A30
      have q3 := (q2.from S2 T2.ts .refl).from S3 T3 A3
      rcases body with ⟨L', rfl, ts, ps, run⟩ | ⟨⟨ts, ps, run⟩, hO⟩
      · exact ⟨ts, ps, run σ3 G2 H' S3 _ fun σ' G' H'' S5 T5 A5 => q3 σ' G' H'' S5 T5 A5⟩
      · rcases hO with ⟨r, L', rfl⟩ | ⟨r, L', rfl⟩
        · exact ⟨ts, ps, run σ3 G2 H' S3 _ fun v σ' G' H'' S5 T5 A5 r5 => q3 v σ' G' H'' S5 T5 A5 r5⟩
        · exact ⟨ts, ps, run σ3 G2 H' S3 _ fun p xs σ' G' H'' S5 T5 A5 hp n hq hg r5 => q3 p xs σ' G' H'' S5 T5 A5 hp n hq hg r5⟩
end
end DL
namespace DL
open PySem PyProof.Rows L2
variable [TabL]

def AllNo : List Nat → List Sl → Prop
  | [], _ => True
  | k :: ks, L => L[k]? = some .no ∧ AllNo ks L
theorem AllNo.at : ∀ {ks : List Nat} {L : List Sl}, AllNo ks L → ∀ k ∈ ks, ∀ t, L[k]? = some t → t = .no
  | _ :: _, _, h, k, hk, t, e => by
    rcases List.mem_cons.mp hk with rfl | hk
    · rw [h.1] at e
      exact (Option.some.inj e).symm
    · exact AllNo.at h.2 k hk t e
theorem wipe_get (σ : L2.St) : ∀ (vs : List Nat) (k : Nat), (wipe σ vs)[k]? = if k ∈ vs then (σ[k]?).map (fun _ => none) else σ[k]?
  | [], k => by simp [wipe]
  | v :: vs, k => by
    have ih := wipe_get σ vs k
    unfold wipe
    by_cases h : v = k
    · subst h
      rw [List.getElem?_set]
      simp only [if_true, List.mem_cons, true_or]
      by_cases hl : v < (wipe σ vs).length
      · rw [if_pos hl]
        rw [wipe_length] at hl
        rw [List.getElem?_eq_getElem hl]
        rfl
      · rw [if_neg hl]
        rw [wipe_length] at hl
        rw [List.getElem?_eq_none (by omega)]
        rfl
    · rw [List.getElem?_set_ne h, ih]
      have : (k ∈ v :: vs) ↔ k ∈ vs := by
        simp only [List.mem_cons]
        exact ⟨fun q => q.resolve_left (fun e => h e.symm), .inr⟩
      simp only [this]
theorem wipe_eq {σ σ2 : L2.St} {vs : List Nat} (h : ∀ k, k ∉ vs → σ2[k]? = (wipe σ vs)[k]?) (hl : σ2.length = σ.length) : wipe σ2 vs = wipe σ vs := by
  apply List.ext_getElem?
  intro k
  rw [wipe_get σ2, wipe_get σ]
  by_cases hk : k ∈ vs
  · rw [if_pos hk, if_pos hk]
    by_cases h1 : k < σ.length
    · rw [List.getElem?_eq_getElem h1, List.getElem?_eq_getElem (by omega)]
      rfl
    · rw [List.getElem?_eq_none (by omega), List.getElem?_eq_none (by omega)]
  · rw [if_neg hk, if_neg hk]
    have := h k hk
    rw [wipe_get σ, if_neg hk] at this
    exact this

section
variable {F : Fam} {e e2 a b c tg iter elt : Expr} {es ifs : List Expr} {L L1 L2' L' L3 : List Sl} {d d1 d2 r : PyData} {ds ds2 its rs ms ms' : List PyData} {i : Nat} {pos p p2 : Pos} {x y : Str} {σ σ' σ1 σ2 : L2.St} {G H G1 H1 G2 H2 G' H' : Hp} {scope : Scope}

/-- the tests of a comprehension (none, or one) -/
inductive IfsD (F : Fam) : List Expr → List Sl → Bool → Prop
  | nil {L : List Sl} : IfsD F [] L true
  | one {L : List Sl} {c : Expr} {k : Bool} : BD F c L k L → IfsD F [c] L k
def ttsA (F : Fam) : List Expr → TT
  | [] => tYes
  | [c] => ttA F c
  | _ => fun _ _ _ => False
theorem pts_any (F : Fam) : ∀ (ifs : List Expr) (j : F.J), PTs (F.x j) ifs (ttsA F ifs)
  | [], _ => pts_nil
  | [c], j => pts_one (pt_any F c j)
  | _ :: _ :: _, _ => ⟨fun _ _ _ _ _ _ h => h.elim⟩
theorem IfsD.run {k : Bool} (h : IfsD F ifs L k) (S : Sta L σ G H) (Q : Bool → Hp → Prop) (q : ∀ G' H', Sta L σ G' H' → Te L σ G H L G' H' → Q k H') : ttsA F ifs σ H Q := by
  cases h with
  | nil => exact q G H S .refl
  | one h =>
    obtain ⟨tt, pt, run⟩ := h
    exact ⟨tt, pt, run σ G H S Q q⟩

/-- a comprehension's reading gives ds -/
def CompD (F : Fam) (elt tg iter : Expr) (ifs : List Expr) (scope : Scope) (L : List Sl) (ds : List PyData) (L' : List Sl) : Prop := ∃ (wi : TI) (g : TG) (own : List (Str × Nat)), F.N.Nodup ∧ PIf F tg iter wi ∧ BlkOk F.N F.sc scope own ∧ PGf (F.blk scope) tg g ∧ (∀ env x, foldedSetIterable iter env x = pure x) ∧
  ∀ σ G H, Sta L σ G H → ∀ Q : VK, (∀ p xs G' H', Sta L' σ G' H' → Te L σ G H L' G' H' → H p = none → H' p = some (.lst xs) → G' p = none → RpA G' xs ds → Q (.ref p) H') → tLc wi g (ttsA (F.blk scope) ifs) (teA (F.blk scope) elt) (own.map (·.2)) σ H Q
theorem lc_any {wi : TI} {g : TG} {own : List (Str × Nat)} (hn : F.N.Nodup) (pi : PIf F tg iter wi) (ok : BlkOk F.N F.sc scope own) (pg : PGf (F.blk scope) tg g) (hs : ∀ env x, foldedSetIterable iter env x = pure x) :
    PEf F (.ListComp elt [⟨tg, iter, ifs, 0⟩] scope pos) (tLc wi g (ttsA (F.blk scope) ifs) (teA (F.blk scope) elt) (own.map (·.2))) := fun j => by
  refine pe_lc (F.hc j) (by rw [F.hN]; exact hn) (pi j) (by rw [F.hN, F.hsc]; exact ok) (fun s H C cl fp => ?_) (fun s H C cl fp => ?_) (fun s H C cl fp => ?_) (hs _)
  · exact pg (j, s, H, C, cl, fp)
  · exact pts_any (F.blk scope) ifs (j, s, H, C, cl, fp)
  · exact pe_any (F.blk scope) elt (j, s, H, C, cl, fp)

theorem CompD.fd (h : CompD F elt tg iter ifs scope L ds L') : FD F (.ListComp elt [⟨tg, iter, ifs, 0⟩] scope pos) L ds L' := by
  obtain ⟨wi, g, own, hn, pi, ok, pg, hs, run⟩ := h
  exact ⟨_, lc_any hn pi ok pg hs, run⟩
/-- y = [..] on one line, y a local -/
theorem CompD.set {z : List Nat} {py spos : Pos} (i : Nat) (h : CompD F elt tg iter ifs scope L ds L1) (hz : i ∉ z := by decide) (hi : F.N[i]? = some y := by rfl) (hl : i < L1.length := by exact Nat.le_of_ble_eq_true rfl) (hy : F.sc.names.lookup y = some .local := by rfl) (hk : F.sc.kind = .function := by rfl)
    (hli : (py.line == pos.line) = true := by rfl) (ha : (scope.names.any fun (n, k) => n == y && (k == .local || k == .cell)) = false := by decide +kernel) (hl2 : spos.line = spos.line := by rfl) :
    SD z F (.Assign [.Name y py] (.ListComp elt [⟨tg, iter, ifs, 0⟩] scope pos) spos) L (.nx (L1.set i (.ow ds))) := by
  obtain ⟨wi, g, own, hn, pi, ok, pg, hs, run⟩ := h
  refine ⟨tAsg (tLc wi g (ttsA (F.blk scope) ifs) (teA (F.blk scope) elt) (own.map fun (x : Str × Nat) => x.snd)) (gName i), fun j => ?_, fun σ G H S D q => run σ G H S _ fun p xs G' H' S' T' hp hp' gp r => ?_⟩
  · refine ps_setLc (F.hc j) (by rw [F.hN]; exact hn) (by rw [F.hN]; exact hi) (by rw [F.hsc]; exact hy) (sw_true (by rw [F.hsc]; exact hk) (by rw [F.hsc]; exact hy) hli ha) (pi j) (by rw [F.hN, F.hsc]; exact ok) (fun s H C cl fp => ?_) (fun s H C cl fp => ?_) (fun s H C cl fp => ?_) (hs _)
    · exact pg (j, s, H, C, cl, fp)
    · exact pts_any (F.blk scope) ifs (j, s, H, C, cl, fp)
    · exact pe_any (F.blk scope) elt (j, s, H, C, cl, fp)
  · obtain ⟨S2, O2⟩ := S'.set_ow hl hp' gp (fun w => S.own_ne hp (T'.ow p w)) r
    refine q _ _ _ S2 ⟨T'.g, T'.fr, fun b w => ?_, T'.th⟩ (Anc.set hz)
    rcases O2 b w with w | w
    · exact .inl (T'.ow b w)
    · exact .inr (by rw [w]; exact hp)
/-- [elt for tg in iter if ..]; M i tells the slots ahead of item i, R i the items made by then -/
theorem cd_lc {own : List (Str × Nat)} {T : List Nat} {ok : PyData → Prop} {u : PyData → List Sl → List Sl} (M : Nat → List Sl) (R : Nat → List PyData) (hi : ItD F tg iter L its (M 0)) (hb : BlkOk F.N F.sc scope own) (ht : TgD (F.blk scope) tg T ok u)
    (hT : ∀ k ∈ T, k ∈ own.map (·.2)) (hM : ∀ i, (M i).length = F.N.length) (hno0 : ∀ i, AllNo (own.map (·.2)) (M i)) (h0 : R 0 = [])
    (he : ∀ i d, its[i]? = some d → ok d ∧ ∃ k, IfsD (F.blk scope) ifs (u d (M i)) k ∧ (k = true → ∃ r, ED (F.blk scope) elt (u d (M i)) r (u d (M (i + 1))) ∧ R (i + 1) = R i ++ [r]) ∧ (k = false → M (i + 1) = M i ∧ R (i + 1) = R i))
    (hlen : its.length ≤ 100000) (hn : F.N.Nodup := by exact of_decide_eq_true rfl) (hs : ∀ env x, foldedSetIterable iter env x = pure x := by intro _ _; rfl) : CompD F elt tg iter ifs scope L (R its.length) (M its.length) := by
  obtain ⟨wi, pi, runI⟩ := hi
  obtain ⟨⟨g, pg, runG⟩, out, nown, ulen⟩ := ht
  have hno : ∀ i, ∀ k ∈ own.map (·.2), ∀ t, (M i)[k]? = some t → t = .no := fun i => (hno0 i).at
  have hR : ∀ i, i ≤ its.length → (R i).length ≤ i := by
    intro i
    induction i with
    | zero => intro _; rw [h0]; exact Nat.le_refl _
    | succ i ih =>
      intro hi
      have hlt : i < its.length := by omega
      obtain ⟨_, k, _, e1, e2⟩ := he i its[i] (List.getElem?_eq_getElem hlt)
      have := ih (by omega)
      cases k with
      | true =>
        obtain ⟨r, _, e⟩ := e1 rfl
        rw [e, List.length_append, List.length_singleton]
        omega
      | false =>
        rw [(e2 rfl).2]
        omega
  refine ⟨wi, g, own, hn, pi, hb, pg, hs, fun σ G0 H0 S0 Q q => runI σ G0 H0 S0 _ fun J G1 H1 S1 T1 RJ => fun Dl hD => ?_⟩
  have hDG : G1 Dl = none := S1.gn hD
  refine ⟨fun i k H => k = its.length - i ∧ i ≤ its.length ∧ ∃ G acc, Sta (M i) σ G H ∧ Te (M 0) σ G1 H1 (M i) G H ∧ H Dl = some (.lst acc) ∧ G Dl = none ∧ RpA G acc (R i) ∧ ¬ Own (M i) σ Dl, ⟨its.length, by simp, Nat.zero_le _, G1, [], ?_⟩, ?_⟩
  · obtain ⟨S2, T2⟩ := S1.new (o := .lst []) hD
    exact ⟨S2, T2, upd_same, hDG, by rw [h0]; exact .nil, S1.own_ne hD⟩
  rintro i k H ⟨rfl, him, G, acc, S, T0, hDl, hGD, racc, nO⟩
  obtain ⟨stop, go⟩ := RJ i G H T0.g S.gh
  by_cases h : i < its.length
  case neg =>
    obtain rfl : i = its.length := by omega
    exact .inl ⟨stop (Nat.le_refl _), q Dl acc G H S (T1.trans T0) (T1.back hD) hDl hGD racc⟩
  obtain ⟨hg, hy⟩ := go its[i] (List.getElem?_eq_getElem h)
  obtain ⟨okd, kb, ifd, kT, kF⟩ := he i its[i] (List.getElem?_eq_getElem h)
  refine .inr ⟨hg, fun H' => i + 1 ≤ its.length ∧ ∃ G acc, Sta (M (i + 1)) σ G H' ∧ Te (M 0) σ G1 H1 (M (i + 1)) G H' ∧ H' Dl = some (.lst acc) ∧ G Dl = none ∧ RpA G acc (R (i + 1)) ∧ ¬ Own (M (i + 1)) σ Dl,
    fun H' ⟨l1, w⟩ => ⟨its.length - (i + 1), by omega, rfl, l1, w⟩, fun x H' hx => ?_⟩
  obtain ⟨G2, S2, T2, r2⟩ := yielded S (hy x H' hx)
  -- the block's own slots are wiped
  have hM2 : ∀ k us, (M i)[k]? = some (Sl.ow us) → k ∉ own.map (·.2) := fun k us e hk => by
    have := hno i k hk _ e
    cases this
  have oW : ∀ b, Own (M i) (wipe σ (own.map (·.2))) b ↔ Own (M i) σ b := fun b => by
    constructor
    · rintro ⟨k, us, e1, e2⟩
      refine ⟨k, us, e1, ?_⟩
      rw [wipe_get, if_neg (hM2 k us e1)] at e2
      exact e2
    · rintro ⟨k, us, e1, e2⟩
      refine ⟨k, us, e1, ?_⟩
      rw [wipe_get, if_neg (hM2 k us e1)]
      exact e2
  have SW : Sta (M i) (wipe σ (own.map (·.2))) G2 H' := by
    refine ⟨S2.gh, by rw [wipe_length]; exact S2.ln, fun k x t e1 e2 => ?_, fun k l a us ws e1 e2 e3 e4 => ?_⟩
    · by_cases hk : k ∈ own.map (·.2)
      · obtain rfl := hno i k hk t e2
        trivial
      · rw [wipe_get, if_neg hk] at e1
        exact S2.sl k x t e1 e2
    · rw [wipe_get, if_neg (hM2 k us e1)] at e3
      rw [wipe_get, if_neg (hM2 l ws e2)] at e4
      exact S2.di k l a us ws e1 e2 e3 e4
  refine runG _ okd _ _ _ _ _ (by show _ = F.N.length; exact hM i) SW r2 _ fun σ3 S3 T3 A3 => ?_
  have l3 : σ3.length = σ.length := by rw [S3.ln, ulen _ _ okd, ← S2.ln]
  have agree : ∀ k, k ∉ own.map (·.2) → σ3[k]? = σ[k]? := fun k hk => by
    have := A3 k fun hkT => hk (hT k hkT)
    rw [wipe_get, if_neg hk] at this
    exact this
  have weq : wipe σ3 (own.map (·.2)) = wipe σ (own.map (·.2)) := wipe_eq (fun k hk => by rw [wipe_get, if_neg hk]; exact agree k hk) l3
  refine ⟨weq, ?_⟩
  -- whose own: the same addresses, within and without
  have oIn : ∀ n b, (∀ k ∈ own.map (·.2), ∀ t, (M n)[k]? = some t → t = .no) → (Own (u its[i] (M n)) σ3 b ↔ Own (M n) σ b) := fun n b hn0 => by
    have nO2 : ∀ k us, (M n)[k]? = some (Sl.ow us) → k ∉ own.map (·.2) := fun k us e hk => by
      have := hn0 k hk _ e
      cases this
    constructor
    · rintro ⟨k, us, e1, e2⟩
      have hkT : k ∉ T := fun hk => nown _ _ k us okd hk e1
      rw [out _ _ k okd hkT] at e1
      rw [agree k (nO2 k us e1)] at e2
      exact ⟨k, us, e1, e2⟩
    · rintro ⟨k, us, e1, e2⟩
      have hk := nO2 k us e1
      refine ⟨k, us, ?_, ?_⟩
      · rw [out _ _ k okd fun hkT => hk (hT k hkT)]
        exact e1
      · rw [agree k hk]
        exact e2
  -- back from the block
  have backS : ∀ n {G4 H4 : Hp}, (∀ k ∈ own.map (·.2), ∀ t, (M n)[k]? = some t → t = .no) → Sta (u its[i] (M n)) σ3 G4 H4 → (M n).length = σ.length → Sta (M n) σ G4 H4 := fun n G4 H4 hn0 S4 hl => by
    have nO2 : ∀ k us, (M n)[k]? = some (Sl.ow us) → k ∉ own.map (·.2) := fun k us e hk => by
      have := hn0 k hk _ e
      cases this
    refine ⟨S4.gh, hl.symm, fun k x t e1 e2 => ?_, fun k l a us ws e1 e2 e3 e4 => ?_⟩
    · by_cases hk : k ∈ own.map (·.2)
      · obtain rfl := hn0 k hk t e2
        trivial
      · exact S4.sl k x t (by rw [agree k hk]; exact e1) (by rw [out _ _ k okd fun hkT => hk (hT k hkT)]; exact e2)
    · have k1 := nO2 k us e1
      have k2 := nO2 l ws e2
      exact S4.di k l a us ws (by rw [out _ _ k okd fun hkT => k1 (hT k hkT)]; exact e1) (by rw [out _ _ l okd fun hkT => k2 (hT l hkT)]; exact e2) (by rw [agree k k1]; exact e3) (by rw [agree l k2]; exact e4)
  have hMl : ∀ n, (M n).length = σ.length := fun n => by rw [hM n, ← hM i, S.ln]
  have nO3 : ¬ Own (u its[i] (M i)) σ3 Dl := fun w => nO ((oIn i Dl (hno i)).mp w)
  have hD2 := T2.fr Dl _ hDl hGD nO pl_lst
  refine ifd.run S3 _ fun G4 H4 S4 T4 => ?_
  have hD4 := T4.fr Dl _ hD2.1 hD2.2 nO3 pl_lst
  cases kb with
  | false =>
    obtain ⟨eM, eR⟩ := kF rfl
    refine iteF ⟨by omega, G4, acc, ?_, ?_, hD4.1, hD4.2, ?_, ?_⟩
    · rw [eM]
      exact backS i (hno i) S4 (hMl i)
    · rw [eM]
      refine (T0.trans T2).trans ⟨T4.g, fun b o hb gb nb => T4.fr b o hb gb fun w => nb ((oIn i b (hno i)).mp w), fun b w => w, T4.th⟩
    · rw [eR]
      exact racc.up (T2.g.trans T4.g)
    · rw [eM]
      exact nO
  | true =>
    obtain ⟨r, ⟨te, pe, run⟩, eR⟩ := kT rfl
    refine iteT ⟨te, pe, run σ3 G4 H4 S4 _ fun v G5 H5 S5 T5 r5 => ?_⟩
    have hD5 := T5.fr Dl _ hD4.1 hD4.2 nO3 pl_lst
    have S6 := backS (i + 1) (hno (i + 1)) S5 (hMl (i + 1))
    have T6 : Te (M i) σ G2 H' (M (i + 1)) G5 H5 := by
      have T45 := T4.trans T5
      exact ⟨T45.g, fun b o hb gb nb => T45.fr b o hb gb fun w => nb ((oIn i b (hno i)).mp w), fun b w => (oIn i b (hno i)).mp (T45.ow b ((oIn (i + 1) b (hno (i + 1))).mpr w)), T45.th⟩
    have nO6 : ¬ Own (M (i + 1)) σ Dl := fun w => nO (T6.ow Dl w)
    refine ⟨acc, hD5.1, ?_, by omega, G5, acc ++ [v], ?_, ?_, upd_same, hD5.2, ?_, nO6⟩
    · rw [racc.len]
      have := hR i him
      exact Nat.lt_of_lt_of_le (by omega : (R i).length < 200000) (by decide)
    · -- the list grows
      refine ⟨fun b o hb => ?_, S6.ln, fun k x t e1 e2 => ?_, S6.di⟩
      · rw [upd_ne]
        · exact S6.gh b o hb
        · rintro rfl
          rw [hD5.2] at hb
          cases hb
      · have qs := S6.sl k x t e1 e2
        cases t with
        | no => exact qs
        | va d => exact qs
        | ow us =>
          obtain ⟨a, ys, e, q1, q2, q3⟩ := qs
          subst e
          refine ⟨a, ys, rfl, ?_, q2, q3⟩
          rw [upd_ne]
          · exact q1
          · rintro rfl
            exact nO6 ⟨k, us, e2, e1⟩
        | tb => exact Thr.tabs (.put hD5.1) qs
        | fn f G1 => exact qs
    · have TT := (T0.trans T2).trans T6
      refine ⟨TT.g, fun b o hb gb nb nt => ?_, TT.ow, TT.th.trans (.put hD5.1)⟩
      · obtain ⟨q1, q2⟩ := TT.fr b o hb gb nb nt
        refine ⟨?_, q2⟩
        rw [upd_ne (ne_of_none hb hD)]
        exact q1
    · rw [eR]
      exact (racc.up ((T2.g.trans T4.g).trans T5.g)).app (.one r5)
/-- nothing is changed by the element: the items that pass, each by f -/
theorem cd_map {own : List (Str × Nat)} {T : List Nat} {ok : PyData → Prop} {u : PyData → List Sl → List Sl} (f : PyData → PyData) (hi : ItD F tg iter L its L1) (hb : BlkOk F.N F.sc scope own) (ht : TgD (F.blk scope) tg T ok u)
    (hT : ∀ k ∈ T, k ∈ own.map (·.2)) (hM : L1.length = F.N.length) (hno : AllNo (own.map (·.2)) L1)
    (he : ∀ d, d ∈ its → ok d ∧ ED (F.blk scope) elt (u d L1) (f d) (u d L1))
    (hlen : its.length ≤ 100000) (hn : F.N.Nodup := by exact of_decide_eq_true rfl) (hs : ∀ env x, foldedSetIterable iter env x = pure x := by intro _ _; rfl) : CompD F elt tg iter [] scope L (its.map f) L1 := by
  have q := cd_lc (fun _ => L1) (fun i => (its.take i).map f) hi hb ht hT (fun _ => hM) (fun _ => hno) rfl (fun i d hd => ?_) hlen hn hs (elt := elt) (ifs := []) (scope := scope)
  · simpa using q
  · obtain ⟨hl, hv⟩ := List.getElem?_eq_some_iff.mp hd
    obtain ⟨o, w⟩ := he d (List.mem_of_getElem? hd)
    refine ⟨o, true, .nil, fun _ => ⟨f d, w, ?_⟩, fun z => by cases z⟩
    rw [List.take_succ, hd]
    simp
theorem cd_filter {own : List (Str × Nat)} {T : List Nat} {ok : PyData → Prop} {u : PyData → List Sl → List Sl} (f : PyData → PyData) (t : PyData → Bool) (hi : ItD F tg iter L its L1) (hb : BlkOk F.N F.sc scope own) (ht : TgD (F.blk scope) tg T ok u)
    (hT : ∀ k ∈ T, k ∈ own.map (·.2)) (hM : L1.length = F.N.length) (hno : AllNo (own.map (·.2)) L1)
    (he : ∀ d, d ∈ its → ok d ∧ BD (F.blk scope) c (u d L1) (t d) (u d L1) ∧ (t d = true → ED (F.blk scope) elt (u d L1) (f d) (u d L1)))
    (hlen : its.length ≤ 100000) (hn : F.N.Nodup := by exact of_decide_eq_true rfl) (hs : ∀ env x, foldedSetIterable iter env x = pure x := by intro _ _; rfl) : CompD F elt tg iter [c] scope L ((its.filter t).map f) L1 := by
  have q := cd_lc (fun _ => L1) (fun i => ((its.take i).filter t).map f) hi hb ht hT (fun _ => hM) (fun _ => hno) rfl (fun i d hd => ?_) hlen hn hs (elt := elt) (ifs := [c]) (scope := scope)
  · simpa using q
  · obtain ⟨o, w1, w2⟩ := he d (List.mem_of_getElem? hd)
    refine ⟨o, t d, .one w1, fun z => ⟨f d, w2 z, ?_⟩, fun z => ⟨rfl, ?_⟩⟩
    · rw [List.take_succ, hd]
      simp [z]
    · rw [List.take_succ, hd]
      simp [z]
end
end DL
namespace DL
open PySem PyProof.Rows L2
variable [TabL]

section
variable {z : List Nat} {F : Fam} {e e2 a b c tg iter elt : Expr} {es ifs : List Expr} {L L1 L2' L' L3 : List Sl} {d d1 d2 r : PyData} {ds ds2 its rs ms ms' : List PyData} {i : Nat} {pos p p2 : Pos} {x y : Str} {σ σ' σ1 σ2 : L2.St} {G H G1 H1 G2 H2 G' H' : Hp} {scope : Scope}

/-! ### slices -/
def OD (F : Fam) (e : Option Expr) (L : List Sl) (o : Option Int) (L' : List Sl) : Prop := ∃ to, (∀ j, PO (F.x j) e to) ∧ ∀ σ G H, Sta L σ G H → ∀ Q : Option Int → Hp → Prop, (∀ G' H', Sta L' σ G' H' → Te L σ G H L' G' H' → Q o H') → to σ H Q
theorem od_none : OD F none L none L := ⟨_, fun _ => po_none, fun σ G H S Q q => q G H S .refl⟩
theorem od_some {n : Int} (h : ED F e L (.int n) L') : OD F (some e) L (some n) L' := by
  obtain ⟨te, pe, run⟩ := h
  refine ⟨_, fun j => po_some (pe j), fun σ G H S Q q => run σ G H S _ fun v G' H' S' T' r => ?_⟩
  cases r
  exact ⟨n, rfl, q _ _ S' T'⟩
def cutD (ds : List PyData) (lo hi : Option Int) : List PyData := (ds.drop (HT.sIx ds.length 0 lo)).take (HT.sIx ds.length ds.length hi - HT.sIx ds.length 0 lo)
theorem RpA.cut {xs : List V} (r : RpA G xs ds) (lo hi : Option Int) : RpA G (cutV xs lo hi) (cutD ds lo hi) := by
  unfold cutV cutD
  rw [r.len]
  exact (r.drop _).take _
theorem slLf (F : Fam) (j : F.J) : SlR (F.x j) (rSlL F.K) := by
  rw [← F.hK j]
  exact sl_list
theorem fd_slice {lo hi : Option Expr} {l h : Option Int} (ha : ED F a L (.list ds) L1) (h1 : OD F lo L1 l L2') (h2 : OD F hi L2' h L') : FD F (.Subscript a (.Slice lo hi none p2) pos) L (cutD ds l h) L' := by
  obtain ⟨ta, pa, ra⟩ := ha
  obtain ⟨t1, p1, r1⟩ := h1
  obtain ⟨t2, p2, r2⟩ := h2
  refine ⟨_, fun j => pe_slice (slLf F j) (pa j) (p1 j) (p2 j), fun σ G H S Q q => ra σ G H S _ fun x G1 H1 S1 T1 rx => r1 σ G1 H1 S1 _ fun G2 H2 S2 T2 => r2 σ G2 H2 S2 _ fun G3 H3 S3 T3 => ?_⟩
  cases rx with
  | @lst q0 xs _ e1 e2 =>
    refine ⟨q0, xs, rfl, SqL.of (S3.gh _ _ (T3.g _ _ (T2.g _ _ e1))), fun p hp => ?_⟩
    obtain ⟨S4, T4⟩ := S3.new (o := .lst (cutV xs l h)) hp
    have TT := (T1.trans T2).trans T3
    exact q p _ G3 _ S4 (TT.trans T4) (TT.back hp) upd_same (S3.gn hp) ((e2.up (T2.g.trans T3.g)).cut l h)
/-- of one's own list, the bounds reckonings that change nothing -/
theorem fd_sliceO {lo hi : Option Expr} {l h : Option Int} {py : Pos} (i : Nat) (hi' : L[i]? = some (Sl.ow ds)) (h1 : OD F lo L l L) (h2 : OD F hi L h L) (hN : F.N[i]? = some y := by rfl) (hv : Vis F.sc y := by first | exact Or.inl rfl | exact Or.inr (Or.inl rfl) | exact Or.inr (Or.inr rfl)) (hd : (y == ("__debug__" : Str)) = false := by decide) (hcd : (y == ("__classdict__" : Str)) = false := by decide) :
    FD F (.Subscript (.Name y py) (.Slice lo hi none p2) pos) L (cutD ds l h) L := by
  obtain ⟨t1, p1, r1⟩ := h1
  obtain ⟨t2, p2, r2⟩ := h2
  refine ⟨_, fun j => pe_slice (slLf F j) (pvF F i hN hv hd hcd j) (p1 j) (p2 j), fun σ G H S Q q => ?_⟩
  obtain ⟨x0, e1, a, xs0, rfl, _⟩ := S.get hi'
  refine ⟨.ref a, e1, r1 σ G H S _ fun G2 H2 S2 T2 => r2 σ G2 H2 S2 _ fun G3 H3 S3 T3 => ?_⟩
  obtain ⟨x1, e2, a', xs, z, k1, k2, k3⟩ := S3.get hi'
  rw [e1] at e2
  cases e2
  cases z
  refine ⟨a, xs, rfl, SqL.of k1, fun p hp => ?_⟩
  obtain ⟨S4, T4⟩ := S3.new (o := .lst (cutV xs l h)) hp
  have TT := T2.trans T3
  exact q p _ G3 _ S4 (TT.trans T4) (TT.back hp) upd_same (S3.gn hp) (k2.cut l h)
/-- xs[::-1] -/
theorem fd_rev {k : Nat} {p1 p2 p3 : Pos} (ha : LD F a L ds L') : FD F (.Subscript a (.Slice none none (some (.UnaryOp .USub (.Constant (.int 1) k p1) p2)) p3) pos) L ds.reverse L' := by
  obtain ⟨ta, pa, ra⟩ := ha
  refine ⟨tRevL F.K ta, fun j => by rw [← F.hK j]; exact pe_revL (pa j), fun σ G H S Q q => ra σ G H S _ fun q0 xs G1 H1 S1 T1 e1 e2 => ⟨q0, xs, rfl, SqL.of e1, fun p hp => ?_⟩⟩
  obtain ⟨S4, T4⟩ := S1.new (o := .lst xs.reverse) hp
  exact q p _ G1 _ S4 (T1.trans T4) (T1.back hp) upd_same (S1.gn hp) e2.rev
/-! ### + and * of lists -/
theorem fd_cat (ha : ED F a L (.list ds) L1) (hb : ED F b L1 (.list ds2) L') (hl : ds.length + ds2.length ≤ 100000) : FD F (.BinOp a .Add b pos) L (ds ++ ds2) L' := by
  obtain ⟨ta, pa, ra⟩ := ha
  obtain ⟨tb, pb, rb⟩ := hb
  refine ⟨_, fun j => pe_op op_cat (pa j) (pb j), fun σ G H S Q q => ra σ G H S _ fun x G1 H1 S1 T1 rx => rb σ G1 H1 S1 _ fun y G2 H2 S2 T2 ry => ?_⟩
  cases rx with
  | @lst q0 xs _ e1 e2 =>
    cases ry with
    | @lst q1 ys _ f1 f2 =>
      refine ⟨q0, q1, xs, ys, rfl, rfl, S2.gh _ _ (T2.g _ _ e1), S2.gh _ _ f1, Nat.le_trans (by rw [e2.len, f2.len]; exact hl) (by decide), fun p hp => ?_⟩
      obtain ⟨S4, T4⟩ := S2.new (o := .lst (xs ++ ys)) hp
      have TT := T1.trans T2
      exact q p _ G2 _ S4 (TT.trans T4) (TT.back hp) upd_same (S2.gn hp) ((e2.up T2.g).app f2)
theorem RpA.rep {xs : List V} (r : RpA G xs ds) : ∀ k : Nat, RpA G (List.replicate k xs).flatten (List.replicate k ds).flatten
  | 0 => .nil
  | k + 1 => by
    rw [List.replicate_succ, List.replicate_succ, List.flatten_cons, List.flatten_cons]
    exact r.app (RpA.rep r k)
theorem fd_rep {n : Int} (ha : ED F a L (.list ds) L1) (hb : ED F b L1 (.int n) L') (hn : -(2 ^ 63) ≤ n ∧ n < 2 ^ 63) (hl : ds.length * n.toNat ≤ 100000) : FD F (.BinOp a .Mult b pos) L (List.replicate n.toNat ds).flatten L' := by
  obtain ⟨ta, pa, ra⟩ := ha
  obtain ⟨tb, pb, rb⟩ := hb
  refine ⟨_, fun j => pe_op op_rep (pa j) (pb j), fun σ G H S Q q => ra σ G H S _ fun x G1 H1 S1 T1 rx => rb σ G1 H1 S1 _ fun y G2 H2 S2 T2 ry => ?_⟩
  cases ry
  cases rx with
  | @lst q0 xs _ e1 e2 =>
    refine ⟨q0, n, xs, rfl, rfl, S2.gh _ _ (T2.g _ _ e1), hn.1, hn.2, Nat.le_trans (by rw [e2.len]; exact hl) (by decide), fun p hp => ?_⟩
    obtain ⟨S4, T4⟩ := S2.new (o := .lst (List.replicate n.toNat xs).flatten) hp
    have TT := T1.trans T2
    exact q p _ G2 _ S4 (TT.trans T4) (TT.back hp) upd_same (S2.gn hp) ((e2.up T2.g).rep n.toNat)
/-- texts -/
theorem ed_addS {s t : Str} (ha : ED F a L (.str s) L1) (hb : ED F b L1 (.str t) L') (hl : s.length + t.length ≤ 100000) : ED F (.BinOp a .Add b pos) L (.str (s ++ t)) L' := ed_op (fun _ => op_add_str) ha hb fun x y G H _ r1 r2 Q q => by
  cases r1; cases r2; exact ⟨s, t, rfl, rfl, Nat.le_trans hl (by decide), q _ (.str _)⟩
theorem cd_eqS {s t : Str} (ha : ED F a L (.str s) L1) (hb : ED F b L1 (.str t) L') : CD F (.Compare a [.Eq] [b] pos) L (decide (s = t)) L' := cd_cmp (fun _ => op_eq) (nomark _) ha hb fun x y G H _ r1 r2 Q q => by
  cases r1; cases r2
  refine ⟨rfl, ?_⟩
  have e : decide (V.str s = V.str t) = decide (s = t) := by
    by_cases h : s = t
    · subst h; simp
    · rw [decide_eq_false h, decide_eq_false fun z => h (V.str.inj z)]
  rw [e]
  exact q
theorem cd_neS {s t : Str} (ha : ED F a L (.str s) L1) (hb : ED F b L1 (.str t) L') : CD F (.Compare a [.NotEq] [b] pos) L (!decide (s = t)) L' := cd_cmp (fun _ => op_ne) (nomark _) ha hb fun x y G H _ r1 r2 Q q => by
  cases r1; cases r2
  refine ⟨rfl, ?_⟩
  have e : decide (V.str s = V.str t) = decide (s = t) := by
    by_cases h : s = t
    · subst h; simp
    · rw [decide_eq_false h, decide_eq_false fun z => h (V.str.inj z)]
  rw [e]
  exact q
/-! ### a tuple display -/
theorem ed_tup (h : AD F es L ds L') {x1} (hl : ds.length ≤ 100000 := by first | decide | simp | omega) : ED F (.Tuple es x1 pos) L (.tuple ds) L' := by
  obtain ⟨te, pe, run⟩ := h
  refine ⟨_, fun j => pe_tup (pe j), fun σ G H S Q q => run σ G H S _ fun vs G' H' S' T r => ⟨Nat.le_trans (by rw [r.len]; exact hl) (by decide), fun p hp => ?_⟩⟩
  obtain ⟨S2, T2⟩ := S'.newG (o := .tup vs) hp
  exact q _ _ _ S2 (T.trans T2) (.tup upd_same (r.up T2.g))
/-! ### chains a < b < c -/
theorem cd_leLe {l m n : Int} (ha : ED F a L (.int l) L1) (hb : ED F b L1 (.int m) L1) (hc : ED F c L1 (.int n) L1) (hmk : lastMarks [.LtE, .LtE] [b, c] = false := by rfl) : CD F (.Compare a [.LtE, .LtE] [b, c] pos) L (decide (l ≤ m) && decide (m ≤ n)) L1 := by
  obtain ⟨ta, pa, ra⟩ := ha
  obtain ⟨tb, pb, rb⟩ := hb
  obtain ⟨tc, pc, rc⟩ := hc
  refine ⟨_, fun j => pe_chain op_le op_le (pa j) (pb j) (pc j) hmk, fun j => pt_chain op_le op_le (pa j) (pb j) (pc j) hmk, fun σ G H S Q q => ra σ G H S _ fun x G1 H1 S1 T1 rx => rb σ G1 H1 S1 _ fun y G2 H2 S2 T2 ry => ?_⟩
  cases rx; cases ry
  refine ⟨l, m, rfl, rfl, _, rfl, ?_⟩
  by_cases h : l ≤ m
  · rw [decide_eq_true h] at q ⊢
    refine iteT (rc σ G2 H2 S2 _ fun w G3 H3 S3 T3 rw' => ?_)
    cases rw'
    exact ⟨m, n, rfl, rfl, q _ _ S3 ((T1.trans T2).trans T3)⟩
  · rw [decide_eq_false h] at q ⊢
    exact iteF (q _ _ S2 (T1.trans T2))
theorem cd_ltLe {l m n : Int} (ha : ED F a L (.int l) L1) (hb : ED F b L1 (.int m) L1) (hc : ED F c L1 (.int n) L1) (hmk : lastMarks [.Lt, .LtE] [b, c] = false := by rfl) : CD F (.Compare a [.Lt, .LtE] [b, c] pos) L (decide (l < m) && decide (m ≤ n)) L1 := by
  obtain ⟨ta, pa, ra⟩ := ha
  obtain ⟨tb, pb, rb⟩ := hb
  obtain ⟨tc, pc, rc⟩ := hc
  refine ⟨_, fun j => pe_chain op_lt op_le (pa j) (pb j) (pc j) hmk, fun j => pt_chain op_lt op_le (pa j) (pb j) (pc j) hmk, fun σ G H S Q q => ra σ G H S _ fun x G1 H1 S1 T1 rx => rb σ G1 H1 S1 _ fun y G2 H2 S2 T2 ry => ?_⟩
  cases rx; cases ry
  refine ⟨l, m, rfl, rfl, _, rfl, ?_⟩
  by_cases h : l < m
  · rw [decide_eq_true h] at q ⊢
    refine iteT (rc σ G2 H2 S2 _ fun w G3 H3 S3 T3 rw' => ?_)
    cases rw'
    exact ⟨m, n, rfl, rfl, q _ _ S3 ((T1.trans T2).trans T3)⟩
  · rw [decide_eq_false h] at q ⊢
    exact iteF (q _ _ S2 (T1.trans T2))
/-! ### changes of one's own list -/
theorem Sta.put {q : Addr} {xs : List V} (S : Sta L σ G H) (hi : L[i]? = some (Sl.ow ms)) (hs : σ[i]? = some (some (V.ref q))) (r : RpA G xs ms') : Sta (L.set i (.ow ms')) σ G (upd H q (.lst xs)) ∧ Te L σ G H (L.set i (.ow ms')) G (upd H q (.lst xs)) := by
  obtain ⟨x1, e1, q', ys, e2, h1, h2, h3⟩ := S.get hi
  rw [hs] at e1
  cases e1
  cases e2
  refine S.mut hi hs ⟨Same.refl _, fun b o hb => ?_, fun b o hb gb nb _ => ⟨by rw [upd_ne nb]; exact hb, gb⟩, .put h1⟩ upd_same r h3
  · rw [upd_ne]
    · exact S.gh b o hb
    · rintro rfl
      rw [h3] at hb
      cases hb
/-- x.append(e) -/
theorem sd_app {py apos cpos : Pos} (i : Nat) (h : ED F e L d L1) (hi : L1[i]? = some (Sl.ow ms)) (hl : ms.length < 100000) (hL : ∃ us, L[i]? = some (Sl.ow us) := by exact ⟨_, rfl⟩) (hN : F.N[i]? = some y := by rfl) (hv : Vis F.sc y := by first | exact Or.inl rfl | exact Or.inr (Or.inl rfl) | exact Or.inr (Or.inr rfl)) (hd : (y == ("__debug__" : Str)) = false := by decide) (hcd : (y == ("__classdict__" : Str)) = false := by decide)
    (hbase : ∀ env, attributeBase (.Name y py) "append" env (eval (.Name y py) env) = eval (.Name y py) env := by intro _; rfl)
    (hfew : ∀ env, ((backTo cpos (starEach [e] env)).all (fun x => !x.1) && (backToKw cpos (keywordEach [] env)).all (fun x => x.1.isSome) && decide (([e] : List Expr).length + ([] : List Keyword).length + (if ([] : List Keyword).isEmpty then 0 else 1) < 30)) = true := by intro _; rfl)
    (hline : (apos.endLine == cpos.line) = true := by rfl) (hs : ∀ env, starEach [e] env = (false, eval e env) :: starEach [] env := by intro _; rfl) (hplain : ∀ env, (backTo cpos (starEach [] env)).any (·.1) = false := by intro _; rfl)
    (hsw : ∀ env, swapsWith (.Call (.Attribute (.Name y py) "append" apos) [e] [] cpos) none pos.line env = pure false := by intro _; rfl) :
    SD z F (.Expr (.Call (.Attribute (.Name y py) "append" apos) [e] [] cpos) pos) L (.nx (L1.set i (.ow (ms ++ [d])))) := by
  obtain ⟨te, pe, run⟩ := h
  have pc : PEf F (.Call (.Attribute (.Name y py) "append" apos) [e] [] cpos) (tBM F.K "list" rAppend (tVar i) (tCons te tNil)) := fun j => by
    rw [← F.hK j]
    exact pe_bm PySem.F.plainAttrs_list PySem.F.slot_list_append PySem.F.type_list_append mt_append (pvF F i hN hv hd hcd j) (pa_cons (pe j) pa_nil (hs _)) (hbase _) (hfew _) hline (hs _) (hplain _)
  refine ⟨_, fun j => ps_expr (pc j) (hsw _), fun σ G H S D q => ?_⟩
  obtain ⟨us, hus⟩ := hL
  obtain ⟨x0, e1, q0, xs0, rfl, k1, _, _⟩ := S.get hus
  refine ⟨.ref q0, e1, .inl ⟨rfl, _, SqL.of k1⟩, run σ G H S _ fun v G1 H1 S1 T1 r1 => ?_⟩
  obtain ⟨x1, e2, q1, xs, w, h1, h2, h3⟩ := S1.get hi
  rw [e1] at e2
  cases e2
  cases w
  refine ⟨q0, xs, v, rfl, rfl, h1, Nat.lt_of_lt_of_le (by rw [h2.len]; exact hl) (by decide), ?_⟩
  obtain ⟨S2, T2⟩ := S1.put hi e1 (h2.app (.one r1))
  exact q σ _ _ S2 (T1.trans T2).ts .refl
/-- x[k] = e -/
theorem sd_put {py tpos : Pos} {n : Int} {k : Nat} (i : Nat) (h : ED F e L d L1) (hb : ED F b L1 (.int n) L1) (hi : L1[i]? = some (Sl.ow ms)) (hk : ixN ms.length n = some k) (hN : F.N[i]? = some y := by rfl) (hv : Vis F.sc y := by first | exact Or.inl rfl | exact Or.inr (Or.inl rfl) | exact Or.inr (Or.inr rfl)) (hd : (y == ("__debug__" : Str)) = false := by decide) (hcd : (y == ("__classdict__" : Str)) = false := by decide)
    (ha : ∀ env v, assign (.Subscript (.Name y py) b tpos) env v = (do
      let ov ← holding [v] (eval (.Name y py) env)
      let iv ← holding [v, ov] (eval b env)
      standAt tpos
      holding [v, ov, iv] (setItem ov iv v)
      release [v, ov, iv] []) := by intro _ _; rfl)
    (hs : ∀ j, swapsWithSole [.Subscript (.Name y py) b tpos] e pos.line (F.x j).env = pure false := by intro _; rfl) (hw : ∀ j, swappedStores [.Subscript (.Name y py) b tpos] e (F.x j).env = pure none := by intro _; rfl) (h1 : ∀ env, (assignEach [.Subscript (.Name y py) b tpos] env).map (·.2) = [assign (.Subscript (.Name y py) b tpos) env] := by intro _; rfl) :
    SD z F (.Assign [.Subscript (.Name y py) b tpos] e pos) L (.nx (L1.set i (.ow (ms.set k d)))) := by
  obtain ⟨te, pe, run⟩ := h
  obtain ⟨tb, pb, rb⟩ := hb
  refine ⟨_, fun j => ps_asg (pe j) (pg_sub (pvF F i hN hv hd hcd j) (pb j) set_list (ha _)) (hs j) (hw j) (h1 _), fun σ G H S D q => run σ G H S _ fun v G1 H1 S1 T1 r1 => ?_⟩
  obtain ⟨x0, e1, q0, xs0, rfl, _⟩ := S1.get hi
  refine ⟨.ref q0, e1, rb σ G1 H1 S1 _ fun w G2 H2 S2 T2 r2 => ?_⟩
  cases r2
  obtain ⟨x1, e2, q1, xs, w, g1, g2, g3⟩ := S2.get hi
  rw [e1] at e2
  cases e2
  cases w
  refine ⟨q0, xs, n, k, rfl, rfl, g1, by rw [g2.len]; exact hk, ?_⟩
  obtain ⟨S3, T3⟩ := S2.put hi e1 (g2.set (r1.up T2.g) k)
  exact q σ _ _ S3 ((T1.trans T2).trans T3).ts .refl
/-- a, b = e, e a pair -/
theorem sd_tup2 {px py : Pos} {kt : Nat} (i j : Nat) (h : ED F e L (.tuple [d1, d2]) L1) (hz : i ∉ z ∧ j ∉ z := by decide) (hln : L1.length = F.N.length := by rfl) (hi : F.N[i]? = some x := by rfl) (hx : Loc F.sc x := by first | exact Or.inl rfl | exact Or.inr rfl) (hf : StF F x := by first | exact Or.inl rfl | exact Or.inr rfl)
    (hj : F.N[j]? = some y := by rfl) (hy : Loc F.sc y := by first | exact Or.inl rfl | exact Or.inr rfl) (hfy : StF F y := by first | exact Or.inl rfl | exact Or.inr rfl) (hn : F.N.Nodup := by exact of_decide_eq_true rfl)
    (hs : ∀ j, swapsWithSole [.Tuple [.Name x px, .Name y py] kt p] e pos.line (F.x j).env = pure false := by intro _; rfl) (hw : ∀ j, swappedStores [.Tuple [.Name x px, .Name y py] kt p] e (F.x j).env = pure none := by intro _; rfl) (h1 : ∀ env, (assignEach [.Tuple [.Name x px, .Name y py] kt p] env).map (·.2) = [assign (.Tuple [.Name x px, .Name y py] kt p) env] := by intro _; rfl) :
    SD z F (.Assign [.Tuple [.Name x px, .Name y py] kt p] e pos) L (.nx ((L1.set i (.va d1)).set j (.va d2))) := by
  obtain ⟨te, pe, run⟩ := h
  obtain ⟨⟨g, pg, runG⟩, _, _, _⟩ := tg_tup2 (F := F) (k := kt) (p := p) (px := px) (py := py) i j hi hx hf hj hy hfy hn
  refine ⟨_, fun j => ps_asg (pe j) (pg j) (hs j) (hw j) (h1 _), fun σ G H S D q => run σ G H S _ fun v G1 H1 S1 T1 r1 => ?_⟩
  refine runG (.tuple [d1, d2]) ⟨d1, d2, rfl⟩ L1 v σ G1 H1 hln S1 r1 _ fun σ' S2 T2 A => ?_
  exact q σ' G1 H1 S2 (T1.ts.trans S1.gh T2) fun k hk => A k (by
    intro hm
    rcases List.mem_cons.mp hm with h | h
    · exact hz.1 (by rw [← h]; exact hk)
    · have : k = j := by simpa using h
      exact hz.2 (by rw [← this]; exact hk))
/-! ### repr -/
theorem call_reprD {X : Cx} (hg : X.A.guards = some []) (hu : X.A.units + 100 < cLine) : CallR X (.builtin "repr") (fun xs H Q => ∃ v d, xs = [v] ∧ Dp X.K H v d ∧ d.showable = true ∧ d.hasDict = false ∧ d.depth ≤ 60 ∧ isDisplay d = true ∧ d.shown.length ≤ sizeLine ∧ Q (.str d.shown) H) := by
  intro pins s σ H xs us Q I r q
  obtain ⟨v, d, rfl, dp, h1, h2, h3, h4, h5, q⟩ := q
  obtain ⟨u, rfl, rv⟩ := vals1 r
  obtain ⟨as, rd⟩ := Dp.reads I d v u dp rv
  obtain ⟨a, rfl⟩ := isRef_of_reads rd h4
  exact repr_of_reads' rd h1 (PyData.noDict_hsm h2) hg (by omega) (fun _ _ e => e) (fun h' t tk hk => ⟨.str d.shown, H, I.kept (t' := tk) hk, ⟨_, rfl⟩, q⟩) h5
theorem reprf (F : Fam) (j : F.J) : CallR (F.x j) (.builtin "repr") (fun xs H Q => ∃ v d, xs = [v] ∧ Dp F.K H v d ∧ d.showable = true ∧ d.hasDict = false ∧ d.depth ≤ 60 ∧ isDisplay d = true ∧ d.shown.length ≤ sizeLine ∧ Q (.str d.shown) H) := by
  rw [← F.hK j]
  exact call_reprD (F.hg j) (by have := (F.hr j).un; omega)
structure ReprOk (d : PyData) : Prop where
  sh : d.showable = true
  nd : d.hasDict = false
  dp : d.depth ≤ 60
  di : isDisplay d = true
  ln : d.shown.length ≤ sizeLine
theorem ed_repr (h : HD F e L d L') (ok : ReprOk d) (hm : F.mg "repr" = none) (hg : GlF F "repr" := by rfl) (hs : ∀ env, starEach [e] env = (false, eval e env) :: starEach [] env := by intro _; rfl) : ED F (.Call (.Name "repr" p) [e] [] pos) L (.str d.shown) L' := by
  obtain ⟨te, pe, run⟩ := h
  refine ⟨_, bt_any (reprf F) hg hm (by decide +kernel) (pa1 pe hs) (by decide) (by decide) hs (fun _ => rfl), fun σ G H S Q q => run σ G H S _ fun v G' H' S' T r => ?_⟩
  exact ⟨v, d, rfl, Rp.dp _ _ ok.nd r, ok.sh, ok.nd, ok.dp, ok.di, ok.ln, q _ _ _ S' T (.str _)⟩
end

/-! ### defs -/
section
variable {P : Program} {w : World} {K : PySem.W.Frag} {mg : Str → Option Value} {base : Heap}
def FamJ (qual : Str) (sc : Scope) (f : Addr) (k : Nat) : Type := { t : Value × Around × List Env × Shared × Hp // t.2.1.guards = some [] ∧ Room k (t.2.1.deeper (envOfC qual sc t.2.2.2.1.heap.objs.size f t.1)) }
def famOf (P : Program) (w : World) (K : PySem.W.Frag) (mg : Str → Option Value) (base : Heap) (N : List Str) (qual : Str) (sc : Scope) (f : Addr) (k : Nat) : Fam where
  J := FamJ qual sc f k
  x := fun t => (cxOf CX0 P w K mg base N qual sc f t.1.1 t.1.2.1 t.1.2.2.1 t.1.2.2.2.1 t.1.2.2.2.2 E0).nox
  P := P
  w := w
  K := K
  mg := mg
  base := base
  N := N
  sc := sc
  fn := fun _ => true
  k := k
  hP := fun _ => rfl
  hw := fun _ => rfl
  hK := fun _ => rfl
  hmg := fun _ => rfl
  hbase := fun _ => rfl
  hN := fun _ => rfl
  hsc := fun _ => rfl
  hfn := fun _ => rfl
  hc := fun _ => rfl
  hr := fun t => t.2.2
  hxe := fun _ => rfl
  hg := fun t => guards_in t.2.1
def startL (N : List Str) (ds : List PyData) : List Sl := ds.map Sl.va ++ List.replicate (N.length - ds.length) .no
def startM (N : List Str) (ms ds : List PyData) : List Sl := .ow ms :: (ds.map Sl.va ++ List.replicate (N.length - (ds.length + 1)) .no)
theorem startL_get {N : List Str} {ds : List PyData} {i : Nat} {t : Sl} (h : (startL N ds)[i]? = some t) : (∃ d, ds[i]? = some d ∧ t = .va d) ∨ t = .no := by
  unfold startL at h
  by_cases hi : i < (ds.map Sl.va).length
  · rw [List.getElem?_append_left hi, List.getElem?_map] at h
    cases e : ds[i]? with
    | none =>
      rw [e] at h
      cases h
    | some d =>
      rw [e] at h
      exact .inl ⟨d, rfl, (Option.some.inj h).symm⟩
  · rw [List.getElem?_append_right (by omega), List.getElem?_replicate] at h
    split at h
    · exact .inr (Option.some.inj h).symm
    · cases h
theorem start_get {N : List Str} {vs : List V} {i : Nat} {v : V} (h : vs[i]? = some v) : (L2.start N vs)[i]? = some (some v) := by
  unfold L2.start
  have hi : i < vs.length := (List.getElem?_eq_some_iff.mp h).1
  rw [List.getElem?_append_left (by rw [List.length_map]; exact hi), List.getElem?_map, h]
  rfl
theorem staL {N : List Str} {vs : List V} {ds : List PyData} {G H : Hp} (gh : Same G H) (r : RpA G vs ds) (hl : ds.length ≤ N.length) : Sta (startL N ds) (L2.start N vs) G H := by
  refine ⟨gh, ?_, fun i x t e1 e2 => ?_, fun i j a us ws e1 _ _ _ => ?_⟩
  · unfold L2.start startL
    rw [List.length_append, List.length_append, List.length_map, List.length_map, List.length_replicate, List.length_replicate, r.len]
  · rcases startL_get e2 with ⟨d, h, rfl⟩ | rfl
    · obtain ⟨v, hv, rv⟩ := r.get h
      rw [start_get hv] at e1
      cases e1
      exact ⟨v, rfl, rv⟩
    · trivial
  · rcases startL_get e1 with ⟨d, h, z⟩ | z
    · cases z
    · cases z
theorem noOwnL {N : List Str} {ds : List PyData} {σ : L2.St} {b : Addr} : ¬ Own (startL N ds) σ b := by
  rintro ⟨i, us, e, _⟩
  rcases startL_get e with ⟨d, h, z⟩ | z
  · cases z
  · cases z
variable {x qual : Str} {st : Stmt} {f : Addr} {fd : FuncData} {N ps : List Str} {k : Nat}
theorem fnBody {params : Arguments} {body : List Stmt} {scope : Scope} {dV kV doc pm cdv ct oc : Value} {an od : Option Addr} {osl : Array (Option Value)} {sp : Sp}
    (lk : K.lookup f = some ⟨oc, od, .func (PySem.W.fnOf x qual params body scope dV kV doc pm an cdv ct), osl⟩) (hcd : PySem.W.codeIn K cdv qual = true) (S : FnScope N ps scope) (len : ∀ vs H Q E, sp vs H Q E → vs.length = ps.length)
    (hb : ∀ (vs : List V) (H : Hp) (Q : VK), sp vs H Q E0 → ∃ t, PSsf (famOf P w K mg base N qual scope f k) body t ∧ t { nx := fun _ H' => Q .non H', rt := Q } (L2.start N vs) H) :
    FnG P w K mg base (k + 1) f (PySem.W.fnOf x qual params body scope dV kV doc pm an cdv ct) ps sp :=
  fnG_of lk hcd S len fun A outer s H vs Q hg hr hsp => by
    obtain ⟨t, ps, q⟩ := hb vs H Q hsp
    exact ⟨t, ps ⟨(cdv, A, outer, s, H), hg, hr⟩, q⟩
theorem FnScope.fit {sc : Scope} (S : FnScope N ps sc) : ps.length ≤ N.length := by
  have := congrArg List.length S.pre
  rw [List.length_take] at this
  omega
/-- hands back data -/
theorem bodyD {F : Fam} {body : List Stmt} {Φ : List PyData → PyData → Prop} (hN : F.N = N) (fit : ∀ ds r, Φ ds r → ds.length ≤ N.length) (hb : ∀ ds r, Φ ds r → ∃ L', SsD [] F body (startL N ds) (.rt r L')) (vs : List V) (H : Hp) (Q : VK) (E : XK) (h : spD Φ vs H Q E) :
    ∃ t, PSsf F body t ∧ t { nx := fun _ H' => Q .non H', rt := Q } (L2.start N vs) H := by
  obtain ⟨ds, r, G, hΦ, gh, rp, q⟩ := h
  obtain ⟨L', ts, ps, run⟩ := hb ds r hΦ
  refine ⟨ts, ps, run _ G H (staL gh rp (fit ds r hΦ)) _ fun v σ' G' H' S' T' _ rv => ?_⟩
  exact q v G' H' ⟨T'.g, S'.gh, fun b o hb gb _ => T'.fr b o hb gb noOwnL, T'.th⟩ rv
theorem bodyL {F : Fam} {body : List Stmt} {Φ : List PyData → List PyData → Prop} (fit : ∀ ds r, Φ ds r → ds.length ≤ N.length) (hb : ∀ ds r, Φ ds r → ∃ L', SsD [] F body (startL N ds) (.rl r L')) (vs : List V) (H : Hp) (Q : VK) (E : XK) (h : spL Φ vs H Q E) :
    ∃ t, PSsf F body t ∧ t { nx := fun _ H' => Q .non H', rt := Q } (L2.start N vs) H := by
  obtain ⟨ds, r, G, hΦ, gh, rp, q⟩ := h
  obtain ⟨L', ts, ps, run⟩ := hb ds r hΦ
  refine ⟨ts, ps, run _ G H (staL gh rp (fit ds r hΦ)) _ fun p xs σ' G' H' S' T' _ hp _ hq gq rv => ?_⟩
  have hp0 : H p = none := hp.resolve_left noOwnL
  exact q p xs G' H' ⟨T'.g, S'.gh, fun b o hb gb _ => T'.fr b o hb gb noOwnL, T'.th⟩ hp0 hq gq rv
theorem staM {vs : List V} {ms ds : List PyData} {G H : Hp} {a : Addr} {xs : List V} (gh : Same G H) (r : RpA G vs ds) (hl : ds.length + 1 ≤ N.length) (ha : H a = some (.lst xs)) (ra : RpA G xs ms) (ga : G a = none) :
    Sta (startM N ms ds) (L2.start N (.ref a :: vs)) G H ∧ ∀ b, Own (startM N ms ds) (L2.start N (.ref a :: vs)) b ↔ b = a := by
  have at0 : (startM N ms ds)[0]? = some (Sl.ow ms) := rfl
  have more : ∀ i t, (startM N ms ds)[i + 1]? = some t → (∃ d, ds[i]? = some d ∧ t = .va d) ∨ t = .no := fun i t h => by
    have h' : (ds.map Sl.va ++ List.replicate (N.length - (ds.length + 1)) Sl.no)[i]? = some t := h
    by_cases hi : i < (ds.map Sl.va).length
    · rw [List.getElem?_append_left hi, List.getElem?_map] at h'
      cases e : ds[i]? with
      | none =>
        rw [e] at h'
        cases h'
      | some d =>
        rw [e] at h'
        exact .inl ⟨d, rfl, (Option.some.inj h').symm⟩
    · rw [List.getElem?_append_right (by omega), List.getElem?_replicate] at h'
      split at h'
      · exact .inr (Option.some.inj h').symm
      · cases h'
  have only0 : ∀ i us, (startM N ms ds)[i]? = some (Sl.ow us) → i = 0 := fun i us h => by
    cases i with
    | zero => rfl
    | succ i =>
      rcases more i _ h with ⟨d, _, z⟩ | z
      · cases z
      · cases z
  have s0 : (L2.start N (.ref a :: vs))[0]? = some (some (V.ref a)) := start_get rfl
  refine ⟨⟨gh, ?_, fun i x t e1 e2 => ?_, fun i j b us ws e1 e2 _ _ => (only0 i us e1).trans (only0 j ws e2).symm⟩, fun b => ⟨?_, ?_⟩⟩
  · unfold L2.start startM
    simp only [List.length_append, List.length_map, List.length_replicate, List.length_cons, r.len]
    omega
  · cases i with
    | zero =>
      rw [s0] at e1
      rw [at0] at e2
      cases e1
      cases e2
      exact ⟨a, xs, rfl, ha, ra, ga⟩
    | succ i =>
      rcases more i t e2 with ⟨d, h, rfl⟩ | rfl
      · obtain ⟨v, hv, rv⟩ := r.get h
        have : (L2.start N (.ref a :: vs))[i + 1]? = some (some v) := start_get (by simpa using hv)
        rw [this] at e1
        cases e1
        exact ⟨v, rfl, rv⟩
      · trivial
  · rintro ⟨i, us, e1, e2⟩
    obtain rfl := only0 i us e1
    rw [s0] at e2
    cases e2
    rfl
  · rintro rfl
    exact ⟨0, ms, at0, s0⟩
theorem bodyM {F : Fam} {body : List Stmt} {Φ : List PyData → List PyData → PyData × List PyData → Prop} (fit : ∀ ms ds r, Φ ms ds r → ds.length + 1 ≤ N.length) (hb : ∀ ms ds r ms', Φ ms ds (r, ms') → ∃ L', SsD [0] F body (startM N ms ds) (.rt r L') ∧ L'[0]? = some (Sl.ow ms')) (vs : List V) (H : Hp) (Q : VK) (E : XK) (h : spM Φ vs H Q E) :
    ∃ t, PSsf F body t ∧ t { nx := fun _ H' => Q .non H', rt := Q } (L2.start N vs) H := by
  obtain ⟨a, ws, xs, ms, ds, r, ms', G, rfl, hΦ, gh, rp, ha, ra, ga, q⟩ := h
  obtain ⟨L', ⟨ts, ps, run⟩, h0⟩ := hb ms ds r ms' hΦ
  obtain ⟨S, O⟩ := staM (N := N) gh rp (fit ms ds _ hΦ) ha ra ga
  refine ⟨ts, ps, run _ G H S _ fun v σ' G' H' S' T' A' rv => ?_⟩
  obtain ⟨x1, e1, b, ys, rfl, k1, k2, k3⟩ := S'.get h0
  have e2 := A' 0 (List.mem_singleton.mpr rfl)
  rw [e1, start_get (i := 0) (v := .ref a) rfl] at e2
  cases e2
  exact q v G' H' ys ⟨T'.g, S'.gh, fun b o hb gb nb => T'.fr b o hb gb fun w => nb ((O b).mp w), T'.th⟩ k1 k2 k3 rv
theorem bodyML {F : Fam} {body : List Stmt} {Φ : List PyData → List PyData → List PyData × List PyData → Prop} (fit : ∀ ms ds r, Φ ms ds r → ds.length + 1 ≤ N.length) (hb : ∀ ms ds r ms', Φ ms ds (r, ms') → ∃ L', SsD [0] F body (startM N ms ds) (.rl r L') ∧ L'[0]? = some (Sl.ow ms')) (vs : List V) (H : Hp) (Q : VK) (E : XK) (h : spML Φ vs H Q E) :
    ∃ t, PSsf F body t ∧ t { nx := fun _ H' => Q .non H', rt := Q } (L2.start N vs) H := by
  obtain ⟨a, ws, xs, ms, ds, r, ms', G, rfl, hΦ, gh, rp, ha, ra, ga, q⟩ := h
  obtain ⟨L', ⟨ts, ps, run⟩, h0⟩ := hb ms ds r ms' hΦ
  obtain ⟨S, O⟩ := staM (N := N) gh rp (fit ms ds _ hΦ) ha ra ga
  refine ⟨ts, ps, run _ G H S _ fun p zs σ' G' H' S' T' A' hp no hq gq rz => ?_⟩
  obtain ⟨x1, e1, b, ys, rfl, k1, k2, k3⟩ := S'.get h0
  have e2 := A' 0 (List.mem_singleton.mpr rfl)
  rw [e1, start_get (i := 0) (v := .ref a) rfl] at e2
  cases e2
  have hp0 : H p = none := hp.resolve_left fun w => by
    obtain rfl := (O p).mp w
    exact no ⟨0, ms', h0, e1⟩
  exact q p zs G' H' ys ⟨T'.g, S'.gh, fun b o hb gb nb => T'.fr b o hb gb fun w => nb ((O b).mp w), T'.th⟩ k1 k2 k3 hp0 hq gq rz
end
end DL
namespace DL
open PySem PyProof.Rows L2
variable [TabL]

/-! ### x, *y = a list -/
def gStar (K : PySem.W.Frag) (i j : Nat) : TG := fun v σ H Q => ∃ a hd tl, v = .ref a ∧ SqL K H a (hd :: tl) ∧ tl.length ≤ 10000 ∧ ∀ D, H D = none → Q ((σ.set i (some hd)).set j (some (.ref D))) (upd H D (.lst tl))
theorem pg_star {X : Cx} {i j : Nat} {x y : Str} {px py ps pos : Pos} {k : Nat} (hc : X.calm = true) (hn : X.N.Nodup) (hi : X.N[i]? = some x) (hx : Loc X.env.scope x) (hf : X.fn x = true ∨ X.env.scope.names.lookup x = some .local) (hj : X.N[j]? = some y) (hy : Loc X.env.scope y) (hfy : X.fn y = true ∨ X.env.scope.names.lookup y = some .local) :
    PG X (.Tuple [.Name x px, .Starred (.Name y py) ps] k pos) (gStar X.K i j) := by
  refine ⟨fun pins s σ H v u Q I r w => ?_⟩
  obtain ⟨a, hd, tl, rfl, hq, hl, w⟩ := w
  cases r
  obtain ⟨its, rv, pl, hz⟩ := I.list hq
  have isl : s.heap.IsList a its.toArray := by
    obtain ⟨o, m, e, c, d, q⟩ := pl
    exact ⟨o, e, c, m, q⟩
  cases rv with
  | @cons _ u _ us r0 rt =>
    have pg2 : PGs X [.Name x px, .Name y py] (gCons (gName i) (gCons (gName j) gNil)) := pgs_cons (pg_name hn hi hx hf) (pgs_cons (pg_name hn hj hy hfy) pgs_nil)
    have ha : a < s.heap.objs.size := by
      obtain ⟨o, e, _⟩ := isl
      exact Heap.lt_size e
    have hne : a ≠ s.heap.objs.size := Nat.ne_of_lt ha
    have hh := I.ok.hd hc
    have hsz : us.length = tl.length := rt.length.symm
    rw [PyProof.Rows.assign_Tuple]
    refine wpAny_bind (wpAny_standAt ?_)
    show wpAny _ _ (unpack (.ref a) [(false, assign (.Name x px) X.env), (true, assign (.Name y py) X.env)]) _ _ _
    unfold unpack
    show wpAny _ _ (holding [Value.ref a] (unpackItems (.ref a) 2 (some 1)) >>= fun vs => assignInOrder ((assignEach [.Name x px, .Name y py] X.env).map (·.2)) vs) _ _ _
    refine wpAny_bind (wpAny_holding ?_)
    unfold unpackItems notIterableAtAll
    refine wpAny_bind (wpAny_bind (wpAny_specialOf isl.typeIs slot_list_iter.lookup (wpAny_pure ?_)))
    simp only [Bool.false_eq_true, if_false]
    refine wpAny_bind (wpAny_holding (wpAny_pyIter_list isl ?_))
    refine wpAny_bind (wpAny_holding (PySem.W.kun_draw hne 1 0 _ _ ⟨_, Heap.get?_push_size _ rfl, rfl, rfl⟩ (isl.push _) (by simp) fun h1 hit hs1 => ?_))
    have isl1 : h1.IsList a (u :: us).toArray := (isl.push _).extBut hs1.extBut hne
    have itl : s.heap.objs.size < h1.objs.size := by
      obtain ⟨oi, hoi, _⟩ := id hit
      exact Heap.lt_size hoi
    have al : a < h1.objs.size := by
      obtain ⟨oi, hoi, _⟩ := id isl1
      exact Heap.lt_size hoi
    show wpAny _ _ (if ([u] : List Value).length < 1 then _ else _) _ _ _
    rw [if_neg (show ¬ (([u] : List Value).length < 1) from fun h => absurd h (Nat.lt_irrefl 1))]
    refine wpAny_bind (wpAny_holding (PySem.W.kun_collect (s := { s with heap := h1 }) (T := "list_iterator") (.inr (.inr (.inl rfl))) (Walks.list (A := X.A.in1) hh s.heap.objs.size a hne (u :: us).toArray) (fun _ _ st => st.1.typeIs) (k := 1) (by simp) ⟨hit, isl1⟩ itl al (fun h2 tk hk => ?_) ?_))
    case refine_2 =>
      simp only [List.size_toArray, List.length_cons]
      exact Nat.le_trans (by omega : us.length + 1 ≤ 10001) (by decide)
    show wpAny _ _ (if us.length < 0 then _ else _) _ _ _
    rw [if_neg (by omega)]
    show wpAny _ _ (newList (us.take (us.length - 0)) >>= fun D => pure ([u] ++ [D] ++ us.drop (us.length - 0))) _ _ _
    rw [Nat.sub_zero, List.take_length, List.drop_length]
    refine wpAny_bind (wpAny_newList (wpAny_pure ?_))
    have k2 : ∀ b o, s.heap.get? b = some o → h2.get? b = some o := fun b o e => hk b o (Nat.ne_of_lt (Heap.lt_size e)) ((hs1.2 b (Nat.ne_of_lt (Heap.lt_size e))).trans (Heap.get?_push_of_some _ e))
    have I1 : Inv X pins σ H { s with heap := h2, toks := tk } := I.kept (t' := tk) k2
    have fr : H h2.objs.size = none := I1.hok.fresh (Nat.le_refl _)
    have I2 : Inv X pins σ (upd H h2.objs.size (.lst tl)) { s with heap := h2.push { cls := .type "list", data := .seq us.toArray }, toks := tk } :=
      I1.laid (t' := tk) (fun b o e => Heap.get?_push_of_some _ e) (Nat.le_refl _) ⟨Nat.le_trans hl (by decide), us, 0, rt, Heap.get?_push_size _ rfl⟩
    refine pg2.run pins _ σ _ [hd, .ref h2.objs.size] [u, .ref h2.objs.size] Q I2 (.cons r0 (.cons rfl .nil)) ?_
    exact ⟨_, _, rfl, _, _, rfl, rfl, w _ fr⟩

section
variable {z : List Nat} {F : Fam} {e e2 a b c tg iter elt : Expr} {es ifs : List Expr} {L L1 L2' L' L3 : List Sl} {d d1 d2 r : PyData} {ds ds2 its rs ms ms' : List PyData} {i : Nat} {pos p p2 : Pos} {x y : Str} {σ σ' σ1 σ2 : L2.St} {G H G1 H1 G2 H2 G' H' : Hp} {scope : Scope}
theorem sd_star {px py ps : Pos} {kt : Nat} (i j : Nat) (h : ED F e L (.list (d :: ds)) L1) (hd : ds.length ≤ 10000) (hij : i ≠ j := by decide) (hz : i ∉ z ∧ j ∉ z := by decide) (hln : L1.length = F.N.length := by rfl) (hi : F.N[i]? = some x := by rfl) (hx : Loc F.sc x := by first | exact Or.inl rfl | exact Or.inr rfl) (hf : StF F x := by first | exact Or.inl rfl | exact Or.inr rfl)
    (hj : F.N[j]? = some y := by rfl) (hy : Loc F.sc y := by first | exact Or.inl rfl | exact Or.inr rfl) (hfy : StF F y := by first | exact Or.inl rfl | exact Or.inr rfl) (hn : F.N.Nodup := by exact of_decide_eq_true rfl)
    (hs : ∀ j, swapsWithSole [.Tuple [.Name x px, .Starred (.Name y py) ps] kt p] e pos.line (F.x j).env = pure false := by intro _; rfl) (hw : ∀ j, swappedStores [.Tuple [.Name x px, .Starred (.Name y py) ps] kt p] e (F.x j).env = pure none := by intro _; rfl) (h1 : ∀ env, (assignEach [.Tuple [.Name x px, .Starred (.Name y py) ps] kt p] env).map (·.2) = [assign (.Tuple [.Name x px, .Starred (.Name y py) ps] kt p) env] := by intro _; rfl) :
    SD z F (.Assign [.Tuple [.Name x px, .Starred (.Name y py) ps] kt p] e pos) L (.nx ((L1.set i (.va d)).set j (.ow ds))) := by
  obtain ⟨te, pe, run⟩ := h
  have pg : PGf F (.Tuple [.Name x px, .Starred (.Name y py) ps] kt p) (gStar F.K i j) := fun j0 => by
    rw [← F.hK j0]
    exact pg_star (F.hc j0) (by rw [F.hN]; exact hn) (by rw [F.hN]; exact hi) (locF hx j0) (hf.at j0) (by rw [F.hN]; exact hj) (locF hy j0) (hfy.at j0)
  refine ⟨_, fun j => ps_asg (pe j) (pg j) (hs j) (hw j) (h1 _), fun σ G H S D q => run σ G H S _ fun v G1 H1 S1 T1 r1 => ?_⟩
  cases r1 with
  | @lst a xs _ k1 k2 =>
    cases k2 with
    | @cons hd' tl _ _ r0 rt =>
      refine ⟨a, hd', tl, rfl, SqL.of (S1.gh _ _ k1), by rw [rt.len]; exact hd, fun Da hD => ?_⟩
      have li : i < L1.length := by rw [hln]; exact (List.getElem?_eq_some_iff.mp hi).1
      have lj : j < L1.length := by rw [hln]; exact (List.getElem?_eq_some_iff.mp hj).1
      obtain ⟨S2, T2⟩ := S1.set_va (i := i) li r0
      obtain ⟨S3, T3⟩ := S2.new (o := .lst tl) hD
      obtain ⟨S4, O4⟩ := S3.set_ow (i := j) (by rw [List.length_set]; exact lj) upd_same (S2.gn hD) (S2.own_ne hD) rt
      have T34 : Ts (L1.set i (.va d)) (σ.set i (some hd')) G1 H1 ((L1.set i (.va d)).set j (.ow ds)) ((σ.set i (some hd')).set j (some (.ref Da))) G1 (upd H1 Da (.lst tl)) :=
        ⟨T3.g, T3.fr, fun b w => (O4 b w).imp (fun h => h) (fun e => by rw [e]; exact hD), T3.th⟩
      exact q _ _ _ S4 ((T1.ts.trans S1.gh T2).trans S2.gh T34) ((Anc.set hz.1).trans (Anc.set hz.2))
/-! ### isinstance with a built-in class -/
def tyD : PyData → String
  | .none => "NoneType"
  | .bool _ => "bool"
  | .int _ => "int"
  | .str _ => "str"
  | .list _ => "list"
  | .tuple _ => "tuple"
  | .dict _ => "dict"
/-- isinstance of data; an error is asked by another rule -/
def kitD : PyData → String → Option Bool
  | .dict ((.str _, _) :: _), _ => none
  | d, T => kitB (tyD d) T
theorem isif (F : Fam) (j : F.J) : CallR (F.x j) (.builtin "isinstance") (rIsi F.K) := by
  rw [← F.hK j]
  exact call_isi
theorem ed_isi {T : String} {p3 : Pos} {k : Bool} (h : ED F e L d L') (hm : F.mg "isinstance" = none) (hmT : F.mg (Str.ofString T) = none) (hvT : bootBuiltins (Str.ofString T) = some (.type T)) (hk : kitD d T = some k) (hg : GlF F "isinstance" := by rfl) (hgT : GlF F (Str.ofString T) := by rfl)
    (hnT : Str.ofString T ≠ "__name__" := by decide) (hdT : (Str.ofString T == ("__debug__" : Str)) = false := by decide) (hs : ∀ env, starEach [e, .Name (Str.ofString T) p3] env = (false, eval e env) :: starEach [.Name (Str.ofString T) p3] env := by intro _; rfl) :
    ED F (.Call (.Name "isinstance" p) [e, .Name (Str.ofString T) p3] [] pos) L (.bool k) L' := by
  obtain ⟨te, pe, run⟩ := h
  have pT : PEf F (.Name (Str.ofString T) p3) (tC (.ty T)) := fun j => pe_bltn (hgT.gl j) (by rw [F.hmg]; exact hmT) hvT (by exact rfl) hnT hdT
  refine ⟨_, bt_any (isif F) hg hm (by decide +kernel) (fun j => pa_cons (pe j) (pa_cons (pT j) pa_nil) (hs _)) (by decide) (by decide) hs (fun _ => rfl), fun σ G H S Q q => run σ G H S _ fun v G' H' S' T' r => ?_⟩
  have hk2 : kitB (tyD d) T = some k := by
    cases r with
    | dct kvs h =>
      cases kvs with
      | nil => exact hk
      | cons a l => exact hk
    | dcs kvs h =>
      cases kvs with
      | nil => exact hk
      | cons a l => exact hk
    | exc => cases hk
    | _ => exact hk
  refine ⟨v, .ty T, .type (tyD d), .type T, k, rfl, .ty T, ?_, kit_ty hk2, q _ _ _ S' T' (.bl k)⟩
  cases r with
  | non => exact .base .non
  | bl b => exact .base (.bl b)
  | int n => exact .base (.int n)
  | str s => exact .base (.str s)
  | lst h1 h2 => exact .base (.lst (S'.gh _ _ h1))
  | tup h1 h2 => exact .base (.tup (S'.gh _ _ h1))
  | dct kvs h => exact .base (.dK (S'.gh _ _ h))
  | dcs kvs h => exact .base (.dK (S'.gh _ _ h))
  | exc => cases hk
end
end DL
namespace DL
open PySem PyProof.Rows L2
variable [TabL]
section
variable {P : Program} {w : World} {K : PySem.W.Frag} {mg : Str → Option Value} {base : Heap} {x qual : Str} {st : Stmt} {f : Addr} {fd : FuncData} {N ps : List Str} {k : Nat}
/-- a def that hands back data -/
theorem funD {Φ : List PyData → PyData → Prop} (Fn : Fun K x qual st f fd) (S : FnScope N ps (defScope st)) (hl : ∀ ds r, Φ ds r → ds.length = ps.length)
    (hb : ∀ ds r, Φ ds r → ∃ L', SsD [] (famOf P w K mg base N qual (defScope st) f k) (defBody st) (startL N ds) (.rt r L')) : FnG P w K mg base (k + 1) f fd ps (spD Φ) := by
  obtain ⟨oc, od, kV, doc, pm, an, cdv, ct, osl, rfl, lk, hcd⟩ := Fn.ex
  refine fnBody lk hcd S (fun vs H Q E h => ?_) fun vs H Q h => bodyD (F := famOf P w K mg base N qual (defScope st) f k) rfl (fun ds r e => by rw [hl ds r e]; exact FnScope.fit S) hb vs H Q E0 h
  obtain ⟨ds, r, G, e, _, rp, _⟩ := h
  rw [rp.len]
  exact hl ds r e
theorem funL {Φ : List PyData → List PyData → Prop} (Fn : Fun K x qual st f fd) (S : FnScope N ps (defScope st)) (hl : ∀ ds r, Φ ds r → ds.length = ps.length)
    (hb : ∀ ds r, Φ ds r → ∃ L', SsD [] (famOf P w K mg base N qual (defScope st) f k) (defBody st) (startL N ds) (.rl r L')) : FnG P w K mg base (k + 1) f fd ps (spL Φ) := by
  obtain ⟨oc, od, kV, doc, pm, an, cdv, ct, osl, rfl, lk, hcd⟩ := Fn.ex
  refine fnBody lk hcd S (fun vs H Q E h => ?_) fun vs H Q h => bodyL (F := famOf P w K mg base N qual (defScope st) f k) (fun ds r e => by rw [hl ds r e]; exact FnScope.fit S) hb vs H Q E0 h
  obtain ⟨ds, r, G, e, _, rp, _⟩ := h
  rw [rp.len]
  exact hl ds r e
theorem funM {Φ : List PyData → List PyData → PyData × List PyData → Prop} (Fn : Fun K x qual st f fd) (S : FnScope N ps (defScope st)) (hl : ∀ ms ds r, Φ ms ds r → ds.length + 1 = ps.length)
    (hb : ∀ ms ds r ms', Φ ms ds (r, ms') → ∃ L', SsD [0] (famOf P w K mg base N qual (defScope st) f k) (defBody st) (startM N ms ds) (.rt r L') ∧ L'[0]? = some (Sl.ow ms')) : FnG P w K mg base (k + 1) f fd ps (spM Φ) := by
  obtain ⟨oc, od, kV, doc, pm, an, cdv, ct, osl, rfl, lk, hcd⟩ := Fn.ex
  refine fnBody lk hcd S (fun vs H Q E h => ?_) fun vs H Q h => bodyM (F := famOf P w K mg base N qual (defScope st) f k) (fun ms ds r e => by rw [hl ms ds r e]; exact FnScope.fit S) hb vs H Q E0 h
  obtain ⟨a, ws, xs, ms, ds, r, ms', G, rfl, e, _, rp, _⟩ := h
  rw [List.length_cons, rp.len]
  exact hl ms ds _ e
theorem funML {Φ : List PyData → List PyData → List PyData × List PyData → Prop} (Fn : Fun K x qual st f fd) (S : FnScope N ps (defScope st)) (hl : ∀ ms ds r, Φ ms ds r → ds.length + 1 = ps.length)
    (hb : ∀ ms ds r ms', Φ ms ds (r, ms') → ∃ L', SsD [0] (famOf P w K mg base N qual (defScope st) f k) (defBody st) (startM N ms ds) (.rl r L') ∧ L'[0]? = some (Sl.ow ms')) : FnG P w K mg base (k + 1) f fd ps (spML Φ) := by
  obtain ⟨oc, od, kV, doc, pm, an, cdv, ct, osl, rfl, lk, hcd⟩ := Fn.ex
  refine fnBody lk hcd S (fun vs H Q E h => ?_) fun vs H Q h => bodyML (F := famOf P w K mg base N qual (defScope st) f k) (fun ms ds r e => by rw [hl ms ds r e]; exact FnScope.fit S) hb vs H Q E0 h
  obtain ⟨a, ws, xs, ms, ds, r, ms', G, rfl, e, _, rp, _⟩ := h
  rw [List.length_cons, rp.len]
  exact hl ms ds _ e
/-- a def, as it may be called by place -/
theorem df_of {sp : Sp} (Fn : Fun K x qual st f fd) (G : FnG P w K mg base k f fd ps sp) (m : mg x = some (.ref f)) (b : Binds K fd ps []) : Df P w K mg base x k sp :=
  ⟨f, fd, ps, G, m, Fn.kp, fun s us inK hl => by
    have := b s us inK (by rw [List.append_nil]; exact hl)
    rw [List.append_nil] at this
    exact this⟩
end
end DL
namespace DL
open PySem PyProof.Rows L2
variable [TabL]
section
variable {z : List Nat} {F : Fam} {e e2 a b c tg iter elt : Expr} {es ifs : List Expr} {sts : List Stmt} {L L1 L2' L' L3 : List Sl} {d d1 d2 r : PyData} {ds ds2 its rs ms ms' : List PyData} {i : Nat} {pos p p2 : Pos} {x y : Str} {σ σ' σ1 σ2 : L2.St} {G H G1 H1 G2 H2 G' H' : Hp} {scope : Scope} {m n : Int}
theorem op_powW {X : Cx} : OpR X (binaryOp .Pow) (rI (fun i j => 0 ≤ j ∧ (Builtin.Int.intBits i : Int) * j ≤ 2 ^ 27) fun i j => .int (i ^ j.toNat)) := opI fun _ _ _ _ _ _ _ hc q => pow_int hc.1 hc.2 q
theorem ed_powW (hc : 0 ≤ n ∧ (Builtin.Int.intBits m : Int) * n ≤ 2 ^ 27) (ha : ED F a L (.int m) L1) (hb : ED F b L1 (.int n) L2') : ED F (.BinOp a .Pow b pos) L (.int (m ^ n.toNat)) L2' := ed_op (fun _ => op_powW) ha hb fun x y G H _ r1 r2 Q q => by
  cases r1; cases r2; exact ⟨m, n, rfl, rfl, hc, q _ (.int _)⟩
theorem ed_mulW (hc : CMulW m n) (ha : ED F a L (.int m) L1) (hb : ED F b L1 (.int n) L2') : ED F (.BinOp a .Mult b pos) L (.int (m * n)) L2' := ed_op (fun _ => op_mulW) ha hb fun x y G H _ r1 r2 Q q => by
  cases r1; cases r2; exact ⟨m, n, rfl, rfl, hc, q _ (.int _)⟩
theorem ed_fdivW (hc : CDivW m n) (ha : ED F a L (.int m) L1) (hb : ED F b L1 (.int n) L2') : ED F (.BinOp a .FloorDiv b pos) L (.int (m / n)) L2' := ed_op (fun _ => op_fdivW) ha hb fun x y G H _ r1 r2 Q q => by
  cases r1; cases r2; exact ⟨m, n, rfl, rfl, hc, q _ (.int _)⟩
theorem ed_neg (ha : ED F a L (.int m) L1) : ED F (.UnaryOp .USub a pos) L (.int (-m)) L1 := by
  obtain ⟨ta, pa, ra⟩ := ha
  refine ⟨_, fun j => pe_un un_neg (pa j), fun σ G H S Q q => ra σ G H S _ fun v G' H' S' T' r => ?_⟩
  cases r
  exact ⟨m, rfl, q _ _ _ S' T' (.int _)⟩
/-- the ints lo, lo + 1, .. (below hi) -/
def rgD (lo hi : Int) : List PyData := (List.range (hi - lo).toNat).map fun i => .int (lo + (i : Nat))
theorem RpA.rg (G : Hp) (lo hi : Int) : RpA G (rgV lo hi) (rgD lo hi) := by
  unfold rgV rgD
  induction (List.range (hi - lo).toNat) with
  | nil => exact .nil
  | cons a l ih => exact .cons (.int _) ih
/-- list(range(n)) -/
theorem fd_listRg {p3 p4 : Pos} (h : ED F e L (.int n) L') (hn : 0 ≤ n ∧ n ≤ 100000) (hm : F.mg "list" = none) (hm2 : F.mg "range" = none) (hg : GlF F "list" := by rfl) (hg2 : GlF F "range" := by rfl) (hs : ∀ env, starEach [e] env = (false, eval e env) :: starEach [] env := by intro _; rfl)
    (hs2 : ∀ env, starEach [.Call (.Name "range" p3) [e] [] p4] env = (false, eval (.Call (.Name "range" p3) [e] [] p4) env) :: starEach [] env := by intro _; rfl) :
    FD F (.Call (.Name "list" p) [.Call (.Name "range" p3) [e] [] p4] [] pos) L (rgD 0 n) L' := by
  obtain ⟨te, pe, run⟩ := h
  refine ⟨_, fun j => pe_listRg (F.hc j) (hg.gl j) (by rw [F.hmg]; exact hm) (prg_1 (hg2.gl j) (by rw [F.hmg]; exact hm2) (pe j) (hs _)) (hs2 _), fun σ G H S Q q => run σ G H S _ fun v G' H' S' T' r => ?_⟩
  cases r
  refine ⟨n, rfl, RgOk.of_le (Int.le_refl 0) (by omega) (by decide) hn.1, fun p hp => ?_⟩
  obtain ⟨S2, T2⟩ := S'.new (o := .lst (rgV 0 n)) hp
  exact q p _ G' _ S2 (T'.trans T2) (T'.back hp) upd_same (S'.gn hp) (RpA.rg G' 0 n)
/-- list(range(m, n)) -/
theorem fd_listRg2 {p3 p4 : Pos} (h : ED F e L (.int m) L1) (h2 : ED F e2 L1 (.int n) L') (hn : 0 ≤ m ∧ m ≤ 100000 ∧ 0 ≤ n ∧ n ≤ 100000) (hm : F.mg "list" = none) (hm2 : F.mg "range" = none) (hg : GlF F "list" := by rfl) (hg2 : GlF F "range" := by rfl) (hs : ∀ env, starEach [e, e2] env = (false, eval e env) :: starEach [e2] env := by intro _; rfl) (hsb : ∀ env, starEach [e2] env = (false, eval e2 env) :: starEach [] env := by intro _; rfl)
    (hpb : ∀ env, (backTo p4 (starEach [e2] env)).any (·.1) = false := by intro _; rfl) (hs2 : ∀ env, starEach [.Call (.Name "range" p3) [e, e2] [] p4] env = (false, eval (.Call (.Name "range" p3) [e, e2] [] p4) env) :: starEach [] env := by intro _; rfl) :
    FD F (.Call (.Name "list" p) [.Call (.Name "range" p3) [e, e2] [] p4] [] pos) L (rgD m n) L' := by
  obtain ⟨te, pe, run⟩ := h
  obtain ⟨te2, pe2, run2⟩ := h2
  refine ⟨_, fun j => pe_listRg (F.hc j) (hg.gl j) (by rw [F.hmg]; exact hm) (prg_2 (hg2.gl j) (by rw [F.hmg]; exact hm2) (pe j) (pe2 j) (hs _) (hsb _) (hpb _)) (hs2 _), fun σ G H S Q q => run σ G H S _ fun v G1 H1 S1 T1 r => run2 σ G1 H1 S1 _ fun v2 G' H' S' T' r2 => ?_⟩
  cases r
  cases r2
  refine ⟨m, n, rfl, rfl, RgOk.of_le hn.1 (by omega) (by omega) hn.2.2.1, fun p hp => ?_⟩
  obtain ⟨S2, T2⟩ := S'.new (o := .lst (rgV m n)) hp
  have TT := T1.trans T'
  exact q p _ G' _ S2 (TT.trans T2) (TT.back hp) upd_same (S'.gn hp) (RpA.rg G' m n)
end
section
variable {z : List Nat} {F : Fam} {tg iter : Expr} {sts : List Stmt} {L : List Sl} {its : List PyData} {pos : Pos} {T : List Nat} {ok : PyData → Prop} {u : PyData → List Sl → List Sl}
/-- a for whose turns all go on -/
theorem sd_forAll (M : Nat → List Sl) (hi : ItD F tg iter L its (M 0)) (ht : TgD F tg T ok u) (hM : ∀ i, (M i).length = F.N.length)
    (hb : ∀ i d, its[i]? = some d → ok d ∧ (SsD z F sts (u d (M i)) (.nx (M (i + 1))) ∨ SsD z F sts (u d (M i)) (.ct (M (i + 1))))) (hz : ∀ k ∈ T, k ∉ z := by decide) (hs : ∀ env x, foldedSetIterable iter env x = pure x := by intro _ _; rfl) : SD z F (.For tg iter sts [] pos) L (.nx (M its.length)) :=
  sd_for M its.length hi ht hz hM (Nat.le_refl _) (fun i d _ h => hb i d h) (by rw [List.getElem?_eq_none (Nat.le_refl _)]) hs
/-- .. and leave what is known as it is -/
theorem sd_forC {L1 : List Sl} (hi : ItD F tg iter L its L1) (ht : TgD F tg T ok u) (hM : L1.length = F.N.length) (hb : ∀ d, d ∈ its → ok d ∧ SsD z F sts (u d L1) (.nx L1)) (hz : ∀ k ∈ T, k ∉ z := by decide) (hs : ∀ env x, foldedSetIterable iter env x = pure x := by intro _ _; rfl) : SD z F (.For tg iter sts [] pos) L (.nx L1) :=
  sd_forAll (fun _ => L1) hi ht (fun _ => hM) (fun i d h => ⟨(hb d (List.mem_of_getElem? h)).1, .inl (hb d (List.mem_of_getElem? h)).2⟩) hz hs
end
section
variable {P : Program} {w : World} {K : PySem.W.Frag} {mg : Str → Option Value} {base : Heap} {x qual : Str} {st : Stmt} {f : Addr} {fd : FuncData} {N ps : List Str} {k : Nat}
/-- a def that falls off its end: None -/
theorem funN {Φ : List PyData → PyData → Prop} (Fn : Fun K x qual st f fd) (S : FnScope N ps (defScope st)) (hl : ∀ ds r, Φ ds r → ds.length = ps.length ∧ r = .none)
    (hb : ∀ ds r, Φ ds r → ∃ L', SsD [] (famOf P w K mg base N qual (defScope st) f k) (defBody st) (startL N ds) (.nx L')) : FnG P w K mg base (k + 1) f fd ps (spD Φ) := by
  obtain ⟨oc, od, kV, doc, pm, an, cdv, ct, osl, rfl, lk, hcd⟩ := Fn.ex
  refine fnBody lk hcd S (fun vs H Q E h => ?_) fun vs H Q h => ?_
  · obtain ⟨ds, r, G, e, _, rp, _⟩ := h
    rw [rp.len]
    exact (hl ds r e).1
  · obtain ⟨ds, r, G, e, gh, rp, q⟩ := h
    obtain ⟨hlen, rfl⟩ := hl ds r e
    obtain ⟨L', ts, ps, run⟩ := hb ds _ e
    refine ⟨ts, ps, run _ G H (staL gh rp (by rw [hlen]; exact FnScope.fit S)) _ fun σ' G' H' S' T' _ => ?_⟩
    exact q .non G' H' ⟨T'.g, S'.gh, fun b o hb gb _ => T'.fr b o hb gb noOwnL, T'.th⟩ .non
end
end DL
namespace DL
open PySem PyProof.Rows L2
variable [TabL]
section
variable {z : List Nat} {F : Fam} {st : Stmt} {sts : List Stmt} {L L1 L2' : List Sl}
theorem SD.to (h : SD z F st L (.nx L1)) (e : L1 = L2') : SD z F st L (.nx L2') := e ▸ h
theorem SsD.to (h : SsD z F sts L (.nx L1)) (e : L1 = L2') : SsD z F sts L (.nx L2') := e ▸ h
theorem SD.from (h : SD z F st L1 (.nx L)) (e : L1 = L2') : SD z F st L2' (.nx L) := e ▸ h
end
end DL
namespace DL
open PySem PyProof.Rows L2
variable [TabL]
section
variable {P : Program} {w : World} {K : PySem.W.Frag} {mg : Str → Option Value} {base : Heap} {x qual : Str} {st : Stmt} {f : Addr} {fd : FuncData} {N ps : List Str} {k : Nat} {dvs : List V} {kws : List (Str × V)}
/-- a def with defaults that hands back a new list -/
theorem funLD {Φ : List PyData → List PyData → Prop} (Fn : FunD K x qual (defArgs st) (defBody st) (defScope st) dvs kws f fd) (S : FnScope N ps (defScope st)) (hl : ∀ ds r, Φ ds r → ds.length = ps.length)
    (hb : ∀ ds r, Φ ds r → ∃ L', SsD [] (famOf P w K mg base N qual (defScope st) f k) (defBody st) (startL N ds) (.rl r L')) : FnG P w K mg base (k + 1) f fd ps (spL Φ) := by
  obtain ⟨oc, od, dV, kV, doc, pm, an, cdv, ct, osl, rfl, lk, hcd, _, _⟩ := Fn.ex
  refine fnBody lk hcd S (fun vs H Q E h => ?_) fun vs H Q h => bodyL (F := famOf P w K mg base N qual (defScope st) f k) (fun ds r e => by rw [hl ds r e]; exact FnScope.fit S) hb vs H Q E0 h
  obtain ⟨ds, r, G, e, _, rp, _⟩ := h
  rw [rp.len]
  exact hl ds r e
end
section
variable {F : Fam} {e a b c : Expr} {es : List Expr} {L L1 L2' L' : List Sl} {d r : PyData} {ds ds2 rs : List PyData} {pos p : Pos} {x : Str} {n : Nat} {ks : List Str} {g : List Value → List Value} {gV : List V → List V} {gD : List PyData → List PyData} {kws : List Keyword}
/-- keyword arguments -/
def KD (F : Fam) (kws : List Keyword) (L : List Sl) (ds : List PyData) (L' : List Sl) : Prop := ∃ tk, (∀ j, PK (F.x j) kws tk) ∧ ∀ σ G H, Sta L σ G H → ∀ Q : List V → Hp → Prop, (∀ vs G' H', Sta L' σ G' H' → Te L σ G H L' G' H' → RpA G' vs ds → Q vs H') → tk σ H Q
theorem kd_nil : KD F [] L [] L := ⟨_, fun _ => pk_nil, fun σ G H S Q q => q _ _ _ S .refl .nil⟩
theorem kd_cons {nm : Option Str} {kp : Pos} (h : ED F e L d L1) (h2 : KD F kws L1 ds L') (hx : ∀ X te t, PE X e te → PK X kws t → PK X (⟨nm, e, kp⟩ :: kws) (tCons te t) := by intro X te t a b; exact pk_cons a b) : KD F (⟨nm, e, kp⟩ :: kws) L (d :: ds) L' := by
  obtain ⟨te, pe, run⟩ := h
  obtain ⟨tk, pk, run2⟩ := h2
  refine ⟨_, fun j => hx _ _ _ (pe j) (pk j), fun σ G H S Q q => run σ G H S _ fun v G' H' S' T r => run2 σ G' H' S' _ fun vs G2 H2 S2 T2 r2 => ?_⟩
  exact q _ _ _ S2 (T.trans T2) (.cons (r.up T2.g) r2)
theorem fd_callK {Φ : List PyData → List PyData → Prop} (D : F.Dk x n ks g gV gD (spL Φ)) (ha : AD F (e :: es) L ds L1) (hk : KD F kws L1 ds2 L') (hΦ : Φ (gD (ds ++ ds2)) rs) (hn : ds.length = n := by rfl) (hn2 : ds2.length = ks.length := by rfl) (hg : GlF F x := by rfl) (hdb : (x == ("__debug__" : Str)) = false := by decide)
    (he : ∀ env, starEach (e :: es) env = (false, eval e env) :: starEach es env := by intro _; rfl) (hall : ∀ env, (backToKw pos (keywordEach kws env)).all (·.1.isSome) = true := by intro _; rfl) (hks : ∀ env, (backToKw pos (keywordEach kws env)).filterMap (·.1) = ks := by intro _; rfl)
    (hpl : ∀ env, ((backTo pos (starEach (e :: es) env)).any (·.1) || (backToKw pos (keywordEach kws env)).any (·.1.isNone)) = false := by intro _; rfl) : FD F (.Call (.Name x p) (e :: es) kws pos) L rs L' := by
  obtain ⟨ta, pa, ra⟩ := ha
  obtain ⟨tk, pk, rk⟩ := hk
  refine ⟨_, callK_any D hg pa pk hdb he hall hks hpl, fun σ G H S Q q => ra σ G H S _ fun vs G1 H1 S1 T1 r1 => rk σ G1 H1 S1 _ fun zs G2 H2 S2 T2 r2 => ⟨by rw [r1.len]; exact hn, by rw [r2.len]; exact hn2, _, rs, G2, hΦ, S2.gh, D.data G2 _ _ (by rw [List.length_append, r1.len, r2.len, hn, hn2]) ((r1.up T2.g).app r2), fun p xs G' H' A hp hp' gp rv => ?_⟩⟩
  obtain ⟨S3, T3⟩ := S2.aft A
  have TT := T1.trans T2
  exact q p xs G' H' S3 (TT.trans T3) (TT.back hp) hp' gp rv
theorem fd_callK0 {Φ : List PyData → List PyData → Prop} (D : F.Dk x 0 ks g gV gD (spL Φ)) (hk : KD F kws L ds2 L') (hΦ : Φ (gD ds2) rs) (hn2 : ds2.length = ks.length := by rfl) (hg : GlF F x := by rfl) (hdb : (x == ("__debug__" : Str)) = false := by decide)
    (hall : ∀ env, (backToKw pos (keywordEach kws env)).all (·.1.isSome) = true := by intro _; rfl) (hks : ∀ env, (backToKw pos (keywordEach kws env)).filterMap (·.1) = ks := by intro _; rfl)
    (hpl : ∀ env, ((backTo pos (starEach [] env)).any (·.1) || (backToKw pos (keywordEach kws env)).any (·.1.isNone)) = false := by intro _; rfl) : FD F (.Call (.Name x p) [] kws pos) L rs L' := by
  obtain ⟨tk, pk, rk⟩ := hk
  refine ⟨_, callK0_any D hg pk hdb hall hks hpl, fun σ G H S Q q => rk σ G H S _ fun zs G2 H2 S2 T2 r2 => ⟨by rw [r2.len]; exact hn2, _, rs, G2, hΦ, S2.gh, D.data G2 _ _ (by rw [r2.len, hn2]; simp) r2, fun p xs G' H' A hp hp' gp rv => ?_⟩⟩
  obtain ⟨S3, T3⟩ := S2.aft A
  exact q p xs G' H' S3 (T2.trans T3) (T2.back hp) hp' gp rv
theorem ed_callK {Φ : List PyData → PyData → Prop} (D : F.Dk x n ks g gV gD (spD Φ)) (ha : AD F (e :: es) L ds L1) (hk : KD F kws L1 ds2 L') (hΦ : Φ (gD (ds ++ ds2)) r) (hn : ds.length = n := by rfl) (hn2 : ds2.length = ks.length := by rfl) (hg : GlF F x := by rfl) (hdb : (x == ("__debug__" : Str)) = false := by decide)
    (he : ∀ env, starEach (e :: es) env = (false, eval e env) :: starEach es env := by intro _; rfl) (hall : ∀ env, (backToKw pos (keywordEach kws env)).all (·.1.isSome) = true := by intro _; rfl) (hks : ∀ env, (backToKw pos (keywordEach kws env)).filterMap (·.1) = ks := by intro _; rfl)
    (hpl : ∀ env, ((backTo pos (starEach (e :: es) env)).any (·.1) || (backToKw pos (keywordEach kws env)).any (·.1.isNone)) = false := by intro _; rfl) : ED F (.Call (.Name x p) (e :: es) kws pos) L r L' := by
  obtain ⟨ta, pa, ra⟩ := ha
  obtain ⟨tk, pk, rk⟩ := hk
  refine ⟨_, callK_any D hg pa pk hdb he hall hks hpl, fun σ G H S Q q => ra σ G H S _ fun vs G1 H1 S1 T1 r1 => rk σ G1 H1 S1 _ fun zs G2 H2 S2 T2 r2 => ⟨by rw [r1.len]; exact hn, by rw [r2.len]; exact hn2, _, r, G2, hΦ, S2.gh, D.data G2 _ _ (by rw [List.length_append, r1.len, r2.len, hn, hn2]) ((r1.up T2.g).app r2), fun v G' H' A rv => ?_⟩⟩
  obtain ⟨S3, T3⟩ := S2.aft A
  exact q v G' H' S3 ((T1.trans T2).trans T3) rv
theorem ed_callK0 {Φ : List PyData → PyData → Prop} (D : F.Dk x 0 ks g gV gD (spD Φ)) (hk : KD F kws L ds2 L') (hΦ : Φ (gD ds2) r) (hn2 : ds2.length = ks.length := by rfl) (hg : GlF F x := by rfl) (hdb : (x == ("__debug__" : Str)) = false := by decide)
    (hall : ∀ env, (backToKw pos (keywordEach kws env)).all (·.1.isSome) = true := by intro _; rfl) (hks : ∀ env, (backToKw pos (keywordEach kws env)).filterMap (·.1) = ks := by intro _; rfl)
    (hpl : ∀ env, ((backTo pos (starEach [] env)).any (·.1) || (backToKw pos (keywordEach kws env)).any (·.1.isNone)) = false := by intro _; rfl) : ED F (.Call (.Name x p) [] kws pos) L r L' := by
  obtain ⟨tk, pk, rk⟩ := hk
  refine ⟨_, callK0_any D hg pk hdb hall hks hpl, fun σ G H S Q q => rk σ G H S _ fun zs G2 H2 S2 T2 r2 => ⟨by rw [r2.len]; exact hn2, _, r, G2, hΦ, S2.gh, D.data G2 _ _ (by rw [r2.len, hn2]; simp) r2, fun v G' H' A rv => ?_⟩⟩
  obtain ⟨S3, T3⟩ := S2.aft A
  exact q v G' H' S3 (T2.trans T3) rv
end
end DL
namespace DL
open PySem PyProof.Rows L2
variable [TabL]
section
variable {z : List Nat} {F : Fam} {e e1 e2 a b c tg iter elt : Expr} {es ifs : List Expr} {sts body rest : List Stmt} {L L1 L2' L' L3 : List Sl} {d d1 d2 r : PyData} {ds ds2 its rs ms ms' us : List PyData} {i : Nat} {pos p p2 : Pos} {x y : Str} {σ σ' σ1 σ2 : L2.St} {G H G1 H1 G2 H2 G' H' : Hp} {scope : Scope} {m n : Int} {o : Out} {q : Addr} {ob : HO}

/-! ### x.pop(e) -/
theorem ed_popAt {py apos cpos : Pos} {k : Nat} (i : Nat) (h : ED F e L (.int n) L1) (hi : L1[i]? = some (Sl.ow ms)) (hk : ixN ms.length n = some k) (hd0 : ms[k]? = some d) (hb : -(2 ^ 63) ≤ n ∧ n < 2 ^ 63) (hL : ∃ us, L[i]? = some (Sl.ow us) := by exact ⟨_, rfl⟩) (hN : F.N[i]? = some y := by rfl) (hv : Vis F.sc y := by first | exact Or.inl rfl | exact Or.inr (Or.inl rfl) | exact Or.inr (Or.inr rfl)) (hd : (y == ("__debug__" : Str)) = false := by decide) (hcd : (y == ("__classdict__" : Str)) = false := by decide)
    (hbase : ∀ env, attributeBase (.Name y py) "pop" env (eval (.Name y py) env) = eval (.Name y py) env := by intro _; rfl)
    (hfew : ∀ env, ((backTo cpos (starEach [e] env)).all (fun x => !x.1) && (backToKw cpos (keywordEach [] env)).all (fun x => x.1.isSome) && decide (([e] : List Expr).length + ([] : List Keyword).length + (if ([] : List Keyword).isEmpty then 0 else 1) < 30)) = true := by intro _; rfl)
    (hline : (apos.endLine == cpos.line) = true := by rfl) (hs : ∀ env, starEach [e] env = (false, eval e env) :: starEach [] env := by intro _; rfl) (hplain : ∀ env, (backTo cpos (starEach [] env)).any (·.1) = false := by intro _; rfl) :
    ED F (.Call (.Attribute (.Name y py) "pop" apos) [e] [] cpos) L d (L1.set i (.ow (ms.eraseIdx k))) := by
  obtain ⟨te, pe, run⟩ := h
  have pc : PEf F (.Call (.Attribute (.Name y py) "pop" apos) [e] [] cpos) (tBM F.K "list" rPopAt (tVar i) (tCons te tNil)) := fun j => by
    rw [← F.hK j]
    exact pe_bm PySem.F.plainAttrs_list PySem.F.slot_list_pop PySem.F.type_list_pop mt_popAt (pvF F i hN hv hd hcd j) (pa_cons (pe j) pa_nil (hs _)) (hbase _) (hfew _) hline (hs _) (hplain _)
  refine ⟨_, pc, fun σ G H S Q w => ?_⟩
  obtain ⟨us, hus⟩ := hL
  obtain ⟨x0, e1, q0, xs0, rfl, k1, _, _⟩ := S.get hus
  refine ⟨.ref q0, e1, .inl ⟨rfl, _, SqL.of k1⟩, run σ G H S _ fun v G1 H1 S1 T1 r1 => ?_⟩
  cases r1
  obtain ⟨x1, e2, q1, xs, w1, h1, h2, h3⟩ := S1.get hi
  rw [e1] at e2
  cases e2
  cases w1
  obtain ⟨v, hv1, rv⟩ := h2.get hd0
  obtain ⟨sx, _, _, _⟩ := ixN_seq hk
  refine ⟨q0, xs, n, k, v, rfl, rfl, h1, hb.1, hb.2, by rw [h2.len]; exact sx, hv1, ?_⟩
  obtain ⟨S2, T2⟩ := S1.put hi e1 (h2.erase k)
  exact w v _ _ S2 (T1.trans T2) rv

/-! ### heaps that only grow -/
structure SmN (H H' : Hp) : Prop where
  nt : ∀ b o, H b = some o → Pl o → H' b = some o
  th : ∀ b o, H b = some o → ∃ u, H' b = some u
  tb : LamX.Tabs TabL.T H → LamX.Tabs TabL.T H'
theorem SmN.thr (a : SmN H H') : Thr G H G H' := ⟨a.th, a.tb, fun h => h⟩
theorem SmN.trans (a : SmN H H1) (b : SmN H1 H2) : SmN H H2 := ⟨fun c o h t => b.nt c o (a.nt c o h t) t, fun c o h => let ⟨u, h1⟩ := a.th c o h; b.th c u h1, fun h => b.tb (a.tb h)⟩
theorem Sta.more (S : Sta L σ G H) (gh : Same G H') (h : SmN H H') : Sta L σ G H' := by
  refine ⟨gh, S.ln, fun i x t e1 e2 => ?_, S.di⟩
  have q := S.sl i x t e1 e2
  cases t with
  | no => exact q
  | va d => exact q
  | ow ds =>
    obtain ⟨a, xs, e, h1, h2, h3⟩ := q
    exact ⟨a, xs, e, h.nt _ _ h1 pl_lst, h2, h3⟩
  | tb => exact h.thr.tabs q
  | fn f G1 => exact q
/-- an object that is neither frozen nor one's own changes -/
theorem Sta.off {us ys : List V} (S : Sta L σ G H) (hg : G q = none) (no : ¬ Own L σ q) (hq : H q = some (.lst us)) : Sta L σ G (upd H q (.lst ys)) := by
  refine ⟨fun b o hb => ?_, S.ln, fun i x t e1 e2 => ?_, S.di⟩
  · rw [upd_ne]
    · exact S.gh b o hb
    · rintro rfl
      rw [hg] at hb
      cases hb
  · have w := S.sl i x t e1 e2
    cases t with
    | no => exact w
    | va d => exact w
    | ow ds =>
      obtain ⟨a, xs, e, h1, h2, h3⟩ := w
      subst e
      refine ⟨a, xs, rfl, ?_, h2, h3⟩
      rw [upd_ne]
      · exact h1
      · rintro rfl
        exact no ⟨i, ds, e2, e1⟩
    | tb => exact Thr.tabs (.put hq) w
    | fn f G1 => exact w
theorem Sta.set_no {v : Option V} (S : Sta L σ G H) : Sta (L.set i .no) (σ.set i v) G H ∧ ∀ b, Own (L.set i .no) (σ.set i v) b → Own L σ b := by
  have own : ∀ (j : Nat) (us : List PyData), (L.set i Sl.no)[j]? = some (Sl.ow us) → i ≠ j ∧ L[j]? = some (Sl.ow us) := fun j us e => by
    by_cases hj : i = j
    · subst hj
      have hi : i < L.length := by
        have := (List.getElem?_eq_some_iff.mp e).1
        rwa [List.length_set] at this
      rw [List.getElem?_set_self hi] at e
      cases e
    · rw [List.getElem?_set_ne hj] at e
      exact ⟨hj, e⟩
  refine ⟨⟨S.gh, by rw [List.length_set, List.length_set]; exact S.ln, fun j x t e1 e2 => ?_, fun j k b us ws f1 f2 f3 f4 => ?_⟩, fun b ⟨j, us, f1, f2⟩ => ?_⟩
  · by_cases hj : i = j
    · subst hj
      have hi : i < L.length := by
        have := (List.getElem?_eq_some_iff.mp e2).1
        rwa [List.length_set] at this
      rw [List.getElem?_set_self hi] at e2
      cases e2
      trivial
    · rw [List.getElem?_set_ne hj] at e1 e2
      exact S.sl j x t e1 e2
  · obtain ⟨n1, g1⟩ := own j us f1
    obtain ⟨n2, g2⟩ := own k ws f2
    rw [List.getElem?_set_ne n1] at f3
    rw [List.getElem?_set_ne n2] at f4
    exact S.di j k b us ws g1 g2 f3 f4
  · obtain ⟨n1, g1⟩ := own j us f1
    rw [List.getElem?_set_ne n1] at f2
    exact ⟨j, us, g1, f2⟩

/-! ### a list of two new lists, looked at, then changed -/
def hid : Sl → Sl
  | .va d => .va d
  | _ => .no
theorem hid_own {L : List Sl} {j : Nat} {us : List PyData} : (L.map hid)[j]? ≠ some (Sl.ow us) := by
  rw [List.getElem?_map]
  intro h
  cases e : L[j]? with
  | none => rw [e] at h; cases h
  | some t =>
    rw [e] at h
    cases t <;> cases h
def allZ : List Nat := List.range 40
/-- a statement that only looks, nothing of one's own about -/
theorem mid_run {st : Stmt} {L : List Sl} (h : SD allZ F st L (.nx L)) (no : ∀ (j : Nat) (us : List PyData), L[j]? ≠ some (Sl.ow us)) (hl : L.length ≤ 40) : ∃ ts, PSf F st ts ∧ ∀ σ G H, Sta L σ G H → ∀ D : Ends, (∀ G' H', Sta L σ G' H' → Same G G' → SmN H H' → D.nx σ H') → ts D σ H := by
  obtain ⟨ts, ps, run⟩ := h
  refine ⟨ts, ps, fun σ G H S D w => run σ G H S D fun σ' G' H' S' T' A' => ?_⟩
  have e : σ' = σ := by
    apply List.ext_getElem?
    intro k
    by_cases hk : k < 40
    · exact A' k (List.mem_range.mpr hk)
    · rw [List.getElem?_eq_none (by rw [S'.ln]; omega), List.getElem?_eq_none (by rw [S.ln]; omega)]
  subst e
  refine w G' H' S' T'.g ⟨fun b o hb nt => ?_, T'.th.th, T'.th.tb⟩
  cases eg : G b with
  | none => exact (T'.fr b o hb eg (fun ⟨j, us, f1, _⟩ => no j us f1) nt).1
  | some u =>
    have h1 := S'.gh b u (T'.g b u eg)
    have h2 := S.gh b u eg
    rw [hb] at h2
    cases h2
    exact h1
theorem scratch_core {tm tr : TS} {te1 te2 : TE} (i : Nat) (hi : i < L.length) (r1 : ∀ σ G H, Sta L σ G H → ∀ Q : VK, (∀ p xs G' H', Sta L σ G' H' → Te L σ G H L G' H' → H p = none → H' p = some (.lst xs) → G' p = none → RpA G' xs ds → Q (.ref p) H') → te1 σ H Q)
    (r2 : ∀ σ G H, Sta L σ G H → ∀ Q : VK, (∀ p xs G' H', Sta L σ G' H' → Te L σ G H L G' H' → H p = none → H' p = some (.lst xs) → G' p = none → RpA G' xs us → Q (.ref p) H') → te2 σ H Q)
    (hz : i ∉ z) (hlen : ds.length < 100000)
    (rm : ∀ σ G H, Sta ((L.map hid).set i (.va (.list [.list ds, .list us]))) σ G H → ∀ D : Ends, (∀ G' H', Sta ((L.map hid).set i (.va (.list [.list ds, .list us]))) σ G' H' → Same G G' → SmN H H' → D.nx σ H') → tm D σ H)
    (rr : ∀ σ G H, Sta (L.set i .no) σ G H → ∀ D, EndOk z (L.set i .no) σ G H D o → tr D σ H) (σ : L2.St) (S : Sta L σ G H) (D : Ends) (w : EndOk z L σ G H D o) (K : PySem.W.Frag) :
    tSeq (tAsg (tLst (tCons te1 (tCons te2 tNil))) (gName i)) (tSeq tm (tSeq (tDrop (tBM K "list" rAppend (tOp (rIxL K) (tVar i) (tC (.int 0))) (tCons (tC .non) tNil))) tr)) D σ H := by
  have hs : i < σ.length := by rw [S.ln]; exact hi
  refine r1 σ G H S _ fun p1 xs1 G1 H1 S1 T1 f1 h1 g1 rp1 => r2 σ G1 H1 S1 _ fun p2 xs2 G2 H2 S2 T2 f2 h2 g2 rp2 => ⟨by show 2 ≤ sizeLine; decide, fun a ha => ?_⟩
  have no1 : ¬ Own L σ p1 := S.own_ne f1
  obtain ⟨h1', g1'⟩ := T2.fr p1 _ h1 g1 no1 pl_lst
  have n12 : p1 ≠ p2 := ne_of_none h1 f2
  have na1 : p1 ≠ a := ne_of_none h1' ha
  have na2 : p2 ≠ a := ne_of_none h2 ha
  have f0 : H a = none := (T1.trans T2).back ha
  have noa : ¬ Own L σ a := S.own_ne f0
  have ga : G2 a = none := S2.gn ha
  obtain ⟨S3, T3⟩ := S2.new (o := .lst [.ref p1, .ref p2]) ha
  obtain ⟨S4, O4⟩ := S3.set_no (i := i) (v := some (.ref a))
  -- the frozen view
  let Gf := upd (upd (upd G2 p1 (.lst xs1)) p2 (.lst xs2)) a (.lst [.ref p1, .ref p2])
  have u1 : Same G2 (upd G2 p1 (.lst xs1)) := Same.upd_ g1'
  have u2 : Same (upd G2 p1 (.lst xs1)) (upd (upd G2 p1 (.lst xs1)) p2 (.lst xs2)) := Same.upd_ (by rw [upd_ne n12.symm]; exact g2)
  have u3 : Same (upd (upd G2 p1 (.lst xs1)) p2 (.lst xs2)) Gf := Same.upd_ (by rw [upd_ne na2.symm, upd_ne na1.symm]; exact ga)
  have uG : Same G2 Gf := (u1.trans u2).trans u3
  let H3 := upd H2 a (.lst [.ref p1, .ref p2])
  have ghf : Same Gf H3 := fun b ob hb => by
    by_cases e1 : b = a
    · subst e1
      rw [show Gf b = _ from upd_same] at hb
      rw [← hb]
      exact upd_same
    · rw [show Gf b = _ from upd_ne e1] at hb
      show upd H2 a _ b = _
      rw [upd_ne e1]
      by_cases e2 : b = p2
      · subst e2
        rw [upd_same] at hb
        rw [← hb]
        exact h2
      · rw [upd_ne e2] at hb
        by_cases e3 : b = p1
        · subst e3
          rw [upd_same] at hb
          rw [← hb]
          exact h1'
        · rw [upd_ne e3] at hb
          exact S2.gh b ob hb
  have rpf : Rp Gf (.ref a) (.list [.list ds, .list us]) := by
    refine .lst upd_same (.cons (.lst (xs := xs1) ?_ (rp1.up (T2.g.trans uG))) (.cons (.lst (xs := xs2) ?_ (rp2.up uG)) .nil))
    · show upd _ a _ p1 = _
      rw [upd_ne na1, upd_ne n12]
      exact upd_same
    · show upd _ a _ p2 = _
      rw [upd_ne na2]
      exact upd_same
  have Sf : Sta ((L.map hid).set i (.va (.list [.list ds, .list us]))) (σ.set i (some (.ref a))) Gf H3 := by
    refine ⟨ghf, by rw [List.length_set, List.length_set, List.length_map]; exact S.ln, fun j x t e1 e2 => ?_, fun j k b ws vs f1 _ _ _ => ?_⟩
    · by_cases hj : i = j
      · subst hj
        rw [List.getElem?_set_self hs] at e1
        rw [List.getElem?_set_self (by rw [List.length_map]; exact hi)] at e2
        cases e1
        cases e2
        exact ⟨_, rfl, rpf⟩
      · rw [List.getElem?_set_ne hj] at e1 e2
        rw [List.getElem?_map] at e2
        cases eL : L[j]? with
        | none => rw [eL] at e2; cases e2
        | some t0 =>
          rw [eL] at e2
          have q0 := S2.sl j x t0 e1 eL
          cases t0 with
          | no =>
            cases e2
            trivial
          | ow vs =>
            cases e2
            trivial
          | tb =>
            cases e2
            trivial
          | fn f G1 =>
            cases e2
            trivial
          | va d0 =>
            cases e2
            obtain ⟨v, ev, rv⟩ := q0
            exact ⟨v, ev, rv.up uG⟩
    · by_cases hj : i = j
      · subst hj
        rw [List.getElem?_set_self (by rw [List.length_map]; exact hi)] at f1
        cases f1
      · rw [List.getElem?_set_ne hj] at f1
        exact (hid_own f1).elim
  refine rm _ Gf H3 Sf _ fun G5 H5 S5' g5 hh => ?_
  -- back to what was known
  have S5 := S4.more ((uG.trans g5).trans S5'.gh) hh
  have a5 : H5 a = some (.lst [.ref p1, .ref p2]) := hh.nt a _ upd_same pl_lst
  have p5 : H5 p1 = some (.lst xs1) := hh.nt p1 _ (by show upd H2 a _ p1 = _; rw [upd_ne na1]; exact h1') pl_lst
  have S6 : Sta (L.set i .no) (σ.set i (some (.ref a))) G2 (upd H5 p1 (.lst (xs1 ++ [.non]))) := S5.off g1' (fun w => no1 (O4 p1 w)) p5
  refine ⟨.ref a, List.getElem?_set_self hs, a, [.ref p1, .ref p2], 0, .ref p1, rfl, rfl, SqL.of a5, rfl, .inl ⟨rfl, _, SqL.of p5⟩, ?_⟩
  refine ⟨p1, xs1, .non, rfl, rfl, p5, Nat.lt_of_lt_of_le (by rw [rp1.len]; exact hlen) (by decide), ?_⟩
  refine rr _ G2 _ S6 D (w.from S6 ⟨T1.g.trans T2.g, fun b o hb gb nb nt => ?_, fun b v => .inl (O4 b v), ((T1.trans T2).th.trans (T3.th.trans hh.thr)).trans (.put p5)⟩ (Anc.set hz))
  obtain ⟨k1, k2⟩ := (T1.trans T2).fr b o hb gb nb nt
  refine ⟨?_, k2⟩
  rw [upd_ne (ne_of_none hb f1)]
  exact hh.nt b o (by show upd H2 a _ b = _; rw [upd_ne (ne_of_none k1 ha)]; exact k1) nt

theorem app0_any {py sp apos cpos epos c0 c1 : Pos} {j0 j1 : Nat} (i : Nat) (hN : F.N[i]? = some x) (hv : Vis F.sc x) (hd : (x == ("__debug__" : Str)) = false) (hcd : (x == ("__classdict__" : Str)) = false)
    (hbase : ∀ env, attributeBase (.Subscript (.Name x py) (.Constant (.int 0) j0 c0) sp) "append" env (eval (.Subscript (.Name x py) (.Constant (.int 0) j0 c0) sp) env) = eval (.Subscript (.Name x py) (.Constant (.int 0) j0 c0) sp) env) (hline : (apos.endLine == cpos.line) = true)
    (hsw : ∀ env, swapsWith (.Call (.Attribute (.Subscript (.Name x py) (.Constant (.int 0) j0 c0) sp) "append" apos) [.Constant .none j1 c1] [] cpos) none epos.line env = pure false) :
    PSf F (.Expr (.Call (.Attribute (.Subscript (.Name x py) (.Constant (.int 0) j0 c0) sp) "append" apos) [.Constant .none j1 c1] [] cpos) epos) (tDrop (tBM F.K "list" rAppend (tOp (rIxL F.K) (tVar i) (tC (.int 0))) (tCons (tC .non) tNil))) := fun j => by
  refine ps_expr ?_ (hsw _)
  rw [← F.hK j]
  exact pe_bm PySem.F.plainAttrs_list PySem.F.slot_list_append PySem.F.type_list_append mt_append (pe_ix ix_list (pvF F i hN hv hd hcd j) pe_int fun _ _ => rfl) (pa_cons pe_non pa_nil) (hbase _) rfl hline rfl rfl
section
variable {px lp ap py sp apos cpos epos c0 c1 : Pos} {j0 j1 : Nat} {m1 m2 : Stmt}
/-- x = [e1, e2]; two looks; x[0].append(None); .. -/
theorem ss_scratch2 (i : Nat) (h1 : FD F e1 L ds L) (h2 : FD F e2 L us L) (k1 : SD allZ F m1 ((L.map hid).set i (.va (.list [.list ds, .list us]))) (.nx ((L.map hid).set i (.va (.list [.list ds, .list us]))))) (k2 : SD allZ F m2 ((L.map hid).set i (.va (.list [.list ds, .list us]))) (.nx ((L.map hid).set i (.va (.list [.list ds, .list us])))))
    (k3 : SsD z F rest (L.set i .no) o) (hlen : ds.length < 100000) (hz : i ∉ z := by decide) (hi : F.N[i]? = some x := by rfl) (hl : i < L.length := by exact Nat.le_of_ble_eq_true rfl) (hl40 : L.length ≤ 40 := by exact Nat.le_of_ble_eq_true rfl) (hx : Loc F.sc x := by first | exact Or.inl rfl | exact Or.inr rfl) (hf : StF F x := by first | exact Or.inl rfl | exact Or.inr rfl) (hn : F.N.Nodup := by exact of_decide_eq_true rfl) (hv : Vis F.sc x := by first | exact Or.inl rfl | exact Or.inr (Or.inl rfl) | exact Or.inr (Or.inr rfl))
    (hs : ∀ j, swapsWith (.List [e1, e2] lp) (some (.Name x px)) ap.line (F.x j).env = pure false := by intro _; rfl) (hs1 : ∀ env, starEach [e1, e2] env = (false, eval e1 env) :: starEach [e2] env := by intro _; rfl) (hs2 : ∀ env, starEach [e2] env = (false, eval e2 env) :: starEach [] env := by intro _; rfl) (hd : (x == ("__debug__" : Str)) = false := by decide) (hcd : (x == ("__classdict__" : Str)) = false := by decide)
    (hbase : ∀ env, attributeBase (.Subscript (.Name x py) (.Constant (.int 0) j0 c0) sp) "append" env (eval (.Subscript (.Name x py) (.Constant (.int 0) j0 c0) sp) env) = eval (.Subscript (.Name x py) (.Constant (.int 0) j0 c0) sp) env := by intro _; rfl) (hline : (apos.endLine == cpos.line) = true := by rfl)
    (hsw : ∀ env, swapsWith (.Call (.Attribute (.Subscript (.Name x py) (.Constant (.int 0) j0 c0) sp) "append" apos) [.Constant .none j1 c1] [] cpos) none epos.line env = pure false := by intro _; rfl) :
    SsD z F (.Assign [.Name x px] (.List [e1, e2] lp) ap :: m1 :: m2 :: .Expr (.Call (.Attribute (.Subscript (.Name x py) (.Constant (.int 0) j0 c0) sp) "append" apos) [.Constant .none j1 c1] [] cpos) epos :: rest) L o := by
  obtain ⟨te1, pe1, r1⟩ := h1
  obtain ⟨te2, pe2, r2⟩ := h2
  have noo : ∀ (j : Nat) (ws : List PyData), ((L.map hid).set i (.va (.list [.list ds, .list us])))[j]? ≠ some (Sl.ow ws) := fun j ws h => by
    by_cases hj : i = j
    · subst hj
      exact set_noown h
    · rw [List.getElem?_set_ne hj] at h
      exact hid_own h
  have l40 : ((L.map hid).set i (.va (.list [.list ds, .list us]))).length ≤ 40 := by rw [List.length_set, List.length_map]; exact hl40
  obtain ⟨t1, q1, w1⟩ := mid_run k1 noo l40
  obtain ⟨t2, q2, w2⟩ := mid_run k2 noo l40
  obtain ⟨t3, q3, w3⟩ := k3
  refine ⟨tSeq (tAsg (tLst (tCons te1 (tCons te2 tNil))) (gName i)) (tSeq t1 (tSeq t2 (tSeq (tDrop (tBM F.K "list" rAppend (tOp (rIxL F.K) (tVar i) (tC (.int 0))) (tCons (tC .non) tNil))) t3))), fun j => ?_, fun σ G H S D w => ?_⟩
  · exact pss_cons (set_any (fun j => pe_lst (pa_cons (pe1 j) (pa_cons (pe2 j) pa_nil (hs2 _)) (hs1 _))) hn hi hx hf hs j) (pss_cons (q1 j) (pss_cons (q2 j) (pss_cons (app0_any i hi hv hd hcd hbase hline hsw j) (q3 j))))
  · exact scratch_core (tm := tSeq t1 t2) (tr := t3) i hl r1 r2 hz hlen (fun σ G H S D v => w1 σ G H S _ fun G' H' S' g' h' => w2 σ G' H' S' _ fun G'' H'' S'' g'' h'' => v G'' H'' S'' (g'.trans g'') (h'.trans h'')) w3 σ S D w F.K
/-- x = [e1, e2]; one look; x[0].append(None); .. -/
theorem ss_scratch1 (i : Nat) (h1 : FD F e1 L ds L) (h2 : FD F e2 L us L) (k1 : SD allZ F m1 ((L.map hid).set i (.va (.list [.list ds, .list us]))) (.nx ((L.map hid).set i (.va (.list [.list ds, .list us])))))
    (k3 : SsD z F rest (L.set i .no) o) (hlen : ds.length < 100000) (hz : i ∉ z := by decide) (hi : F.N[i]? = some x := by rfl) (hl : i < L.length := by exact Nat.le_of_ble_eq_true rfl) (hl40 : L.length ≤ 40 := by exact Nat.le_of_ble_eq_true rfl) (hx : Loc F.sc x := by first | exact Or.inl rfl | exact Or.inr rfl) (hf : StF F x := by first | exact Or.inl rfl | exact Or.inr rfl) (hn : F.N.Nodup := by exact of_decide_eq_true rfl) (hv : Vis F.sc x := by first | exact Or.inl rfl | exact Or.inr (Or.inl rfl) | exact Or.inr (Or.inr rfl))
    (hs : ∀ j, swapsWith (.List [e1, e2] lp) (some (.Name x px)) ap.line (F.x j).env = pure false := by intro _; rfl) (hs1 : ∀ env, starEach [e1, e2] env = (false, eval e1 env) :: starEach [e2] env := by intro _; rfl) (hs2 : ∀ env, starEach [e2] env = (false, eval e2 env) :: starEach [] env := by intro _; rfl) (hd : (x == ("__debug__" : Str)) = false := by decide) (hcd : (x == ("__classdict__" : Str)) = false := by decide)
    (hbase : ∀ env, attributeBase (.Subscript (.Name x py) (.Constant (.int 0) j0 c0) sp) "append" env (eval (.Subscript (.Name x py) (.Constant (.int 0) j0 c0) sp) env) = eval (.Subscript (.Name x py) (.Constant (.int 0) j0 c0) sp) env := by intro _; rfl) (hline : (apos.endLine == cpos.line) = true := by rfl)
    (hsw : ∀ env, swapsWith (.Call (.Attribute (.Subscript (.Name x py) (.Constant (.int 0) j0 c0) sp) "append" apos) [.Constant .none j1 c1] [] cpos) none epos.line env = pure false := by intro _; rfl) :
    SsD z F (.Assign [.Name x px] (.List [e1, e2] lp) ap :: m1 :: .Expr (.Call (.Attribute (.Subscript (.Name x py) (.Constant (.int 0) j0 c0) sp) "append" apos) [.Constant .none j1 c1] [] cpos) epos :: rest) L o := by
  obtain ⟨te1, pe1, r1⟩ := h1
  obtain ⟨te2, pe2, r2⟩ := h2
  have noo : ∀ (j : Nat) (ws : List PyData), ((L.map hid).set i (.va (.list [.list ds, .list us])))[j]? ≠ some (Sl.ow ws) := fun j ws h => by
    by_cases hj : i = j
    · subst hj
      exact set_noown h
    · rw [List.getElem?_set_ne hj] at h
      exact hid_own h
  have l40 : ((L.map hid).set i (.va (.list [.list ds, .list us]))).length ≤ 40 := by rw [List.length_set, List.length_map]; exact hl40
  obtain ⟨t1, q1, w1⟩ := mid_run k1 noo l40
  obtain ⟨t3, q3, w3⟩ := k3
  refine ⟨tSeq (tAsg (tLst (tCons te1 (tCons te2 tNil))) (gName i)) (tSeq t1 (tSeq (tDrop (tBM F.K "list" rAppend (tOp (rIxL F.K) (tVar i) (tC (.int 0))) (tCons (tC .non) tNil))) t3)), fun j => ?_, fun σ G H S D w => ?_⟩
  · exact pss_cons (set_any (fun j => pe_lst (pa_cons (pe1 j) (pa_cons (pe2 j) pa_nil (hs2 _)) (hs1 _))) hn hi hx hf hs j) (pss_cons (q1 j) (pss_cons (app0_any i hi hv hd hcd hbase hline hsw j) (q3 j)))
  · exact scratch_core (tm := t1) (tr := t3) i hl r1 r2 hz hlen w1 w3 σ S D w F.K
end
end
end DL
namespace DL
open PySem PyProof.Rows L2
variable [TabL]
section
variable {z : List Nat} {F : Fam} {e e1 e2 a b c tg iter elt : Expr} {es : List Expr} {sts body rest : List Stmt} {d d1 d2 r : PyData} {ds ds2 its rs ms ms' us : List PyData} {i : Nat} {pos p p2 : Pos} {x y : Str} {σ σ' σ1 σ2 : L2.St} {G H G1 H1 G2 H2 G' H' : Hp} {scope : Scope} {n : Nat} {o : Out} {ob : HO}

/-! ### a row of new lists -/
def noL (n : Nat) : List Sl := List.replicate n .no
theorem noL_at {k : Nat} {t : Sl} (h : (noL n)[k]? = some t) : t = .no := by
  unfold noL at h
  exact List.eq_of_mem_replicate (List.mem_of_getElem? h)
theorem noL_own {q : Addr} : ¬ Own (noL n) σ q := fun ⟨k, us, e, _⟩ => by cases noL_at e
theorem staNo (hl : σ.length = n) (gh : Same G H) : Sta (noL n) σ G H :=
  ⟨gh, by rw [hl]; simp [noL], fun k x t _ e => by rw [noL_at e]; trivial, fun i j q ds es e _ _ _ => by cases noL_at e⟩
structure Pen (G H : Hp) (rs : List (Addr × List PyData)) : Prop where
  it : ∀ q ∈ rs, ∃ xs, H q.1 = some (.lst xs) ∧ G q.1 = none ∧ RpA G xs q.2
  nd : (rs.map (·.1)).Nodup
def ItC (C : L2.St → Hp → Prop) (F : Fam) (tg iter : Expr) (L : List Sl) (its : List PyData) : Prop := ∃ wi, PIf F tg iter wi ∧ ∀ σ G H, Sta L σ G H → C σ H → ∀ R : It → Hp → Prop, (∀ J G' H', Sta L σ G' H' → Te L σ G H L G' H' → RunsJ J its G' → R J H') → wi σ H R
/-- the row is made -/
theorem comp_fresh {C : L2.St → Hp → Prop} {own : List (Str × Nat)} {T : List Nat} {ok : PyData → Prop} {u : PyData → List Sl → List Sl} (fr : PyData → List PyData) (hn : n = F.N.length) (hi : ItC C F tg iter (noL n) its) (hb : BlkOk F.N F.sc scope own) (ht : TgD (F.blk scope) tg T ok u)
    (hT : ∀ k ∈ T, k ∈ own.map (·.2)) (he : ∀ d, d ∈ its → ok d ∧ (∀ (k : Nat) (ds : List PyData), (u d (noL n))[k]? ≠ some (Sl.ow ds)) ∧ FD (F.blk scope) elt (u d (noL n)) (fr d) (u d (noL n)))
    (hlen : its.length ≤ 100000) (hN : F.N.Nodup) (hs : ∀ env x, foldedSetIterable iter env x = pure x) :
    ∃ tl, PEf F (.ListComp elt [⟨tg, iter, [], 0⟩] scope pos) tl ∧ ∀ σ G H, Sta (noL n) σ G H → C σ H → ∀ Q : VK, (∀ q rs G' H', Sta (noL n) σ G' H' → Te (noL n) σ G H (noL n) G' H' → H' q = some (.lst (rs.map fun w => V.ref w.1)) → G' q = none → Pen G' H' rs → rs.map (·.2) = its.map fr → (∀ w ∈ rs, w.1 ≠ q ∧ H w.1 = none) → Q (.ref q) H') → tl σ H Q := by
  obtain ⟨wi, pi, runI⟩ := hi
  obtain ⟨⟨g, pg, runG⟩, out, nown, ulen⟩ := ht
  refine ⟨_, lc_any hN pi hb pg hs, fun σ G0 H0 S0 cH Q q => runI σ G0 H0 S0 cH _ fun J G1 H1 S1 T1 RJ => fun Dl hD => ?_⟩
  have hDG : G1 Dl = none := S1.gn hD
  have hsl : σ.length = n := by rw [S0.ln]; simp [noL]
  refine ⟨fun i k H => k = its.length - i ∧ i ≤ its.length ∧ ∃ G rs, Sta (noL n) σ G H ∧ Te (noL n) σ G1 H1 (noL n) G H ∧ H Dl = some (.lst (rs.map fun w => V.ref w.1)) ∧ G Dl = none ∧ Pen G H rs ∧ rs.map (·.2) = (its.take i).map fr ∧ (∀ w ∈ rs, w.1 ≠ Dl ∧ H0 w.1 = none), ⟨its.length, by simp, Nat.zero_le _, G1, [], ?_⟩, ?_⟩
  · obtain ⟨S2, T2⟩ := S1.new (o := .lst []) hD
    exact ⟨S2, T2, upd_same, hDG, ⟨fun w hw => (by cases hw), .nil⟩, rfl, fun w hw => (by cases hw)⟩
  rintro i k H ⟨rfl, him, G, rs, S, T0, hDl, hGD, pen, hrs, hne⟩
  obtain ⟨stop, go⟩ := RJ i G H T0.g S.gh
  by_cases h : i < its.length
  case neg =>
    obtain rfl : i = its.length := by omega
    rw [List.take_length] at hrs
    exact .inl ⟨stop (Nat.le_refl _), q Dl rs G H S (T1.trans T0) hDl hGD pen hrs hne⟩
  obtain ⟨hg, hy⟩ := go its[i] (List.getElem?_eq_getElem h)
  obtain ⟨okd, noo, te, pe, run⟩ := he its[i] (List.getElem_mem h)
  refine .inr ⟨hg, fun H' => i + 1 ≤ its.length ∧ ∃ G rs, Sta (noL n) σ G H' ∧ Te (noL n) σ G1 H1 (noL n) G H' ∧ H' Dl = some (.lst (rs.map fun w => V.ref w.1)) ∧ G Dl = none ∧ Pen G H' rs ∧ rs.map (·.2) = (its.take (i + 1)).map fr ∧ (∀ w ∈ rs, w.1 ≠ Dl ∧ H0 w.1 = none),
    fun H' ⟨l1, w⟩ => ⟨its.length - (i + 1), by omega, rfl, l1, w⟩, fun x H' hx => ?_⟩
  obtain ⟨G2, S2, T2, r2⟩ := yielded S (hy x H' hx)
  have SW : Sta (noL n) (wipe σ (own.map (·.2))) G2 H' := staNo (by rw [wipe_length]; exact hsl) S2.gh
  refine runG _ okd _ _ _ _ _ (by show _ = F.N.length; rw [← hn]; simp [noL]) SW r2 _ fun σ3 S3 T3 A3 => ?_
  have l3 : σ3.length = σ.length := by rw [S3.ln, ulen _ _ okd, ← S2.ln]
  have agree : ∀ k, k ∉ own.map (·.2) → σ3[k]? = σ[k]? := fun k hk => by
    have := A3 k fun hkT => hk (hT k hkT)
    rw [wipe_get, if_neg hk] at this
    exact this
  have weq : wipe σ3 (own.map (·.2)) = wipe σ (own.map (·.2)) := wipe_eq (fun k hk => by rw [wipe_get, if_neg hk]; exact agree k hk) l3
  refine ⟨weq, ?_⟩
  have noU : ∀ q, ¬ Own (u its[i] (noL n)) σ3 q := fun q ⟨k, us, e, _⟩ => noo k us e
  refine IfsD.run (k := true) .nil S3 _ fun G4 H4 S4 T4 => iteT ⟨te, pe, run σ3 G4 H4 S4 _ fun q0 xs G5 H5 S5 T5 hp hp5 gp5 r5 => ?_⟩
  have keep : ∀ b o, H b = some o → G b = none → Pl o → H5 b = some o ∧ G5 b = none := fun b o e1 e2 nt => by
    obtain ⟨f1, f2⟩ := T2.fr b o e1 e2 noL_own nt
    obtain ⟨f3, f4⟩ := T4.fr b o f1 f2 (noU b) nt
    exact T5.fr b o f3 f4 (noU b) nt
  have old : ∀ b o, H b = some o → q0 ≠ b := fun b o e1 z => by
    obtain ⟨v0, hv0⟩ := T2.th.th b o e1
    obtain ⟨v, hv⟩ := T4.th.th b v0 hv0
    rw [z] at hp
    rw [hp] at hv
    cases hv
  obtain ⟨k1, k2⟩ := keep Dl _ hDl hGD pl_lst
  have nD : q0 ≠ Dl := old Dl _ hDl
  have gg : Same G G5 := (T2.g.trans T4.g).trans T5.g
  refine ⟨_, k1, ?_, by omega, G5, rs ++ [(q0, fr its[i])], ?_, ?_, ?_, k2, ⟨fun w hw => ?_, ?_⟩, ?_, fun w hw => ?_⟩
  · have e := congrArg List.length hrs
    rw [List.length_map, List.length_map, List.length_take] at e
    rw [List.length_map]
    exact Nat.lt_of_lt_of_le (by omega : rs.length < 200000) (by decide)
  · refine staNo hsl fun b o hb' => ?_
    rw [upd_ne]
    · exact S5.gh b o hb'
    · rintro rfl
      rw [k2] at hb'
      cases hb'
  · refine ⟨T0.g.trans gg, fun b o hb' gb _ nt => ?_, fun b w => w, (((T0.th.trans T2.th).trans T4.th).trans T5.th).trans (.put k1)⟩
    obtain ⟨q1, q2⟩ := T0.fr b o hb' gb noL_own nt
    obtain ⟨q3, q4⟩ := keep b o q1 q2 nt
    refine ⟨?_, q4⟩
    rw [upd_ne (ne_of_none hb' hD)]
    exact q3
  · rw [upd_same, List.map_append]
    rfl
  · rcases List.mem_append.mp hw with hw | hw
    · obtain ⟨ys, w1, w2, w3⟩ := pen.it w hw
      obtain ⟨w4, w5⟩ := keep _ _ w1 w2 pl_lst
      refine ⟨ys, ?_, w5, w3.up gg⟩
      rw [upd_ne (hne w hw).1]
      exact w4
    · rw [List.mem_singleton.mp hw]
      refine ⟨xs, ?_, gp5, r5⟩
      show upd H5 Dl _ q0 = _
      rw [upd_ne nD]
      exact hp5
  · rw [List.map_append]
    refine List.nodup_append.mpr ⟨pen.nd, by simp, fun b hb' c hc => ?_⟩
    obtain ⟨w, hw, rfl⟩ := List.mem_map.mp hb'
    obtain ⟨ys, w1, _, _⟩ := pen.it w hw
    have hc' : c = q0 := by simpa using hc
    rw [hc']
    exact (old _ _ w1).symm
  · rw [List.map_append, hrs, List.take_succ, List.getElem?_eq_getElem h, List.map_append]
    rfl
  · rcases List.mem_append.mp hw with hw | hw
    · exact hne w hw
    · rw [List.mem_singleton.mp hw]
      exact ⟨nD, (T1.trans (T0.trans T2)).back (T4.back hp)⟩
/-- for x in a row of new lists, each one's own while its turn goes on -/
theorem for_fresh {C : L2.St → Hp → Prop} {px fp : Pos} (i0 : Nat) (fr : PyData → List PyData) (hn : n = F.N.length) {le : Expr}
    (hl : ∃ tl, PEf F le tl ∧ ∀ σ G H, Sta (noL n) σ G H → C σ H → ∀ Q : VK, (∀ q rs G' H', Sta (noL n) σ G' H' → Te (noL n) σ G H (noL n) G' H' → H' q = some (.lst (rs.map fun w => V.ref w.1)) → G' q = none → Pen G' H' rs → rs.map (·.2) = its.map fr → (∀ w ∈ rs, w.1 ≠ q ∧ H w.1 = none) → Q (.ref q) H') → tl σ H Q)
    (hb : ∀ d, d ∈ its → SsD [] F body ((noL n).set i0 (.ow (fr d))) (.nx (noL n)))
    (hs : ∀ env x, foldedSetIterable le env x = pure x) (hi : F.N[i0]? = some x := by rfl) (hx : Loc F.sc x := by first | exact Or.inl rfl | exact Or.inr rfl) (hf : StF F x := by first | exact Or.inl rfl | exact Or.inr rfl) (hN : F.N.Nodup := by exact of_decide_eq_true rfl) :
    ∃ ts, PSf F (.For (.Name x px) le body [] fp) ts ∧ ∀ σ G H, Sta (noL n) σ G H → C σ H → ∀ D, EndOk [] (noL n) σ G H D (.nx (noL n)) → ts D σ H := by
  obtain ⟨tl, pe, run⟩ := hl
  have pg : PGf F (.Name x px) (gName i0) := fun j => pg_name (by rw [F.hN]; exact hN) (by rw [F.hN]; exact hi) (locF hx j) (hf.at j)
  refine ⟨_, for_any (plf F pe) pg hs, fun σ0 G0 H0 S0 cH D q => run σ0 G0 H0 S0 cH _ fun p0 rs G1 H1 S1 T1 hp gp pen hrs hne => ?_⟩
  have hi0 : i0 < n := by rw [hn]; exact (List.getElem?_eq_some_iff.mp hi).1
  refine ⟨p0, rfl, ⟨_, SqL.of hp⟩, fun i k σ H => k = rs.length - i ∧ i ≤ rs.length ∧ ∃ G, Sta (noL n) σ G H ∧ Ts (noL n) σ0 G0 H0 (noL n) σ G H ∧ H p0 = some (.lst (rs.map fun w => V.ref w.1)) ∧ G p0 = none ∧ Pen G H (rs.drop i), ⟨rs.length, by simp, Nat.zero_le _, G1, S1, T1.ts, hp, gp, pen⟩, ?_⟩
  rintro i k σ H ⟨rfl, him, G, S, T0, hpi, gpi, peni⟩
  by_cases h : i < rs.length
  case neg =>
    refine .inl ⟨⟨_, SqL.of hpi, by rw [List.length_map]; omega⟩, ?_⟩
    exact q σ G H S T0 fun k hk => by cases hk
  have ed : rs.drop i = rs[i] :: rs.drop (i + 1) := List.drop_eq_getElem_cons h
  refine .inr ⟨⟨_, V.ref rs[i].1, SqL.of hpi, by rw [List.getElem?_map, List.getElem?_eq_getElem h]; rfl⟩, fun σ' H' => i + 1 ≤ rs.length ∧ ∃ G, Sta (noL n) σ' G H' ∧ Ts (noL n) σ0 G0 H0 (noL n) σ' G H' ∧ H' p0 = some (.lst (rs.map fun w => V.ref w.1)) ∧ G p0 = none ∧ Pen G H' (rs.drop (i + 1)), fun σ' H' ⟨h1, w⟩ => ⟨rs.length - (i + 1), by omega, rfl, h1, w⟩, fun v H' hv => ?_⟩
  obtain ⟨rfl, hv2⟩ := hv
  have ev := hv2 _ (SqL.of hpi)
  rw [List.getElem?_map, List.getElem?_eq_getElem h] at ev
  obtain rfl : v = V.ref rs[i].1 := (Option.some.inj ev).symm
  rw [ed] at peni
  obtain ⟨xs, w1, w2, w3⟩ := peni.it rs[i] (List.mem_cons_self ..)
  have hmem : rs[i].2 ∈ its.map fr := by
    rw [← hrs]
    exact List.mem_map_of_mem (List.getElem_mem h)
  obtain ⟨d, hd, efr⟩ := List.mem_map.mp hmem
  obtain ⟨S2, O2⟩ := S.set_ow (i := i0) (by simp [noL]; exact hi0) w1 w2 noL_own w3
  rw [← efr] at S2 O2
  obtain ⟨tb, pb, runb⟩ := hb d hd
  refine ⟨tb, pb, runb _ G H' S2 _ fun σ' G' H2 S' T' A' => ?_⟩
  have only : ∀ b, Own ((noL n).set i0 (Sl.ow (fr d))) (σ.set i0 (some (V.ref rs[i].1))) b → b = rs[i].1 := fun b w => (O2 b w).elim (fun w => (noL_own w).elim) id
  have nd := peni.nd
  rw [List.map_cons, List.nodup_cons] at nd
  have keep : ∀ b o, H' b = some o → G b = none → b ≠ rs[i].1 → Pl o → H2 b = some o ∧ G' b = none := fun b o e1 e2 e3 nt => T'.fr b o e1 e2 (fun w => e3 (only b w)) nt
  obtain ⟨k1, k2⟩ := keep p0 _ hpi gpi (hne _ (List.getElem_mem h)).1.symm pl_lst
  refine ⟨by omega, G', S', ?_, k1, k2, ⟨fun w hw => ?_, nd.2⟩⟩
  · refine ⟨T0.g.trans T'.g, fun b o hb' gb _ nt => ?_, fun b w => (noL_own w).elim, T0.th.trans T'.th⟩
    obtain ⟨q1, q2⟩ := T0.fr b o hb' gb noL_own nt
    exact keep b o q1 q2 (ne_of_none hb' (hne _ (List.getElem_mem h)).2) nt
  · obtain ⟨ys, f1, f2, f3⟩ := peni.it w (List.mem_cons_of_mem _ hw)
    obtain ⟨f4, f5⟩ := keep _ _ f1 f2 (fun e => nd.1 (by rw [← e]; exact List.mem_map_of_mem hw)) pl_lst
    exact ⟨ys, f4, f5, f3.up T'.g⟩
end
end DL
namespace DL
open PySem PyProof.Rows L2
variable [TabL]
section
variable {z : List Nat} {F : Fam} {e e1 e2 a b c tg iter elt : Expr} {L L1 L2' L' L3 : List Sl} {ds its rs : List PyData} {x : Str}
/-- the signs of a text -/
def signsD (x : Str) : List PyData := x.cps.toList.map fun c => .str ⟨#[c]⟩
theorem it_str (h : ED F iter L (.str x) L') : ItD F tg iter L (signsD x) L' := by
  obtain ⟨te, pe, run⟩ := h
  refine ⟨_, fun j => pi_str (pe j), fun σ G H S R q => run σ G H S _ fun v G' H' S' T' r => ?_⟩
  cases r
  have hl : (signsD x).length = x.cps.size := by simp [signsD]
  refine ⟨x, rfl, q _ G' H' S' T' fun i G2 H2 g gh => ⟨fun hi => by rw [hl] at hi; exact hi, fun d hd => ?_⟩⟩
  have hi : i < x.cps.size := by
    rw [← hl]
    exact (List.getElem?_eq_some_iff.mp hd).1
  refine ⟨hi, fun v H3 hy => .inl ⟨hy.1, ?_⟩⟩
  obtain ⟨_, c, hc, rfl⟩ := hy
  have e : d = .str ⟨#[c]⟩ := by
    unfold signsD at hd
    rw [List.getElem?_map, Array.getElem?_toList, hc] at hd
    exact (Option.some.inj hd).symm
  rw [e]
  exact .str _
end
end DL
namespace DL
open PySem PyProof.Rows L2
variable [TabL]
section
variable {z : List Nat} {F : Fam} {e e1 e2 a b c : Expr} {L L1 L2' L' L3 : List Sl} {d d1 d2 : PyData} {ds its rs : List PyData} {x : Str} {pos : Pos}
theorem inDf (F : Fam) (j : F.J) : OpR (F.x j) (compareOp .In) (rInD F.K) := by
  rw [← F.hK j]
  exact op_inD (by have := (F.hr j).un; omega)
theorem ninDf (F : Fam) (j : F.J) : OpR (F.x j) (compareOp .NotIn) (rNotInD F.K) := by
  rw [← F.hK j]
  exact op_notInD (by have := (F.hr j).un; omega)
theorem cd_inD (ha : ED F a L d L1) (hb : HD F b L1 (.list ds) L2') (s1 : SeqAt.shaped d = true) (s2 : SeqAt.shaped (.list ds) = true) (hm : behindInMarks .In b = false := by rfl) : CD F (.Compare a [.In] [b] pos) L (ds.any fun z => PyData.eqv z d) L2' :=
  cd_cmpH (fun j => inDf F j) hm ha hb fun x y H r1 r2 Q q => ⟨d, ds, Rp.dp _ _ (noDict_shaped s1) r1, Rp.dp _ _ (noDict_shaped s2) r2, s1, s2, q⟩
theorem cd_ninD (ha : ED F a L d L1) (hb : HD F b L1 (.list ds) L2') (s1 : SeqAt.shaped d = true) (s2 : SeqAt.shaped (.list ds) = true) (hm : behindInMarks .NotIn b = false := by rfl) : CD F (.Compare a [.NotIn] [b] pos) L (!ds.any fun z => PyData.eqv z d) L2' :=
  cd_cmpH (fun j => ninDf F j) hm ha hb fun x y H r1 r2 Q q => ⟨d, ds, Rp.dp _ _ (noDict_shaped s1) r1, Rp.dp _ _ (noDict_shaped s2) r2, s1, s2, q⟩
end
end DL
namespace DL
open PySem PyProof.Rows L2
variable [TabL]
section
variable {z : List Nat} {F : Fam} {e e1 e2 a b c tg iter elt tg1 iter1 : Expr} {L L1 L2' L' L3 : List Sl} {d d1 d2 : PyData} {ds its rs : List PyData} {x : Str} {pos p : Pos} {ns : List Int} {σ σ' : L2.St} {G H G' H' : Hp} {scope : Scope}
/-! ### sorted, min of whole numbers -/
theorem sorted_unique : ∀ {ms ns : List Int}, ms.Perm ns → ms.Pairwise (· ≤ ·) → ns.Pairwise (· ≤ ·) → ms = ns
  | [], ns, p, _, _ => p.nil_eq
  | m :: ms, [], p, _, _ => p.eq_nil
  | m :: ms, n :: ns, p, hm, hn => by
    have h1 : m ≤ n := by
      rcases List.mem_cons.mp (p.mem_iff.mpr (List.mem_cons_self ..)) with h | h
      · omega
      · exact (List.pairwise_cons.mp hm).1 n h
    have h2 : n ≤ m := by
      rcases List.mem_cons.mp (p.mem_iff.mp (List.mem_cons_self ..)) with h | h
      · omega
      · exact (List.pairwise_cons.mp hn).1 m h
    obtain rfl : m = n := by omega
    rw [sorted_unique (List.Perm.cons_inv p) (List.pairwise_cons.mp hm).2 (List.pairwise_cons.mp hn).2]
theorem sortf (F : Fam) (j : F.J) : CallR (F.x j) (.builtin "sorted") (rSortedI F.K) := by
  rw [← F.hK j]
  exact cr_sortedI
theorem fd_sorted {rs : List Int} (h : LD F e L (ns.map .int) L') (hu : rs.Perm ns ∧ rs.Pairwise (· ≤ ·)) (hm : F.mg "sorted" = none) (hg : GlF F "sorted" := by rfl) (hs : ∀ env, starEach [e] env = (false, eval e env) :: starEach [] env := by intro _; rfl) : FD F (.Call (.Name "sorted" p) [e] [] pos) L (rs.map .int) L' := by
  obtain ⟨te, pe, run⟩ := h
  refine ⟨_, bt_any (sortf F) hg hm (by decide +kernel) (pa1 pe hs) (by decide) (by decide) hs (fun _ => rfl), fun σ G H S Q q => run σ G H S _ fun a xs G' H' S' T h1 r => ⟨a, ns, rfl, SqL.of (by rw [h1, r.of_ints]), fun ms l hp hw hl => ?_⟩⟩
  obtain rfl := sorted_unique (hp.trans hu.1.symm) hw hu.2
  obtain ⟨S2, T2⟩ := S'.new (o := .lst (ms.map V.int)) hl
  exact q l _ G' _ S2 (T.trans T2) (T.back hl) upd_same (S'.gn hl) (RpA.ints ms)
theorem minf (F : Fam) (j : F.J) : CallR (F.x j) (.builtin "min") (rMin F.K) := by
  rw [← F.hK j]
  exact cr_min (F.hc j)
theorem ed_min {r : Int} (h : LD F e L (ns.map .int) L') (h0 : 0 < ns.length) (hu : ∀ m, m ∈ ns → (∀ y, y ∈ ns → m ≤ y) → m = r) (hm : F.mg "min" = none) (hg : GlF F "min" := by rfl) (hs : ∀ env, starEach [e] env = (false, eval e env) :: starEach [] env := by intro _; rfl) : ED F (.Call (.Name "min" p) [e] [] pos) L (.int r) L' := by
  obtain ⟨te, pe, run⟩ := h
  refine ⟨_, bt_any (minf F) hg hm (by decide +kernel) (pa1 pe hs) (by decide) (by decide) hs (fun _ => rfl), fun σ G H S Q q => run σ G H S _ fun a xs G' H' S' T h1 r => ⟨a, ns, rfl, SqL.of (by rw [h1, r.of_ints]), h0, fun m m1 m2 => ?_⟩⟩
  rw [hu m m1 m2]
  exact q _ _ _ S' T (.int _)
/-! ### into a block and back -/
structure Blk (M M' : List Sl) (W : List Nat) (σ σ' : L2.St) : Prop where
  no : ∀ k ∈ W, ∀ t, M[k]? = some t → t = .no
  out : ∀ k, k ∉ W → M'[k]? = M[k]?
  nown : ∀ k ∈ W, ∀ ds, M'[k]? ≠ some (Sl.ow ds)
  agree : ∀ k, k ∉ W → σ'[k]? = σ[k]?
  ln : M.length = σ.length
theorem Blk.own {M M' : List Sl} {W : List Nat} (B : Blk M M' W σ σ') {q : Addr} : Own M' σ' q ↔ Own M σ q := by
  constructor
  · rintro ⟨k, us, h1, h2⟩
    have hk : k ∉ W := fun hk => B.nown k hk us h1
    exact ⟨k, us, by rw [← B.out k hk]; exact h1, by rw [← B.agree k hk]; exact h2⟩
  · rintro ⟨k, us, h1, h2⟩
    have hk : k ∉ W := fun hk => by cases B.no k hk _ h1
    exact ⟨k, us, by rw [B.out k hk]; exact h1, by rw [B.agree k hk]; exact h2⟩
theorem Blk.back {M M' : List Sl} {W : List Nat} (B : Blk M M' W σ σ') (S : Sta M' σ' G H) : Sta M σ G H := by
  refine ⟨S.gh, B.ln.symm, fun k y t h1 h2 => ?_, fun k l q us ws h1 h2 h3 h4 => ?_⟩
  · by_cases hk : k ∈ W
    · obtain rfl := B.no k hk t h2
      trivial
    · exact S.sl k y t (by rw [B.agree k hk]; exact h1) (by rw [B.out k hk]; exact h2)
  · have k1 : k ∉ W := fun hk => by cases B.no k hk _ h1
    have k2 : l ∉ W := fun hk => by cases B.no l hk _ h2
    exact S.di k l q us ws (by rw [B.out k k1]; exact h1) (by rw [B.out l k2]; exact h2) (by rw [B.agree k k1]; exact h3) (by rw [B.agree l k2]; exact h4)
theorem Blk.te {M M' : List Sl} {W : List Nat} (B : Blk M M' W σ σ') (T : Te M' σ' G H M' G' H') : Te M σ G H M G' H' :=
  ⟨T.g, fun b o hb gb nb => T.fr b o hb gb fun w => nb (B.own.mp w), fun b w => w, T.th⟩
theorem wipeSta {M : List Sl} {W : List Nat} (no : ∀ k ∈ W, ∀ t, M[k]? = some t → t = .no) (S : Sta M σ G H) : Sta M (wipe σ W) G H := by
  refine ⟨S.gh, by rw [wipe_length]; exact S.ln, fun k y t h1 h2 => ?_, fun k l q us ws h1 h2 h3 h4 => ?_⟩
  · by_cases hk : k ∈ W
    · obtain rfl := no k hk t h2
      trivial
    · rw [wipe_get, if_neg hk] at h1
      exact S.sl k y t h1 h2
  · have k1 : k ∉ W := fun hk => by cases no k hk _ h1
    have k2 : l ∉ W := fun hk => by cases no l hk _ h2
    rw [wipe_get, if_neg k1] at h3
    rw [wipe_get, if_neg k2] at h4
    exact S.di k l q us ws h1 h2 h3 h4
/-! ### two loops in one comprehension -/
def wiA (F : Fam) (tg iter : Expr) : TI := fun σ H R => ∃ wi, PIf F tg iter wi ∧ wi σ H R
theorem pi_any (F : Fam) (tg iter : Expr) : PIf F tg iter (wiA F tg iter) := fun j => ⟨fun pins s σ H R I h => let ⟨wi, pi, q⟩ := h; (pi j).run pins s σ H R I q⟩
def ttB (F : Fam) (c : Expr) : TT := ttsA F [c]
theorem lc2_any {wi : TI} {g g1 : TG} {own : List (Str × Nat)} {vs1 : List Nat} (hn : F.N.Nodup) (pi : PIf F tg iter wi) (ok : BlkOk F.N F.sc scope own) (hv : ∀ i ∈ vs1, i ∈ own.map (·.2)) (pg : PGf (F.blk scope) tg g) (pg1 : PGf (F.blk scope) tg1 g1) (hs : ∀ env x, foldedSetIterable iter env x = pure x) (hs1 : ∀ env x, foldedSetIterable iter1 env x = pure x) :
    PEf F (.ListComp elt [⟨tg, iter, [], 0⟩, ⟨tg1, iter1, [c], 0⟩] scope pos) (tLc2 wi g (ttsA (F.blk scope) []) (wiA (F.blk scope) tg1 iter1) g1 (ttsA (F.blk scope) [c]) (teA (F.blk scope) elt) (own.map (·.2)) vs1) := fun j => by
  refine pe_lc2 (F.hc j) (by rw [F.hN]; exact hn) (pi j) (by rw [F.hN, F.hsc]; exact ok) hv (fun s H C cl fp => ?_) (fun s H C cl fp => ?_) (fun s H C cl fp => ?_) (fun s H C cl fp => ?_) (fun s H C cl fp => ?_) (fun s H C cl fp => ?_) (hs _) hs1
  · exact pg (j, s, H, C, cl, fp)
  · exact pts_any (F.blk scope) [] (j, s, H, C, cl, fp)
  · exact pi_any (F.blk scope) tg1 iter1 (j, s, H, C, cl, fp)
  · exact pg1 (j, s, H, C, cl, fp)
  · exact pts_any (F.blk scope) [c] (j, s, H, C, cl, fp)
  · exact pe_any (F.blk scope) elt (j, s, H, C, cl, fp)
/-- the frame's slots stand as L1 tells through both loops -/
theorem fd_lc2 {own : List (Str × Nat)} {T T1 : List Nat} {ok ok1 : PyData → Prop} {u u1 : PyData → List Sl → List Sl} (vs1 : List Nat) (its2 : PyData → List PyData) (t : PyData → PyData → Bool) (f : PyData → PyData → PyData) (hi : ItD F tg iter L its L1) (hb : BlkOk F.N F.sc scope own) (ht : TgD (F.blk scope) tg T ok u) (ht1 : TgD (F.blk scope) tg1 T1 ok1 u1)
    (hT : ∀ k ∈ T, k ∈ own.map (·.2)) (hT1 : ∀ k ∈ T1, k ∈ vs1) (hv : ∀ k ∈ vs1, k ∈ own.map (·.2)) (hd : ∀ k ∈ T, k ∉ vs1) (hM : L1.length = F.N.length) (hno : AllNo (own.map (·.2)) L1)
    (he : ∀ d, d ∈ its → ok d ∧ ItD (F.blk scope) tg1 iter1 (u d L1) (its2 d) (u d L1) ∧ ∀ d2, d2 ∈ its2 d → ok1 d2 ∧ BD (F.blk scope) c (u1 d2 (u d L1)) (t d d2) (u1 d2 (u d L1)) ∧ (t d d2 = true → ED (F.blk scope) elt (u1 d2 (u d L1)) (f d d2) (u1 d2 (u d L1))))
    (hlen : (its.flatMap fun d => its2 d).length ≤ 100000) (hn : F.N.Nodup := by exact of_decide_eq_true rfl) (hs : ∀ env x, foldedSetIterable iter env x = pure x := by intro _ _; rfl) (hs1 : ∀ env x, foldedSetIterable iter1 env x = pure x := by intro _ _; rfl) :
    FD F (.ListComp elt [⟨tg, iter, [], 0⟩, ⟨tg1, iter1, [c], 0⟩] scope pos) L (its.flatMap fun d => ((its2 d).filter (t d)).map (f d)) L1 := by
  obtain ⟨wi, pi, runI⟩ := hi
  obtain ⟨⟨g, pg, runG⟩, out, nown, ulen⟩ := ht
  obtain ⟨⟨g1, pg1, runG1⟩, out1, nown1, ulen1⟩ := ht1
  refine ⟨_, lc2_any hn pi hb hv pg pg1 hs hs1, fun σ G0 H0 S0 Q q => runI σ G0 H0 S0 _ fun J G1 H1 S1 T1' RJ => fun Dl hD => ?_⟩
  have hDG : G1 Dl = none := S1.gn hD
  have no0 : ∀ k ∈ own.map (·.2), ∀ t, L1[k]? = some t → t = .no := hno.at
  have acc_lt : ∀ {n : Nat}, n ≤ 100000 → n < sizeLine := fun h => Nat.lt_of_lt_of_le (by omega : _ < 200000) (by decide)
  let R : Nat → List PyData := fun i => (its.take i).flatMap fun d => ((its2 d).filter (t d)).map (f d)
  refine ⟨fun i k H => k = its.length - i ∧ i ≤ its.length ∧ ∃ G acc, Sta L1 σ G H ∧ Te L1 σ G1 H1 L1 G H ∧ H Dl = some (.lst acc) ∧ G Dl = none ∧ RpA G acc (R i) ∧ ¬ Own L1 σ Dl, ⟨its.length, by simp, Nat.zero_le _, G1, [], ?_⟩, ?_⟩
  · obtain ⟨S2, T2⟩ := S1.new (o := .lst []) hD
    exact ⟨S2, T2, upd_same, hDG, .nil, S1.own_ne hD⟩
  rintro i k H ⟨rfl, him, G, acc, S, T0, hDl, hGD, racc, nO⟩
  obtain ⟨stop, go⟩ := RJ i G H T0.g S.gh
  by_cases h : i < its.length
  case neg =>
    obtain rfl : i = its.length := by omega
    have e : R its.length = its.flatMap fun d => ((its2 d).filter (t d)).map (f d) := by
      show (its.take its.length).flatMap _ = _
      rw [List.take_length]
    rw [e] at racc
    exact .inl ⟨stop (Nat.le_refl _), q Dl acc G H S (T1'.trans T0) (T1'.back hD) hDl hGD racc⟩
  obtain ⟨hg, hy⟩ := go its[i] (List.getElem?_eq_getElem h)
  obtain ⟨okd, ⟨wi2, pi2, runI2⟩, inner⟩ := he its[i] (List.getElem_mem h)
  obtain ⟨dd, hdd⟩ : ∃ dd, dd = its[i] := ⟨_, rfl⟩
  have eR : R (i + 1) = R i ++ ((its2 dd).filter (t dd)).map (f dd) := by
    show (its.take (i + 1)).flatMap _ = _
    rw [List.take_succ, List.getElem?_eq_getElem h, List.flatMap_append, hdd]
    simp [R]
  have lenR : (R i).length + (its2 dd).length ≤ 100000 := by
    have e1 : (its.flatMap fun d => its2 d) = (its.take i).flatMap (fun d => its2 d) ++ (its2 dd ++ (its.drop (i + 1)).flatMap fun d => its2 d) := by
      conv => lhs; rw [← List.take_append_drop i its, List.drop_eq_getElem_cons h]
      rw [List.flatMap_append, List.flatMap_cons, hdd]
    have e2 : (R i).length ≤ ((its.take i).flatMap fun d => its2 d).length := by
      show ((its.take i).flatMap _).length ≤ _
      generalize its.take i = l
      induction l with
      | nil => exact Nat.le_refl _
      | cons a l ih =>
        rw [List.flatMap_cons, List.flatMap_cons, List.length_append, List.length_append, List.length_map]
        have := List.length_filter_le (t a) (its2 a)
        omega
    rw [e1, List.length_append, List.length_append] at hlen
    omega
  rw [← hdd] at hy okd runI2 inner
  refine .inr ⟨hg, fun H' => i + 1 ≤ its.length ∧ ∃ G acc, Sta L1 σ G H' ∧ Te L1 σ G1 H1 L1 G H' ∧ H' Dl = some (.lst acc) ∧ G Dl = none ∧ RpA G acc (R (i + 1)) ∧ ¬ Own L1 σ Dl,
    fun H' ⟨l1, w⟩ => ⟨its.length - (i + 1), by omega, rfl, l1, w⟩, fun x H' hx => ?_⟩
  obtain ⟨G2, S2, T2, r2⟩ := yielded S (hy x H' hx)
  refine runG _ okd _ _ _ _ _ (by show _ = F.N.length; exact hM) (wipeSta no0 S2) r2 _ fun σ3 S3 T3 A3 => ?_
  have l3 : σ3.length = σ.length := by rw [S3.ln, ulen _ _ okd, ← S2.ln]
  have agree : ∀ k, k ∉ own.map (·.2) → σ3[k]? = σ[k]? := fun k hk => by
    have := A3 k fun hkT => hk (hT k hkT)
    rw [wipe_get, if_neg hk] at this
    exact this
  have weq : wipe σ3 (own.map (·.2)) = wipe σ (own.map (·.2)) := wipe_eq (fun k hk => by rw [wipe_get, if_neg hk]; exact agree k hk) l3
  refine ⟨weq, ?_⟩
  have nw0 : ∀ k ∈ own.map (·.2), ∀ ds, (u dd L1)[k]? ≠ some (Sl.ow ds) := fun k hk ds e => by
    by_cases hkT : k ∈ T
    · exact nown _ _ k ds okd hkT e
    · rw [out _ _ k okd hkT] at e
      cases no0 k hk _ e
  have B0 : Blk L1 (u dd L1) (own.map (·.2)) σ σ3 := ⟨no0, fun k hk => out _ _ k okd fun hkT => hk (hT k hkT), nw0, agree, S2.ln.symm⟩
  have no1 : ∀ k ∈ vs1, ∀ t, (u dd L1)[k]? = some t → t = .no := fun k hk t' e => by
    rw [out _ _ k okd fun hkT => hd k hkT hk] at e
    exact no0 k (hv k hk) t' e
  have nO3 : ¬ Own (u dd L1) σ3 Dl := fun w => nO (B0.own.mp w)
  have hD2 := T2.fr Dl _ hDl hGD nO pl_lst
  refine IfsD.run (k := true) .nil S3 _ fun G4 H4 S4 T4 => iteT ⟨wi2, pi2, runI2 σ3 G4 H4 S4 _ fun J1 G5 H5 S5 T5 RJ1 => ?_⟩
  have hD4 := T4.fr Dl _ hD2.1 hD2.2 nO3 pl_lst
  have hD5 := T5.fr Dl _ hD4.1 hD4.2 nO3 pl_lst
  let R2 : Nat → List PyData := fun j => (((its2 dd).take j).filter (t dd)).map (f dd)
  refine ⟨fun j k H => k = (its2 dd).length - j ∧ j ≤ (its2 dd).length ∧ ∃ G acc, Same G5 G ∧ Sta (u dd L1) σ3 G H ∧ Te L1 σ G1 H1 L1 G H ∧ H Dl = some (.lst acc) ∧ G Dl = none ∧ RpA G acc (R i ++ R2 j), ⟨(its2 dd).length, by simp, Nat.zero_le _, G5, acc, Same.refl _, S5, (T0.trans T2).trans (B0.te (T4.trans T5)), hD5.1, hD5.2, ?_⟩, ?_⟩
  · have e : R i ++ R2 0 = R i := List.append_nil _
    rw [e]
    exact racc.up ((T2.g.trans T4.g).trans T5.g)
  rintro j k H ⟨rfl, hjm, G6, acc6, g56, S6, T6, hD6, gD6, racc6⟩
  obtain ⟨stop1, go1⟩ := RJ1 j G6 H g56 S6.gh
  by_cases hj : j < (its2 dd).length
  case neg =>
    obtain rfl : j = (its2 dd).length := by omega
    refine .inl ⟨stop1 (Nat.le_refl _), by omega, G6, acc6, B0.back S6, T6, hD6, gD6, ?_, nO⟩
    · have e : R2 (its2 dd).length = ((its2 dd).filter (t dd)).map (f dd) := by
        show (((its2 dd).take (its2 dd).length).filter _).map _ = _
        rw [List.take_length]
      rw [eR, ← e]
      exact racc6
  obtain ⟨hg1, hy1⟩ := go1 (its2 dd)[j] (List.getElem?_eq_getElem hj)
  obtain ⟨okd1, bd, ed⟩ := inner (its2 dd)[j] (List.getElem_mem hj)
  obtain ⟨d2, hd2⟩ : ∃ d2, d2 = (its2 dd)[j] := ⟨_, rfl⟩
  have eR2 : R2 (j + 1) = R2 j ++ if t dd d2 = true then [f dd d2] else [] := by
    show (((its2 dd).take (j + 1)).filter _).map _ = _
    rw [List.take_succ, List.getElem?_eq_getElem hj, List.filter_append, List.map_append, ← hd2]
    congr 1
    cases ht2 : t dd d2 <;> simp [ht2]
  rw [← hd2] at hy1 okd1 bd ed
  have l6 : acc6.length ≤ 100000 := by
    rw [racc6.len, List.length_append]
    have : (R2 j).length ≤ (its2 dd).length := by
      show ((((its2 dd).take j).filter _).map _).length ≤ _
      rw [List.length_map]
      have h1 := List.length_filter_le (t dd) ((its2 dd).take j)
      rw [List.length_take] at h1
      omega
    omega
  refine .inr ⟨hg1, fun H' => j + 1 ≤ (its2 dd).length ∧ ∃ G acc, Same G5 G ∧ Sta (u dd L1) σ3 G H' ∧ Te L1 σ G1 H1 L1 G H' ∧ H' Dl = some (.lst acc) ∧ G Dl = none ∧ RpA G acc (R i ++ R2 (j + 1)),
    fun H' ⟨l1, w⟩ => ⟨(its2 dd).length - (j + 1), by omega, rfl, l1, w⟩, fun x1 H7 hx1 => ?_⟩
  obtain ⟨G7, S7, T7, r7⟩ := yielded S6 (hy1 x1 H7 hx1)
  refine runG1 _ okd1 _ _ _ _ _ (by show _ = F.N.length; rw [ulen _ _ okd]; exact hM) (wipeSta no1 S7) r7 _ fun σ4 S8 T8 A8 => ?_
  have agree1 : ∀ k, k ∉ vs1 → σ4[k]? = σ3[k]? := fun k hk => by
    have := A8 k fun hkT => hk (hT1 k hkT)
    rw [wipe_get, if_neg hk] at this
    exact this
  have l4 : σ4.length = σ3.length := by rw [S8.ln, ulen1 _ _ okd1, ← S7.ln]
  have weq1 : wipe σ4 vs1 = wipe σ3 vs1 := wipe_eq (fun k hk => by rw [wipe_get, if_neg hk]; exact agree1 k hk) l4
  refine ⟨weq1, ?_⟩
  have nw1 : ∀ k ∈ vs1, ∀ ds, (u1 d2 (u dd L1))[k]? ≠ some (Sl.ow ds) := fun k hk ds e => by
    by_cases hkT : k ∈ T1
    · exact nown1 _ _ k ds okd1 hkT e
    · rw [out1 _ _ k okd1 hkT] at e
      cases no1 k hk _ e
  have B1 : Blk (u dd L1) (u1 d2 (u dd L1)) vs1 σ3 σ4 := ⟨no1, fun k hk => out1 _ _ k okd1 fun hkT => hk (hT1 k hkT), nw1, agree1, S7.ln.symm⟩
  have nO8 : ¬ Own (u1 d2 (u dd L1)) σ4 Dl := fun w => nO3 (B1.own.mp w)
  have hD7 := T7.fr Dl _ hD6 gD6 nO3 pl_lst
  refine IfsD.run (.one bd) S8 _ fun G9 H9 S9 T9 => ?_
  have hD9 := T9.fr Dl _ hD7.1 hD7.2 nO8 pl_lst
  cases htk : t dd d2 with
  | false =>
    refine iteF ⟨by omega, G9, acc6, (g56.trans T7.g).trans T9.g, B1.back S9, T6.trans (B0.te (T7.trans (B1.te T9))), hD9.1, hD9.2, ?_⟩
    rw [eR2, htk]
    simp only [Bool.false_eq_true, if_false, List.append_nil]
    exact racc6.up (T7.g.trans T9.g)
  | true =>
    obtain ⟨te, pe, run⟩ := ed htk
    refine iteT ⟨te, pe, run σ4 G9 H9 S9 _ fun v GA HA SA TA rA => ?_⟩
    have hDA := TA.fr Dl _ hD9.1 hD9.2 nO8 pl_lst
    have SB := B1.back SA
    have TB := T6.trans (B0.te (T7.trans (B1.te (T9.trans TA))))
    refine ⟨acc6, hDA.1, acc_lt l6, by omega, GA, acc6 ++ [v], ((g56.trans T7.g).trans T9.g).trans TA.g, ?_, ?_, upd_same, hDA.2, ?_⟩
    · refine ⟨fun b o hb => ?_, SB.ln, fun k x t e1 e2 => ?_, SB.di⟩
      · rw [upd_ne]
        · exact SB.gh b o hb
        · rintro rfl
          rw [hDA.2] at hb
          cases hb
      · have qs := SB.sl k x t e1 e2
        cases t with
        | no => exact qs
        | va d => exact qs
        | ow us =>
          obtain ⟨a, ys, e, q1, q2, q3⟩ := qs
          subst e
          refine ⟨a, ys, rfl, ?_, q2, q3⟩
          rw [upd_ne]
          · exact q1
          · rintro rfl
            exact nO3 ⟨k, us, e2, e1⟩
        | tb => exact Thr.tabs (.put hDA.1) qs
        | fn f G1 => exact qs
    · refine ⟨TB.g, fun b o hb gb nb nt => ?_, TB.ow, TB.th.trans (.put hDA.1)⟩
      obtain ⟨q1, q2⟩ := TB.fr b o hb gb nb nt
      refine ⟨?_, q2⟩
      rw [upd_ne (ne_of_none hb hD)]
      exact q1
    · rw [eR2, htk]
      simp only [if_true]
      rw [← List.append_assoc]
      exact (racc6.up ((T7.g.trans T9.g).trans TA.g)).app (.one rA)
end
end DL
namespace DL
open PySem PyProof.Rows L2
variable [TabL]
section
variable {z : List Nat} {F : Fam} {e e1 e2 a b c tg iter elt : Expr} {L L1 L2' L' L3 : List Sl} {d d1 d2 : PyData} {ds its rs : List PyData} {x : Str} {pos p : Pos} {σ σ' : L2.St} {G H G' H' : Hp}
/-! ### dicts of whole numbers -/
def kvD (kvs : List (Int × Int)) : List (PyData × PyData) := kvs.map fun q => (PyData.int q.1, PyData.int q.2)
def kvV (kvs : List (Int × Int)) : List (Key × V) := kvs.map fun q => (Sum.inl q.1, V.int q.2)
def kvT (q : Int × Int) : PyData := .tuple [.int q.1, .int q.2]
theorem merge_new : ∀ (more done : List (Int × Int)), ((done ++ more).map (·.1)).Nodup → mergeK (kvV done) (kvV more) = kvV (done ++ more)
  | [], done, _ => by
    rw [List.append_nil]
    rfl
  | q :: more, done, h => by
    have e : putK (kvV done) (Sum.inl q.1) (V.int q.2) = kvV (done ++ [q]) := by
      unfold putK
      rw [if_neg]
      · unfold kvV
        rw [List.map_append]
        rfl
      · intro hh
        obtain ⟨w, hw, e⟩ := List.any_eq_true.mp hh
        obtain ⟨u, hu, rfl⟩ := List.mem_map.mp hw
        have e2 : u.1 = q.1 := by
          have := of_decide_eq_true e
          exact Sum.inl.inj this
        rw [List.map_append, List.map_cons, List.nodup_append] at h
        exact h.2.2 u.1 (List.mem_map_of_mem hu) q.1 (List.mem_cons_self ..) e2
    have ih := merge_new more (done ++ [q]) (by rw [List.append_assoc]; exact h)
    rw [List.append_assoc] at ih
    show mergeK (putK (kvV done) (Sum.inl q.1) (V.int q.2)) (kvV more) = _
    rw [e]
    exact ih
theorem pairsP {K : PySem.W.Frag} {H : Hp} : ∀ {kvs : List (Int × Int)} {xs : List V}, RpA H xs (kvs.map kvT) → ∃ ps : List Addr, xs = ps.map V.ref ∧ Paired (fun p (kv : Key × V) => SqT K H p [kV kv.1, kv.2]) ps (kvV kvs)
  | [], _, .nil => ⟨[], rfl, .nil⟩
  | q :: kvs, _, .cons r t => by
    obtain ⟨ps, e, pr⟩ := pairsP (K := K) t
    cases r with
    | @tup a ys _ h1 h2 =>
      refine ⟨a :: ps, by rw [e]; rfl, .cons ?_ pr⟩
      cases h2 with
      | cons r1 t1 =>
        cases r1
        cases t1 with
        | cons r2 t2 =>
          cases r2
          cases t2
          exact SqT.of h1
theorem dictf (F : Fam) (j : F.J) : CallR (F.x j) (.type "dict") (fun xs H Q => ∃ (a : Addr) (ps : List Addr) (kvs : List (Key × V)), xs = [.ref a] ∧ SqL F.K H a (ps.map V.ref) ∧ Paired (fun p kv => SqT F.K H p [kV kv.1, kv.2]) ps kvs ∧
    ∀ p, H p = none → Q (.ref p) (upd H p (.dK (mergeK [] kvs)))) := by
  rw [← F.hK j]
  exact call_dictP (F.hc j)
theorem ed_dict {kvs : List (Int × Int)} (h : ED F e L (.list (kvs.map kvT)) L') (nd : (kvs.map (·.1)).Nodup) (hm : F.mg "dict" = none) (hg : GlF F "dict" := by rfl) (hs : ∀ env, starEach [e] env = (false, eval e env) :: starEach [] env := by intro _; rfl) : ED F (.Call (.Name "dict" p) [e] [] pos) L (.dict (kvD kvs)) L' := by
  obtain ⟨te, pe, run⟩ := h
  refine ⟨_, ty_any (dictf F) hg hm (by decide +kernel) (pa1 pe hs) (by decide) (by decide) hs (fun _ => rfl), fun σ G H S Q q => run σ G H S _ fun v G' H' S' T r => ?_⟩
  cases r with
  | @lst a xs _ h1 h2 =>
    obtain ⟨ps, e, pr⟩ := pairsP (K := F.K) (h2.up S'.gh)
    refine ⟨a, ps, kvV kvs, rfl, SqL.of (by rw [S'.gh _ _ h1, e]), pr, fun p0 hp => ?_⟩
    have em := merge_new kvs [] nd
    rw [List.nil_append] at em
    rw [show mergeK [] (kvV kvs) = kvV kvs from em]
    obtain ⟨S2, T2⟩ := S'.newG (o := .dK (kvV kvs)) hp
    exact q _ _ _ S2 (T.trans T2) (.dct kvs upd_same)
theorem valV_get {kvs : List (Int × Int)} {k v : Int} (nd : (kvs.map (·.1)).Nodup) (h : (k, v) ∈ kvs) : valV (kvV kvs) (Sum.inl k) = some (V.int v) := by
  induction kvs with
  | nil => cases h
  | cons q kvs ih =>
    rw [List.map_cons, List.nodup_cons] at nd
    rcases List.mem_cons.mp h with h | h
    · subst h
      unfold valV kvV
      simp
    · have hne : q.1 ≠ k := fun e => nd.1 (by rw [e]; exact List.mem_map_of_mem (f := fun x : Int × Int => x.1) h)
      have := ih nd.2 h
      unfold valV kvV at this ⊢
      rw [List.map_cons, List.find?_cons]
      have : decide ((Sum.inl q.1 : Key) = Sum.inl k) = false := by
        rw [decide_eq_false]
        intro e
        exact hne (Sum.inl.inj e)
      rw [this]
      assumption
theorem kvD_inj : ∀ {a b : List (Int × Int)}, kvD a = kvD b → a = b
  | [], [], _ => rfl
  | [], _ :: _, h => by cases h
  | _ :: _, [], h => by cases h
  | q2 :: l2, q :: l, h2 => by
    unfold kvD at h2
    rw [List.map_cons, List.map_cons, List.cons.injEq, Prod.mk.injEq] at h2
    obtain ⟨⟨h3, h4⟩, h5⟩ := h2
    have e1 : q2 = q := Prod.ext (PyData.int.inj h3) (PyData.int.inj h4)
    rw [e1, kvD_inj (a := l2) (b := l) h5]
theorem ed_ixD {kvs : List (Int × Int)} {k v : Int} (ha : ED F a L (.dict (kvD kvs)) L1) (hb : ED F b L1 (.int k) L') (nd : (kvs.map (·.1)).Nodup) (h : (k, v) ∈ kvs) (hs : NoSl b := by exact fun _ _ => rfl) : ED F (.Subscript a b pos) L (.int v) L' := by
  obtain ⟨ta, pa, ra⟩ := ha
  obtain ⟨tb, pb, rb⟩ := hb
  refine ⟨_, fun j => pe_dget (by have := (F.hr j).un; omega) (pa j) (pb j) hs, fun σ G H S Q q => ra σ G H S _ fun x G1 H1 S1 T1 r1 => rb σ G1 H1 S1 _ fun y G2 H2 S2 T2 r2 => ?_⟩
  cases r2
  generalize hd : PyData.dict (kvD kvs) = dd at r1
  cases r1 with
  | @dct a0 kvs2 h1 =>
    have e : kvs2 = kvs := kvD_inj (PyData.dict.inj hd).symm
    rw [e] at h1
    refine ⟨a0, V.int v, rfl, ?_, q _ _ _ S2 (T1.trans T2) (.int v)⟩
    have := DGet.k (k := Sum.inl k) (S2.gh _ _ (T2.g _ _ h1))
    rw [show valV (kvs.map fun q => ((Sum.inl q.1 : Key), V.int q.2)) (Sum.inl k) = some (V.int v) from valV_get nd h] at this
    exact this
  | dcs kvs2 h1 =>
    cases kvs with
    | nil => cases h
    | cons q l =>
      have h2 := PyData.dict.inj hd
      cases kvs2 with
      | nil => simp [kvD] at h2
      | cons q2 l2 => simp [kvD] at h2
  | exc =>
    cases kvs with
    | nil => cases hd
    | cons q l =>
      have h2 := PyData.dict.inj hd
      simp [kvD] at h2
  | _ => cases hd
end
end DL
namespace DL
open PySem PyProof.Rows L2
variable [TabL]

/-! ### from a context that lets nothing out to one that does -/
section
variable {X : Cx}
theorem pg_nox {e : Expr} {t : TG} (h : PG X.nox e t) : PG X e t := ⟨fun pins s σ H v u Q I r hw =>
  wpAny_mono (h.run pins s σ H v u Q (I.wish _) r hw) (fun _ _ ⟨σ', H', I', q⟩ => ⟨σ', H', I'.unwish, q⟩) fun _ _ z => False.elim z⟩
theorem pi_nox {tg e : Expr} {wi : TI} (h : PI X.nox tg e wi) : PI X tg e wi := ⟨fun pins s σ H R I hw =>
  wpAny_mono (h.run pins s σ H R (I.wish _) hw) (fun _ _ z => wpAny_mono z (fun _ _ ⟨it, fp, tn, J, H', e, I', T, t0, f, r⟩ => ⟨it, fp, tn, J, H', e, I'.unwish, T, t0, fun b hb => f b hb, r⟩) fun _ _ z => False.elim z) fun _ _ z => False.elim z⟩
theorem ps_nox {st : Stmt} {t : TS} (h : PS X.nox st t) : PS X st t := ⟨fun pins s σ H D I hw =>
  wpAny_mono (h.run pins s σ H D (I.wish _) hw) (fun _ _ q => q.unwish) fun _ _ z => False.elim z⟩
theorem pa_nox {es : List Expr} {t : TA} (h : PA X.nox es t) : PA X es t := ⟨fun pos pins s σ H Q I hw =>
  wpAny_mono (h.run pos pins s σ H Q (I.wish _) hw) (fun _ _ ⟨vs, H', I', r, q⟩ => ⟨vs, H', I'.unwish, r, q⟩) fun _ _ z => False.elim z⟩
theorem pk_nox {es : List Keyword} {t : TA} (h : PK X.nox es t) : PK X es t := ⟨fun pos pins s σ H Q I hw =>
  wpAny_mono (h.run pos pins s σ H Q (I.wish _) hw) (fun _ _ ⟨vs, H', I', r, q⟩ => ⟨vs, H', I'.unwish, r, q⟩) fun _ _ z => False.elim z⟩
theorem pss_no (X : Cx) (b : List Stmt) : PSs X b (fun _ _ _ => False) := ⟨fun _ _ _ _ _ _ h => h.elim⟩
theorem ps_no (X : Cx) (b : Stmt) : PS X b (fun _ _ _ => False) := ⟨fun _ _ _ _ _ _ h => h.elim⟩
theorem pg_no (X : Cx) (e : Expr) : PG X e (fun _ _ _ _ => False) := ⟨fun _ _ _ _ _ _ _ _ _ h => h.elim⟩
end

/-! ### what is raised -/
/-- the class stands at C; the error's field f holds d -/
structure Er where
  C : Addr
  f : Str
  d : PyData
def ErOk (G : Hp) (er : Er) (cls : Value) (dd : Option Addr) : Prop := cls = .ref er.C ∧ ∃ a v, dd = some a ∧ G a = some (.xd [(er.f, v)]) ∧ Rp G v er.d
theorem ErOk.up {G G' : Hp} {er : Er} {cls : Value} {dd : Option Addr} (h : ErOk G er cls dd) (e : Same G G') : ErOk G' er cls dd := by
  obtain ⟨h1, a, v, h2, h3, h4⟩ := h
  exact ⟨h1, a, v, h2, e _ _ h3, h4.up e⟩
/-- a def that raises -/
def spE (Φ : List PyData → Er → Prop) : Sp := fun vs H _ E => ∃ ds er G, Φ ds er ∧ Same G H ∧ RpA G vs ds ∧ ∀ cls dd G' H', Aft N0 G H G' H' → ErOk G' er cls dd → E cls dd H'

/-- a def's promise with its raising, where no repr is under way -/
structure FnE (P : Program) (w : World) (K : PySem.W.Frag) (mg : Str → Option Value) (base : Heap) (k : Nat) (f : Addr) (fd : FuncData) (ps : List Str) (sp : Sp) : Prop where
  len : ∀ vs H Q E, sp vs H Q E → vs.length = ps.length
  go : ∀ (A : Around) (outer : List Env) (s : Shared) (H : Hp) (args : Args) (us : List Value) (vs : List V) (Q : VK) (E : XK), A.guards = some [] → Room k A → Env0 P w K mg base A outer s H → BindsTo s fd args (ps.zip us) → Vals vs us → sp vs H Q E →
    codeAny (model P w) A (.call (.ref f) args) (CR (L2.CX P w) outer P w H s Q E) s
section
variable {P : Program} {w : World} {K : PySem.W.Frag} {mg : Str → Option Value} {base : Heap} {j k : Nat} {f : Addr} {fd : FuncData} {ps : List Str} {sp : Sp}
theorem FnE.up (h : FnE P w K mg base j f fd ps sp) (le : j ≤ k) : FnE P w K mg base k f fd ps sp :=
  ⟨h.len, fun A outer s H args us vs Q E g r => h.go A outer s H args us vs Q E g (r.mono le)⟩
end
theorem runE {X : Cx} {W : WX} {k : Nat} {f : Addr} {fd : FuncData} {ps : List Str} {sp : Sp} {pins : List (Addr × Obj)} {σ : L2.St} {H : Hp} {s : Shared} {Q : VK} {us ws : List Value} {kw : List (Str × Value)} {vs : List V}
    (Fn : FnE X.prog X.w X.K X.mg X.base k f fd ps sp) (tk : Takes X W) (hg : X.A.guards = some []) (hr : Room k X.A) (I : Inv X pins σ H s) (hb : BindsTo s fd ⟨us, kw⟩ (ps.zip ws)) (r : Vals vs ws) (h : sp vs H Q (WE W σ)) :
    wpAny (model X.prog X.w) X.A (call (.ref f) us kw) (EP X pins σ Q) X.xe s := by
  have c := Fn.go X.A X.stack s H ⟨us, kw⟩ ws vs Q (WE W σ) hg hr I.env0 hb r h
  refine wpAny_call (codeAny_mono c fun res t ht => ?_)
  match res, ht with
  | .ok (.ret u), ht => exact I.after ht
  | .ok .next, ht => exact ht.elim
  | .ok .brk, ht => exact ht.elim
  | .ok .cont, ht => exact ht.elim
  | .error e, ht => exact passAt tk σ pins H s e t I ht
/-- a def by its body -/
theorem fnE_of {P : Program} {w : World} {K : PySem.W.Frag} {mg : Str → Option Value} {base : Heap} {k : Nat} {f : Addr} {fname qual : Str} {params : Arguments} {body : List Stmt} {scope : Scope} {dV kV doc pm cdv ct oc : Value} {an od : Option Addr} {osl : Array (Option Value)} {N ps : List Str} {sp : Sp}
    (lk : K.lookup f = some ⟨oc, od, .func (PySem.W.fnOf fname qual params body scope dV kV doc pm an cdv ct), osl⟩) (hcd : PySem.W.codeIn K cdv qual = true) (S : FnScope N ps scope) (len : ∀ vs H Q E, sp vs H Q E → vs.length = ps.length)
    (hbody : ∀ (A : Around) (outer : List Env) (s : Shared) (H : Hp) (vs : List V) (Q : VK) (E : XK), A.guards = some [] → Room k (A.deeper (PyProof.Rows.envOfC qual scope s.heap.objs.size f cdv)) → sp vs H Q E →
      ∃ t, PSs (cxOf (L2.CX P w) P w K mg base N qual scope f cdv A outer s H E) body t ∧ t { nx := fun _ H' => Q .non H', rt := Q } (start N vs) H) :
    FnE P w K mg base (k + 1) f (PySem.W.fnOf fname qual params body scope dV kV doc pm an cdv ct) ps sp := by
  constructor
  · exact len
  intro A outer s H args us vs Q E hg hr e0 hb r hsp
  have bk : ∀ b o, base.get? b = some o → s.heap.get? b = some o := fun b o e => (e0.bs b o e).1
  have inK := e0.mod.kin.keeps bk
  have kinds : ∀ y ∈ ps.zip us, scope.names.lookup y.1 = some .local ∨ (scope.names.lookup y.1 = some .cell ∧ ((cellsFrom (s.heap.objs.size + 1) scope.names []).lookup y.1).isSome = true) := by
    rintro ⟨n, v⟩ hy
    have hn := (List.of_mem_zip hy).1
    cases S.par n hn with
    | inl q => exact .inl q
    | inr q => exact .inr ⟨q, PySem.W.cellsFrom_some _ _ _ (.inl q)⟩
  apply codeAny_call_function hr.depth (inK _ _ lk) rfl S.co S.gen rfl (PySem.W.codeRec_of inK hcd)
  apply hb
  apply wpAny_newFunctionEnv_cells S.kind kinds
  rintro env rfl s1 x
  refine ⟨(e0.mod.nolimit.keeps bk).keeps x.toInCall.keep, codeAny_func ?_⟩
  obtain ⟨t, ht, hq⟩ := hbody A outer s H vs Q E hg (hr.deeper _) hsp
  have I := inv_start (CX := L2.CX P w) (P := P) (N := N) (qual := qual) (f := f) (cd := cdv) (E := E) S hr.hd e0 (len _ _ _ _ hsp) r x
  have run := ht.run [] s1 (start N vs) H _ I hq
  refine wpAny_mono run (fun fl t2 h2 => ?_) fun e t2 h2 => h2
  match fl, h2 with
  | .ret u, ⟨v, σ2, H2, J, rv, q⟩ => exact ⟨v, H2, J.os, J.bare, J.base, J.hok, rv, q⟩
  | .next, ⟨σ2, H2, J, q⟩ => exact ⟨.non, H2, J.os, J.bare, J.base, J.hok, rfl, q⟩
  | .brk, ⟨_, _, _, q⟩ => exact q.elim
  | .cont, ⟨_, _, _, q⟩ => exact q.elim

/-! ### families that let something out -/
structure FamW where
  F : Fam
  W : F.J → WX
  y : F.J → Cx
  hy : ∀ j, (y j).nox = F.x j
  hst : ∀ j, (y j).stack = (y j).env :: (y j).outer
  hfr : ∀ j, (y j).env.frame = some (y j).env.locals
  hex : ∀ j, (y j).ex = []
  po : ∀ j, PassesOwn (model (y j).prog (y j).w) (y j).A (y j).env (y j).xe
  tk : ∀ j, Takes (y j) (W j)
section
variable {Y : FamW}
theorem FamW.pe {e : Expr} {t : TE} (h : PEf Y.F e t) (j : Y.F.J) : PE (Y.y j) e t := by
  have := h j
  rw [← Y.hy j] at this
  exact this.nox
theorem FamW.pt {e : Expr} {t : TT} (h : PTf Y.F e t) (j : Y.F.J) : PT (Y.y j) e t := by
  have := h j
  rw [← Y.hy j] at this
  exact this.nox
theorem FamW.pa {e : List Expr} {t : TA} (h : PAf Y.F e t) (j : Y.F.J) : PA (Y.y j) e t := by
  have := h j
  rw [← Y.hy j] at this
  exact pa_nox this
theorem FamW.pk {e : List Keyword} {t : TA} (h : ∀ j, PK (Y.F.x j) e t) (j : Y.F.J) : PK (Y.y j) e t := by
  have := h j
  rw [← Y.hy j] at this
  exact pk_nox this
theorem FamW.ps {e : Stmt} {t : TS} (h : PSf Y.F e t) (j : Y.F.J) : PS (Y.y j) e t := by
  have := h j
  rw [← Y.hy j] at this
  exact ps_nox this
theorem FamW.pg {e : Expr} {t : TG} (h : PGf Y.F e t) (j : Y.F.J) : PG (Y.y j) e t := by
  have := h j
  rw [← Y.hy j] at this
  exact pg_nox this
theorem FamW.pi {tg e : Expr} {t : TI} (h : PIf Y.F tg e t) (j : Y.F.J) : PI (Y.y j) tg e t := by
  have := h j
  rw [← Y.hy j] at this
  exact pi_nox this
theorem FamW.hK (j : Y.F.J) : (Y.y j).K = Y.F.K := by
  have := Y.F.hK j
  rw [← Y.hy j] at this
  exact this
theorem FamW.hmg (j : Y.F.J) : (Y.y j).mg = Y.F.mg := by
  have := Y.F.hmg j
  rw [← Y.hy j] at this
  exact this
theorem FamW.hP (j : Y.F.J) : (Y.y j).prog = Y.F.P := by
  have := Y.F.hP j
  rw [← Y.hy j] at this
  exact this
theorem FamW.hw (j : Y.F.J) : (Y.y j).w = Y.F.w := by
  have := Y.F.hw j
  rw [← Y.hy j] at this
  exact this
theorem FamW.hbase (j : Y.F.J) : (Y.y j).base = Y.F.base := by
  have := Y.F.hbase j
  rw [← Y.hy j] at this
  exact this
theorem FamW.hc (j : Y.F.J) : (Y.y j).calm = true := by
  have := Y.F.hc j
  rw [← Y.hy j] at this
  exact this
theorem FamW.hr (j : Y.F.J) : Room Y.F.k (Y.y j).A := by
  have := Y.F.hr j
  rw [← Y.hy j] at this
  exact this
theorem FamW.hg (j : Y.F.J) : (Y.y j).A.guards = some [] := by
  have := Y.F.hg j
  rw [← Y.hy j] at this
  exact this
theorem FamW.gl {x : Str} (h : GlF Y.F x) (j : Y.F.J) : Gl (Y.y j) x := by
  have := h.gl j
  rw [← Y.hy j] at this
  exact this
end

/-! ### judgements: it raises er; L' tells the slots then -/
section
variable (Y : FamW)
def XeD (e : Expr) (L : List Sl) (er : Er) (L' : List Sl) : Prop := ∃ te : Y.F.J → TE, (∀ j, PE (Y.y j) e (te j)) ∧ ∀ j σ G H, Sta L σ G H → ∀ Q : VK, (∀ cls dd G' H', Sta L' σ G' H' → Te L σ G H L' G' H' → ErOk G' er cls dd → Y.W j cls dd σ H') → te j σ H Q
def XD (st : Stmt) (L : List Sl) (er : Er) (L' : List Sl) : Prop := ∃ ts : Y.F.J → TS, (∀ j, PS (Y.y j) st (ts j)) ∧ ∀ j σ G H, Sta L σ G H → ∀ D : Ends, (∀ cls dd σ' G' H', Sta L' σ' G' H' → Ts L σ G H L' σ' G' H' → ErOk G' er cls dd → Y.W j cls dd σ' H') → ts j D σ H
def XsD (b : List Stmt) (L : List Sl) (er : Er) (L' : List Sl) : Prop := ∃ ts : Y.F.J → TS, (∀ j, PSs (Y.y j) b (ts j)) ∧ ∀ j σ G H, Sta L σ G H → ∀ D : Ends, (∀ cls dd σ' G' H', Sta L' σ' G' H' → Ts L σ G H L' σ' G' H' → ErOk G' er cls dd → Y.W j cls dd σ' H') → ts j D σ H
end
section
variable {Y : FamW} {z : List Nat} {e a b c : Expr} {es : List Expr} {s : Stmt} {sts sa sb : List Stmt} {L L1 L2' L' : List Sl} {er : Er} {d : PyData} {ds ds2 : List PyData} {pos p : Pos} {x : Str}
theorem xs_hd (h : XD Y s L er L') : XsD Y (s :: sts) L er L' := by
  obtain ⟨ts, ps, run⟩ := h
  exact ⟨fun j => tSeq (ts j) (fun _ _ _ => False), fun j => pss_cons (ps j) (pss_no _ _), fun j σ G H S D q => run j σ G H S _ q⟩
theorem xs_tl (h : SD z Y.F s L (.nx L1)) (h2 : XsD Y sts L1 er L') : XsD Y (s :: sts) L er L' := by
  obtain ⟨ts, ps, run⟩ := h
  obtain ⟨us, pu, run2⟩ := h2
  refine ⟨fun j => tSeq ts (us j), fun j => pss_cons (Y.ps ps j) (pu j), fun j σ G H S D q => run σ G H S _ fun σ1 G1 H1 S1 T1 _ => ?_⟩
  exact run2 j σ1 G1 H1 S1 D fun cls dd σ' G' H' S' T' r => q cls dd σ' G' H' S' (T1.trans S1.gh T') r
theorem x_if {k : Bool} (h : BD Y.F c L k L1) (h1 : k = true → XsD Y sa L1 er L') (h2 : k = false → XsD Y sb L1 er L') : XD Y (.If c sa sb pos) L er L' := by
  obtain ⟨tc, pc, run⟩ := h
  cases k with
  | true =>
    obtain ⟨ts, ps, run1⟩ := h1 rfl
    refine ⟨fun j => tIfS tc (ts j) (fun _ _ _ => False), fun j => ps_if (Y.pt pc j) (ps j) (pss_no _ _), fun j σ G H S D q => run σ G H S _ fun G1 H1 S1 T1 => ?_⟩
    exact iteT (run1 j σ G1 H1 S1 D fun cls dd σ' G' H' S' T' r => q cls dd σ' G' H' S' (T1.ts.trans S1.gh T') r)
  | false =>
    obtain ⟨ts, ps, run1⟩ := h2 rfl
    refine ⟨fun j => tIfS tc (fun _ _ _ => False) (ts j), fun j => ps_if (Y.pt pc j) (pss_no _ _) (ps j), fun j σ G H S D q => run σ G H S _ fun G1 H1 S1 T1 => ?_⟩
    exact iteF (run1 j σ G1 H1 S1 D fun cls dd σ' G' H' S' T' r => q cls dd σ' G' H' S' (T1.ts.trans S1.gh T') r)
theorem x_expr (h : XeD Y e L er L') (hsw : ∀ env, swapsWith e none pos.line env = pure false := by intro _; rfl) : XD Y (.Expr e pos) L er L' := by
  obtain ⟨te, pe, run⟩ := h
  exact ⟨fun j => tDrop (te j), fun j => ps_expr (pe j) (hsw _), fun j σ G H S D q => run j σ G H S _ fun cls dd G' H' S' T' r => q cls dd σ G' H' S' T'.ts r⟩
theorem x_ret (h : XeD Y e L er L') : XD Y (.Return (some e) pos) L er L' := by
  obtain ⟨te, pe, run⟩ := h
  exact ⟨fun j => tRet (te j), fun j => ps_ret (pe j), fun j σ G H S D q => run j σ G H S _ fun cls dd G' H' S' T' r => q cls dd σ G' H' S' T'.ts r⟩
theorem x_asg {tg : Expr} (h : XeD Y e L er L') (hs : ∀ j, swapsWithSole [tg] e pos.line (Y.y j).env = pure false := by intro _; rfl) (hw : ∀ j, swappedStores [tg] e (Y.y j).env = pure none := by intro _; rfl) (h1 : ∀ env, (assignEach [tg] env).map (·.2) = [assign tg env] := by intro _; rfl) : XD Y (.Assign [tg] e pos) L er L' := by
  obtain ⟨te, pe, run⟩ := h
  exact ⟨fun j => tAsg (te j) (fun _ _ _ _ => False), fun j => ps_asg (pe j) (pg_no _ _) (hs j) (hw j) (h1 _), fun j σ G H S D q => run j σ G H S _ fun cls dd G' H' S' T' r => q cls dd σ G' H' S' T'.ts r⟩
end
end DL
namespace DL
open PySem PyProof.Rows L2
variable [TabL]

/-! ### calls that raise -/
/-- a def that raises, as it may be called by place -/
structure De (P : Program) (w : World) (K : PySem.W.Frag) (mg : Str → Option Value) (base : Heap) (x : Str) (k : Nat) (sp : Sp) : Prop where
  ex : ∃ f fd ps, FnE P w K mg base k f fd ps sp ∧ mg x = some (.ref f) ∧ PySem.W.keepIn K (.ref f) = true ∧ ∀ (s : Shared) (us : List Value), K.In s.heap → us.length = ps.length → BindsTo s fd ⟨us, []⟩ (ps.zip us)
structure Dke (P : Program) (w : World) (K : PySem.W.Frag) (mg : Str → Option Value) (base : Heap) (x : Str) (k : Nat) (n : Nat) (ks : List Str) (g : List Value → List Value) (gV : List V → List V) (gD : List PyData → List PyData) (sp : Sp) : Prop where
  ex : ∃ f fd ps, FnE P w K mg base k f fd ps sp ∧ mg x = some (.ref f) ∧ PySem.W.keepIn K (.ref f) = true ∧ ∀ (s : Shared) (us ws : List Value), K.In s.heap → us.length = n → ws.length = ks.length → BindsTo s fd ⟨us, ks.zip ws⟩ (ps.zip (g (us ++ ws)))
  vals : ∀ (vs : List V) (us : List Value), vs.length = n + ks.length → Vals vs us → Vals (gV vs) (g us)
  data : ∀ (G : Hp) (vs : List V) (ds : List PyData), vs.length = n + ks.length → RpA G vs ds → RpA G (gV vs) (gD ds)
theorem De.mono {P : Program} {w : World} {K : PySem.W.Frag} {mg : Str → Option Value} {base : Heap} {x : Str} {j k : Nat} {sp : Sp} (D : De P w K mg base x j sp) (h : j ≤ k := by exact Nat.le_of_ble_eq_true rfl) : De P w K mg base x k sp := by
  obtain ⟨f, fd, ps, F, q⟩ := D.ex
  exact ⟨f, fd, ps, F.up h, q⟩
theorem Dke.mono {P : Program} {w : World} {K : PySem.W.Frag} {mg : Str → Option Value} {base : Heap} {x : Str} {j k n : Nat} {ks : List Str} {g : List Value → List Value} {gV : List V → List V} {gD : List PyData → List PyData} {sp : Sp} (D : Dke P w K mg base x j n ks g gV gD sp) (h : j ≤ k := by exact Nat.le_of_ble_eq_true rfl) : Dke P w K mg base x k n ks g gV gD sp := by
  obtain ⟨f, fd, ps, F, q⟩ := D.ex
  exact ⟨⟨f, fd, ps, F.up h, q⟩, D.vals, D.data⟩
abbrev FamW.De (Y : FamW) (x : Str) (sp : Sp) : Prop := DL.De Y.F.P Y.F.w Y.F.K Y.F.mg Y.F.base x Y.F.k sp
abbrev FamW.Dke (Y : FamW) (x : Str) (n : Nat) (ks : List Str) (g : List Value → List Value) (gV : List V → List V) (gD : List PyData → List PyData) (sp : Sp) : Prop := DL.Dke Y.F.P Y.F.w Y.F.K Y.F.mg Y.F.base x Y.F.k n ks g gV gD sp

section
variable {Y : FamW} {z : List Nat} {e a b c tg iter : Expr} {es : List Expr} {s : Stmt} {sts sa sb : List Stmt} {L L1 L2' L' : List Sl} {er : Er} {d : PyData} {ds ds2 its : List PyData} {pos p p2 : Pos} {x : Str}
theorem calle_any {sp : Sp} {ta : TA} (D : Y.De x sp) (hg : GlF Y.F x) (pa : PAf Y.F (e :: es) ta) (hdb : (x == ("__debug__" : Str)) = false) (he : ∀ env, starEach (e :: es) env = (false, eval e env) :: starEach es env) (hpl : ∀ env, (backTo pos (starEach es env)).any (·.1) = false) (j : Y.F.J) :
    PE (Y.y j) (.Call (.Name x p) (e :: es) [] pos) (fun σ H Q => ta σ H fun vs H1 => sp vs H1 Q (WE (Y.W j) σ)) := by
  obtain ⟨f, fd, ps, Fn, mf, kp, hb⟩ := D.ex
  have Fj : FnE (Y.y j).prog (Y.y j).w (Y.y j).K (Y.y j).mg (Y.y j).base Y.F.k f fd ps sp := by
    rw [Y.hP, Y.hw, Y.hK, Y.hmg, Y.hbase]
    exact Fn
  refine ⟨fun pins s σ H Q I h => ?_⟩
  refine wpAny_Call_Name_kw (ld_glob I (Y.gl hg j) (by rw [Y.hmg]; exact mf) ?_ hdb)
  refine PySem.W.callWith_K (K := Y.F.K) (h₀ := (Y.y j).base) (by rw [← Y.hK j]; exact I.ok.mod.kin) kp (thn ((Y.pa pa j).run pos pins s σ H _ I h) fun us s1 ⟨vs, H1, I1, r, q⟩ => ?_) (he _) (hpl _)
  have inK : Y.F.K.In s1.heap := by
    rw [← Y.hK j]
    exact I1.kIn
  refine ⟨inK, ?_⟩
  exact runE Fj (Y.tk j) (Y.hg j) (Y.hr j) I1 (hb s1 us inK (by rw [← r.length]; exact Fn.len _ _ _ _ q)) r q
theorem callKe_any {sp : Sp} {ta tk : TA} {n : Nat} {ks : List Str} {g : List Value → List Value} {gV : List V → List V} {gD : List PyData → List PyData} {kws : List Keyword} (D : Y.Dke x n ks g gV gD sp) (hg : GlF Y.F x) (pa : PAf Y.F (e :: es) ta) (pk : ∀ j, PK (Y.F.x j) kws tk) (hdb : (x == ("__debug__" : Str)) = false)
    (he : ∀ env, starEach (e :: es) env = (false, eval e env) :: starEach es env) (hall : ∀ env, (backToKw pos (keywordEach kws env)).all (·.1.isSome) = true) (hks : ∀ env, (backToKw pos (keywordEach kws env)).filterMap (·.1) = ks)
    (hpl : ∀ env, ((backTo pos (starEach (e :: es) env)).any (·.1) || (backToKw pos (keywordEach kws env)).any (·.1.isNone)) = false) (j : Y.F.J) :
    PE (Y.y j) (.Call (.Name x p) (e :: es) kws pos) (fun σ H Q => ta σ H fun vs H1 => tk σ H1 fun zs H2 => vs.length = n ∧ zs.length = ks.length ∧ sp (gV (vs ++ zs)) H2 Q (WE (Y.W j) σ)) := by
  obtain ⟨f, fd, ps, Fn, mf, kp, hb⟩ := D.ex
  have Fj : FnE (Y.y j).prog (Y.y j).w (Y.y j).K (Y.y j).mg (Y.y j).base Y.F.k f fd ps sp := by
    rw [Y.hP, Y.hw, Y.hK, Y.hmg, Y.hbase]
    exact Fn
  refine ⟨fun pins s σ H Q I h => ?_⟩
  refine wpAny_Call_Name_kw (ld_glob I (Y.gl hg j) (by rw [Y.hmg]; exact mf) ?_ hdb)
  refine PySem.W.callWith_KW (K := Y.F.K) (h₀ := (Y.y j).base) (by rw [← Y.hK j]; exact I.ok.mod.kin) kp (hall _) (thn ((Y.pa pa j).run pos pins s σ H _ I h) fun us s1 ⟨vs, H1, I1, r, q⟩ => ?_) (hpl _) (he _)
  refine thn ((Y.pk pk j).run pos pins s1 σ H1 _ I1 q) fun ws s2 ⟨zs, H2, I2, rz, l1, l2, q2⟩ => ?_
  have inK : Y.F.K.In s2.heap := by
    rw [← Y.hK j]
    exact I2.kIn
  refine ⟨inK, ?_⟩
  rw [hks]
  exact runE Fj (Y.tk j) (Y.hg j) (Y.hr j) I2 (hb s2 us ws inK (by rw [← r.length]; exact l1) (by rw [← rz.length]; exact l2)) (D.vals _ _ (by rw [List.length_append, l1, l2]) (r.append rz)) q2
theorem callK0e_any {sp : Sp} {tk : TA} {ks : List Str} {g : List Value → List Value} {gV : List V → List V} {gD : List PyData → List PyData} {kws : List Keyword} (D : Y.Dke x 0 ks g gV gD sp) (hg : GlF Y.F x) (pk : ∀ j, PK (Y.F.x j) kws tk) (hdb : (x == ("__debug__" : Str)) = false)
    (hall : ∀ env, (backToKw pos (keywordEach kws env)).all (·.1.isSome) = true) (hks : ∀ env, (backToKw pos (keywordEach kws env)).filterMap (·.1) = ks)
    (hpl : ∀ env, ((backTo pos (starEach [] env)).any (·.1) || (backToKw pos (keywordEach kws env)).any (·.1.isNone)) = false) (j : Y.F.J) :
    PE (Y.y j) (.Call (.Name x p) [] kws pos) (fun σ H Q => tk σ H fun zs H2 => zs.length = ks.length ∧ sp (gV zs) H2 Q (WE (Y.W j) σ)) := by
  obtain ⟨f, fd, ps, Fn, mf, kp, hb⟩ := D.ex
  have Fj : FnE (Y.y j).prog (Y.y j).w (Y.y j).K (Y.y j).mg (Y.y j).base Y.F.k f fd ps sp := by
    rw [Y.hP, Y.hw, Y.hK, Y.hmg, Y.hbase]
    exact Fn
  refine ⟨fun pins s σ H Q I h => ?_⟩
  refine wpAny_Call_Name_kw (ld_glob I (Y.gl hg j) (by rw [Y.hmg]; exact mf) ?_ hdb)
  refine PySem.W.callWith_KW0 (K := Y.F.K) (h₀ := (Y.y j).base) (by rw [← Y.hK j]; exact I.ok.mod.kin) kp (hall _) (thn ((Y.pk pk j).run pos pins s σ H _ I h) fun ws s2 ⟨zs, H2, I2, rz, l2, q2⟩ => ?_) (hpl _)
  have inK : Y.F.K.In s2.heap := by
    rw [← Y.hK j]
    exact I2.kIn
  refine ⟨inK, ?_⟩
  rw [hks]
  exact runE Fj (Y.tk j) (Y.hg j) (Y.hr j) I2 (hb s2 [] ws inK rfl (by rw [← rz.length]; exact l2)) (D.vals _ _ (by rw [l2]; simp) rz) q2
theorem xe_call {Φ : List PyData → Er → Prop} (D : Y.De x (spE Φ)) (ha : AD Y.F (e :: es) L ds L') (hΦ : Φ ds er) (hg : GlF Y.F x := by rfl) (hdb : (x == ("__debug__" : Str)) = false := by decide)
    (he : ∀ env, starEach (e :: es) env = (false, eval e env) :: starEach es env := by intro _; rfl) (hpl : ∀ env, (backTo pos (starEach es env)).any (·.1) = false := by intro _; rfl) : XeD Y (.Call (.Name x p) (e :: es) [] pos) L er L' := by
  obtain ⟨ta, pa, ra⟩ := ha
  refine ⟨_, fun j => calle_any D hg pa hdb he hpl j, fun j σ G H S Q q => ra σ G H S _ fun vs G1 H1 S1 T1 r1 => ⟨ds, er, G1, hΦ, S1.gh, r1, fun cls dd G' H' A ok => ?_⟩⟩
  obtain ⟨S2, T2⟩ := S1.aft A
  exact q cls dd G' H' S2 (T1.trans T2) ok
theorem xe_callK {Φ : List PyData → Er → Prop} {n : Nat} {ks : List Str} {g : List Value → List Value} {gV : List V → List V} {gD : List PyData → List PyData} {kws : List Keyword} (D : Y.Dke x n ks g gV gD (spE Φ)) (ha : AD Y.F (e :: es) L ds L1) (hk : KD Y.F kws L1 ds2 L') (hΦ : Φ (gD (ds ++ ds2)) er) (hn : ds.length = n := by rfl) (hn2 : ds2.length = ks.length := by rfl) (hg : GlF Y.F x := by rfl) (hdb : (x == ("__debug__" : Str)) = false := by decide)
    (he : ∀ env, starEach (e :: es) env = (false, eval e env) :: starEach es env := by intro _; rfl) (hall : ∀ env, (backToKw pos (keywordEach kws env)).all (·.1.isSome) = true := by intro _; rfl) (hks : ∀ env, (backToKw pos (keywordEach kws env)).filterMap (·.1) = ks := by intro _; rfl)
    (hpl : ∀ env, ((backTo pos (starEach (e :: es) env)).any (·.1) || (backToKw pos (keywordEach kws env)).any (·.1.isNone)) = false := by intro _; rfl) : XeD Y (.Call (.Name x p) (e :: es) kws pos) L er L' := by
  obtain ⟨ta, pa, ra⟩ := ha
  obtain ⟨tk, pk, rk⟩ := hk
  refine ⟨_, fun j => callKe_any D hg pa pk hdb he hall hks hpl j, fun j σ G H S Q q => ra σ G H S _ fun vs G1 H1 S1 T1 r1 => rk σ G1 H1 S1 _ fun zs G2 H2 S2 T2 r2 => ⟨by rw [r1.len]; exact hn, by rw [r2.len]; exact hn2, _, er, G2, hΦ, S2.gh, D.data G2 _ _ (by rw [List.length_append, r1.len, r2.len, hn, hn2]) ((r1.up T2.g).app r2), fun cls dd G' H' A ok => ?_⟩⟩
  obtain ⟨S3, T3⟩ := S2.aft A
  exact q cls dd G' H' S3 ((T1.trans T2).trans T3) ok
theorem xe_callK0 {Φ : List PyData → Er → Prop} {ks : List Str} {g : List Value → List Value} {gV : List V → List V} {gD : List PyData → List PyData} {kws : List Keyword} (D : Y.Dke x 0 ks g gV gD (spE Φ)) (hk : KD Y.F kws L ds2 L') (hΦ : Φ (gD ds2) er) (hn2 : ds2.length = ks.length := by rfl) (hg : GlF Y.F x := by rfl) (hdb : (x == ("__debug__" : Str)) = false := by decide)
    (hall : ∀ env, (backToKw pos (keywordEach kws env)).all (·.1.isSome) = true := by intro _; rfl) (hks : ∀ env, (backToKw pos (keywordEach kws env)).filterMap (·.1) = ks := by intro _; rfl)
    (hpl : ∀ env, ((backTo pos (starEach [] env)).any (·.1) || (backToKw pos (keywordEach kws env)).any (·.1.isNone)) = false := by intro _; rfl) : XeD Y (.Call (.Name x p) [] kws pos) L er L' := by
  obtain ⟨tk, pk, rk⟩ := hk
  refine ⟨_, fun j => callK0e_any D hg pk hdb hall hks hpl j, fun j σ G H S Q q => rk σ G H S _ fun zs G2 H2 S2 T2 r2 => ⟨by rw [r2.len]; exact hn2, _, er, G2, hΦ, S2.gh, D.data G2 _ _ (by rw [r2.len, hn2]; simp) r2, fun cls dd G' H' A ok => ?_⟩⟩
  obtain ⟨S3, T3⟩ := S2.aft A
  exact q cls dd G' H' S3 (T2.trans T3) ok
/-- a comparison whose first side raises -/
theorem xe_cmp {op : CmpOp} {r : R2} (ho : ∀ j, OpR (Y.y j) (compareOp op) r) (h : XeD Y a L er L') (hm : behindInMarks op b = false := by rfl) : XeD Y (.Compare a [op] [b] pos) L er L' := by
  obtain ⟨te, pe, run⟩ := h
  exact ⟨_, fun j => pe_cmpR (ho j) (pe j) (pe_no _ b) hm, fun j σ G H S Q q => run j σ G H S _ q⟩
theorem xe_isN {j0 : Nat} {pos' : Pos} (h : XeD Y a L er L') : XeD Y (.Compare a [.Is] [.Constant .none j0 pos'] pos) L er L' := xe_cmp (fun _ => op_isN) h (nomark _)

/-! ### raise C(e), C's own __init__ keeping e in the field f -/
/-- what the written part says of the class nm -/
structure ErC (K : PySem.W.Frag) (mg : Str → Option Value) (nm : Str) (C : Addr) (f : Str) : Prop where
  gC : mg nm = some (.ref C)
  oex : OexC K C
  no : PySem.W.findIn K (.ref C) f = some none
  ga : PySem.W.findIn K (.ref C) "__getattribute__" = some (some (.builtin "BaseException.__getattribute__"))
  gg : PySem.W.findIn K (.ref C) "__getattr__" = some none
  hd : PySem.W.hasDictIn K C = true
  ha : PySem.W.findIn K (.ref C) "__class__" = some (some (.builtin "object.__class__"))
  hm : PySem.W.mroIn K C (.type "object") = some true
/-- __init__ -/
def spI (C : Addr) (f : Str) : Sp := fun vs H Q _ => ∃ a v, vs = [.ref a, v] ∧ H a = some (exo a C none) ∧ ∀ dx, H dx = none → dx ≠ a → Q .non (upd (upd H dx (exd dx [(f, v)])) a (exo a C (some dx)))
structure ErI (P : Program) (w : World) (K : PySem.W.Frag) (mg : Str → Option Value) (base : Heap) (k : Nat) (nm : Str) (C : Addr) (f : Str) : Prop where
  c : ErC K mg nm C f
  ex : ∃ fI fd ps, PySem.W.findIn K (.ref C) "__init__" = some (some (.ref fI)) ∧ PySem.W.typeIn K (.ref fI) = some (.type "function") ∧ FnOk P w K mg base CX0 k fI fd ps (spI C f) ∧ Binds K fd ps []
abbrev FamW.ErI (Y : FamW) (k : Nat) (nm : Str) (C : Addr) (f : Str) : Prop := DL.ErI Y.F.P Y.F.w Y.F.K Y.F.mg Y.F.base k nm C f
theorem x_raise {nm f : Str} {C : Addr} {k : Nat} {cp : Pos} (T : Y.ErI k nm C f) (hk : k + 1 ≤ Y.F.k) (h : ED Y.F e L d L') (hg : GlF Y.F nm := by rfl) (hdb : (nm == ("__debug__" : Str)) = false := by decide)
    (hs : ∀ env, starEach [e] env = (false, eval e env) :: starEach [] env := by intro _; rfl) : XD Y (.Raise (some (.Call (.Name nm p) [e] [] cp)) none pos) L ⟨C, f, d⟩ L' := by
  obtain ⟨te, pe, run⟩ := h
  obtain ⟨fI, fd, ps, iC, tI, F1, hb⟩ := T.ex
  have mk : ∀ j, PMk (Y.y j) (.Call (.Name nm p) [e] [] cp) (tMkO C (spI C f) [] (tCons te tNil)) := fun j => by
    have F1' : FnOk (Y.y j).prog (Y.y j).w (Y.y j).K (Y.y j).mg (Y.y j).base CX0 k fI fd ps (spI C f) := by
      rw [Y.hP, Y.hw, Y.hK, Y.hmg, Y.hbase]
      exact F1
    exact pmk_oex (X := Y.y j) (by rw [Y.hK]; exact T.c.oex) (by rw [Y.hK]; exact iC) (by rw [Y.hK]; exact tI) F1' ((Y.hr j).mono hk) (by rw [Y.hK]; exact hb) .nil pass0 (Y.gl hg j) (by rw [Y.hmg]; exact T.c.gC) (Y.pa (fun j => pa_cons (pe j) pa_nil (hs _)) j) hdb (hs _) rfl
  refine ⟨fun j => fun _ σ H => tMkO C (spI C f) [] (tCons te tNil) σ H fun cls d H' => Y.W j cls d σ H', fun j => ps_raise (Y.hc j) (Y.tk j) (mk j), fun j σ G H S D q => run σ G H S _ fun v G1 H1 S1 T1 r1 => ?_⟩
  refine ⟨by simp, fun a ha => ⟨a, v, rfl, upd_same, fun dx hdx hne => ⟨rfl, dx, [(f, v)], upd_same, ?_, ?_, ?_⟩⟩⟩
  · rw [upd_ne hne, upd_same]
  · rw [upd_ne hne] at hdx
    exact hdx
  · rw [upd_ne hne] at hdx
    have e1 : upd (del (upd (upd (upd H1 a (exo a C none)) dx (exd dx [(f, v)])) a (exo a C (some dx))) a) dx (.xd [(f, v)]) = upd H1 dx (.xd [(f, v)]) := by
      funext b
      by_cases h1 : b = dx
      · subst h1
        rw [upd_same, upd_same]
      · rw [upd_ne h1, upd_ne h1]
        by_cases h2 : b = a
        · subst h2
          rw [del_same, ha]
        · rw [del_ne h2, upd_ne h2, upd_ne h1, upd_ne h2]
    rw [e1]
    obtain ⟨S2, T2⟩ := S1.newG (o := .xd [(f, v)]) hdx
    exact q _ _ σ _ _ S2 (T1.trans T2).ts ⟨rfl, dx, v, rfl, upd_same, r1.up T2.g⟩

/-! ### a for that raises in turn m -/
def tssW (X : Cx) (b : List Stmt) : TS := fun D σ H => ∃ ts, PSs X b ts ∧ ts D σ H
theorem pss_w (X : Cx) (b : List Stmt) : PSs X b (tssW X b) := ⟨fun pins s σ H Q I h => let ⟨te, pe, q⟩ := h; pe.run pins s σ H Q I q⟩
theorem x_for {ok : PyData → Prop} {u : PyData → List Sl → List Sl} {T : List Nat} (M : Nat → List Sl) (m : Nat) (dm : PyData) (hi : ItD Y.F tg iter L its (M 0)) (ht : TgD Y.F tg T ok u) (hM : ∀ i, (M i).length = Y.F.N.length) (hm : its[m]? = some dm)
    (hb : ∀ i d, i < m → its[i]? = some d → ok d ∧ SsD [] Y.F sts (u d (M i)) (.nx (M (i + 1)))) (hl : ok dm ∧ XsD Y sts (u dm (M m)) er L')
    (hs : ∀ env x, foldedSetIterable iter env x = pure x := by intro _ _; rfl) : XD Y (.For tg iter sts [] pos) L er L' := by
  obtain ⟨wi, pi, runI⟩ := hi
  obtain ⟨⟨g, pg, runG⟩, _, _, _⟩ := ht
  refine ⟨fun j => tFor wi g (tssW (Y.y j) sts), fun j => ps_for (Y.po j) (Y.hc j) (Y.pi pi j) (Y.pg pg j) (pss_w _ _) (hs _), fun j σ0 G0 H0 S0 D q => runI σ0 G0 H0 S0 _ fun J G1 H1 S1 T1 RJ => ?_⟩
  refine ⟨fun i k σ H => k = its.length - i ∧ i ≤ m ∧ ∃ G, Sta (M i) σ G H ∧ Ts (M 0) σ0 G1 H1 (M i) σ G H, ⟨its.length, by simp, Nat.zero_le _, G1, S1, .refl⟩, ?_⟩
  rintro i k σ H ⟨rfl, him, G, S, T0⟩
  obtain ⟨stop, go⟩ := RJ i G H T0.g S.gh
  have hml : m < its.length := (List.getElem?_eq_some_iff.mp hm).1
  by_cases h : i < m
  · have hlt : i < its.length := by omega
    obtain ⟨hg, hy⟩ := go its[i] (List.getElem?_eq_getElem hlt)
    obtain ⟨okd, ts, ps, run⟩ := hb i its[i] h (List.getElem?_eq_getElem hlt)
    refine .inr ⟨hg, fun σ' H' => i + 1 ≤ m ∧ ∃ G', Sta (M (i + 1)) σ' G' H' ∧ Ts (M 0) σ0 G1 H1 (M (i + 1)) σ' G' H', fun σ' H' ⟨h1, w⟩ => ⟨its.length - (i + 1), by omega, rfl, h1, w⟩, fun x H' hx => ?_⟩
    obtain ⟨G2, S2, T2, r2⟩ := yielded S (hy x H' hx)
    refine runG _ okd _ _ _ _ _ (hM i) S2 r2 _ fun σ3 S3 T3 A30 => ?_
    have T4 := (T0.trans S.gh T2.ts).trans S2.gh T3
    refine ⟨ts, ?_, run σ3 G2 H' S3 _ fun σ' G' H'' S5 T5 A5 => ⟨by omega, _, S5, T4.trans S3.gh T5⟩⟩
    have := ps j
    rw [← Y.hy j] at this
    exact this.nox
  · obtain rfl : i = m := by omega
    obtain ⟨okd, ts, ps, run⟩ := hl
    obtain ⟨hg, hy⟩ := go dm hm
    refine .inr ⟨hg, fun _ _ => False, fun _ _ w => w.elim, fun x H' hx => ?_⟩
    obtain ⟨G2, S2, T2, r2⟩ := yielded S (hy x H' hx)
    refine runG _ okd _ _ _ _ _ (hM i) S2 r2 _ fun σ3 S3 T3 A30 => ?_
    have T4 := (T0.trans S.gh T2.ts).trans S2.gh T3
    exact ⟨ts j, ps j, run j σ3 G2 H' S3 _ fun cls dd σ' G' H'' S5 T5 ok5 => q cls dd σ' G' H'' S5 ((T1.ts.trans S1.gh T4).trans S3.gh T5) ok5⟩
end

/-! ### defs -/
section
variable {P : Program} {w : World} {K : PySem.W.Frag} {mg : Str → Option Value} {base : Heap} {x qual : Str} {st : Stmt} {f : Addr} {fd : FuncData} {N ps : List Str} {k : Nat}
/-- the contexts of a family, more of them -/
def Fam.pull (F : Fam) (J : Type) (g : J → F.J) : Fam where
  J := J
  x := fun j => F.x (g j)
  P := F.P
  w := F.w
  K := F.K
  mg := F.mg
  base := F.base
  N := F.N
  sc := F.sc
  fn := F.fn
  k := F.k
  hP := fun j => F.hP (g j)
  hw := fun j => F.hw (g j)
  hK := fun j => F.hK (g j)
  hmg := fun j => F.hmg (g j)
  hbase := fun j => F.hbase (g j)
  hN := fun j => F.hN (g j)
  hsc := fun j => F.hsc (g j)
  hfn := fun j => F.hfn (g j)
  hc := fun j => F.hc (g j)
  hr := fun j => F.hr (g j)
  hxe := fun j => F.hxe (g j)
  hg := fun j => F.hg (g j)
def famW (P : Program) (w : World) (K : PySem.W.Frag) (mg : Str → Option Value) (base : Heap) (N : List Str) (qual : Str) (sc : Scope) (f : Addr) (k : Nat) : FamW where
  F := (famOf P w K mg base N qual sc f k).pull (FamJ qual sc f k × XK) Prod.fst
  W := fun j => fun cls d _ H => j.2 cls d H
  y := fun j => cxOf (L2.CX P w) P w K mg base N qual sc f j.1.1.1 j.1.1.2.1 j.1.1.2.2.1 j.1.1.2.2.2.1 j.1.1.2.2.2.2 j.2
  hy := fun _ => rfl
  hst := fun _ => rfl
  hfr := fun _ => rfl
  hex := fun _ => rfl
  po := fun _ => passes_of rfl
  tk := fun _ => takes_of rfl rfl rfl rfl
theorem funE {Φ : List PyData → Er → Prop} (Fn : Fun K x qual st f fd) (S : FnScope N ps (defScope st)) (hl : ∀ ds r, Φ ds r → ds.length = ps.length)
    (hb : ∀ ds r, Φ ds r → ∃ L', XsD (famW P w K mg base N qual (defScope st) f k) (defBody st) (startL N ds) r L') : FnE P w K mg base (k + 1) f fd ps (spE Φ) := by
  obtain ⟨oc, od, kV, doc, pm, an, cdv, ct, osl, rfl, lk, hcd⟩ := Fn.ex
  refine fnE_of lk hcd S (fun vs H Q E h => ?_) fun A outer s H vs Q E hg hr h => ?_
  · obtain ⟨ds, r, G, e, _, rp, _⟩ := h
    rw [rp.len]
    exact hl ds r e
  · obtain ⟨ds, er, G, e, gh, rp, q⟩ := h
    obtain ⟨L', ts, ps, run⟩ := hb ds er e
    refine ⟨_, ps ⟨⟨(cdv, A, outer, s, H), hg, hr⟩, E⟩, run _ _ G H (staL gh rp (by rw [hl ds er e]; exact FnScope.fit S)) _ fun cls dd σ' G' H' S' T' ok => ?_⟩
    exact q cls dd G' H' ⟨T'.g, S'.gh, fun b o hb gb _ => T'.fr b o hb gb noOwnL, T'.th⟩ ok
/-- a def with defaults -/
theorem funED {dvs : List V} {kws : List (Str × V)} {Φ : List PyData → Er → Prop} (Fn : FunD K x qual (defArgs st) (defBody st) (defScope st) dvs kws f fd) (S : FnScope N ps (defScope st)) (hl : ∀ ds r, Φ ds r → ds.length = ps.length)
    (hb : ∀ ds r, Φ ds r → ∃ L', XsD (famW P w K mg base N qual (defScope st) f k) (defBody st) (startL N ds) r L') : FnE P w K mg base (k + 1) f fd ps (spE Φ) := by
  obtain ⟨oc, od, dV, kV, doc, pm, an, cdv, ct, osl, rfl, lk, hcd, _, _⟩ := Fn.ex
  refine fnE_of lk hcd S (fun vs H Q E h => ?_) fun A outer s H vs Q E hg hr h => ?_
  · obtain ⟨ds, r, G, e, _, rp, _⟩ := h
    rw [rp.len]
    exact hl ds r e
  · obtain ⟨ds, er, G, e, gh, rp, q⟩ := h
    obtain ⟨L', ts, ps, run⟩ := hb ds er e
    refine ⟨_, ps ⟨⟨(cdv, A, outer, s, H), hg, hr⟩, E⟩, run _ _ G H (staL gh rp (by rw [hl ds er e]; exact FnScope.fit S)) _ fun cls dd σ' G' H' S' T' ok => ?_⟩
    exact q cls dd G' H' ⟨T'.g, S'.gh, fun b o hb gb _ => T'.fr b o hb gb noOwnL, T'.th⟩ ok
theorem de_of {sp : Sp} (Fn : Fun K x qual st f fd) (G : FnE P w K mg base k f fd ps sp) (m : mg x = some (.ref f)) (b : Binds K fd ps []) : De P w K mg base x k sp :=
  ⟨f, fd, ps, G, m, Fn.kp, fun s us inK hl => by
    have := b s us inK (by rw [List.append_nil]; exact hl)
    rw [List.append_nil] at this
    exact this⟩
end
end DL
namespace DL
open PySem PyProof.Rows L2
variable [TabL]

section
variable {X : Cx} {pins : List (Addr × Obj)} {σ : L2.St} {H : Hp} {s : Shared}
/-- an error that was caught is tracked from now on -/
theorem inv_track {a C dd : Addr} {oe : Obj} {vs : Array Value} (I : Inv X pins σ H s) (ha : s.heap.get? a = some oe) (hc : oe.cls = .ref C) (hd : oe.dict = some dd) (hdat : oe.data = .fields vs) (na : H a = none) (n0 : X.s_0.heap.get? a = none) (nL : a ≠ X.env.locals)
    (npin : ∀ p ∈ X.pn ++ pins, p.1 ≠ a) : Inv X pins σ (upd H a (exV a C dd)) s := by
  have ne : ∀ {b : Addr} {o : HO}, H b = some o → b ≠ a := fun {b o} q => ne_of_none q na
  have nc : ∀ x c, X.env.cells.lookup x = some c → c ≠ a := fun x c e z => by
    obtain ⟨v, q⟩ := I.cell x c e
    obtain ⟨o, ho, hv⟩ := q
    rw [z, ha] at ho
    cases ho
    rw [hdat] at hv
    cases hv
  refine ⟨I.ok, I.os, I.bare, ⟨I.base.keep, I.base.slot, fun b o e n hx => ?_, I.base.there, fun b xs e => ?_, fun b o u e => ?_, fun b ps e => ?_⟩, I.loc, I.cell, ?_, fun x c e => ?_, fun p hp => ?_, fun b o e => ?_, I.len⟩
  · have hb : b ≠ a := fun z => by rw [z, n0] at e; cases e
    rw [upd_ne hb]
    exact I.base.free b o e n hx
  · have q := I.base.tups b xs e
    rw [upd_ne (ne q)]
    exact q
  · have q := I.base.frzs b o u e
    rw [upd_ne (ne q)]
    exact q
  · obtain ⟨more, q⟩ := I.base.tbls b ps e
    exact ⟨more, by rw [upd_ne (ne q)]; exact q⟩
  · rw [upd_ne (Ne.symm nL)]
    exact I.free
  · rw [upd_ne (nc x c e)]
    exact I.freeC x c e
  · obtain ⟨e1, e2, e3⟩ := I.pin p hp
    exact ⟨e1, by rw [upd_ne (npin p hp)]; exact e2, e3⟩
  · by_cases hb : b = a
    · subst hb
      rw [upd_same] at e
      cases e
      exact ⟨⟨oe, vs, ha, hc, hd, hdat⟩, ⟨oe, ha⟩, fun h1 h2 ⟨oe, vs, q1, q2⟩ st => ⟨oe, vs, st _ q1, q2⟩⟩
    · rw [upd_ne hb] at e
      exact (I.hok b o e).stay (fun _ _ _ q => q) (fun c q => by rw [upd_ne (ne q)]; exact q) fun c xs q => by rw [upd_ne (ne q)]; exact q
end

/-- the classes that an except clause names -/
def TestC (X : Cx) (t : Expr) (cls : Value) : Prop := ∀ (a : Addr) (oe : Obj) (pn : List (Addr × Obj)) (σ : L2.St) (H : Hp) (s : Shared), Inv (X.suite a ((a, oe) :: pn)) [] σ H s → PySem.W.Looks (model X.prog X.w) s.heap (typeOf (.ref a)) cls →
  ∀ (Q : Bool → Shared → Prop) (E : Value → Shared → Prop), (∀ h', (∀ b o, s.heap.get? b = some o → h'.get? b = some o) → Q true { s with heap := h' }) → wpAny (model X.prog X.w) (X.A.mark (some (.ref a))) (eval t X.env) (fun c s1 => wpAny (model X.prog X.w) (X.A.mark (some (.ref a))) (excMatches (.ref a) c) Q E s1) E s
section
variable {X : Cx} {cls : Value}
theorem nm_here {X : Cx} {x : Str} {np : Pos} {c : Value} (hc : Names X x c) {a : Addr} {oe : Obj} {pn : List (Addr × Obj)} {σ : L2.St} {H : Hp} {s : Shared} (S3 : Inv (X.suite a ((a, oe) :: pn)) [] σ H s) {Q : Value → Shared → Prop} {E : Value → Shared → Prop} (q : Q c s) :
    wpAny (model X.prog X.w) (X.A.mark (some (.ref a))) (eval (.Name x np) X.env) Q E s := by
  obtain ⟨hg, hdbg, hm | ⟨hm, hv, hnn⟩⟩ := hc
  · exact ld_glob (X := X.suite a ((a, oe) :: pn)) S3 hg hm q hdbg
  · exact ld_blt (X := X.suite a ((a, oe) :: pn)) S3 hg hm hv q hnn hdbg
theorem test1 {x : Str} {np : Pos} {c : Value} (hc : Names X x c) (he : PySem.W.exmOne X.K cls c = some true) : TestC X (.Name x np) cls := fun a oe pn σ H s S3 LT Q E q =>
  nm_here hc S3 ((PySem.W.exm_one (M := model X.prog X.w) S3.kIn LT he).here (q s.heap fun _ _ z => z))
theorem test2 {x1 x2 : Str} {p1 p2 tpos : Pos} {kk : Nat} {c1 c2 : Value} (n1 : Names X x1 c1) (n2 : Names X x2 c2) (he : PySem.W.exmAny X.K cls [c1, c2] = some true) : TestC X (.Tuple [.Name x1 p1, .Name x2 p2] kk tpos) cls := fun a oe pn σ H s S3 LT Q E q => by
  refine wpAny_Tuple ?_
  refine wpAny_items_cons (nm_here n1 S3 ?_)
  refine wpAny_items_cons (nm_here n2 S3 ?_)
  refine wpAny_items_nil ⟨by size_fits, ?_⟩
  have kp : ∀ q o, s.heap.get? q = some o → (s.heap.push { cls := .type "tuple", data := .seq [c1, c2].toArray }).get? q = some o := fun _ _ z => Heap.get?_push_of_some _ z
  exact (PySem.W.exm_tup2 (S3.kIn.keeps kp) (LT.keeps kp) (Heap.get?_push_size s.heap rfl) he).here (q _ kp)
theorem test4 {x1 x2 x3 x4 : Str} {p1 p2 p3 p4 tpos : Pos} {kk : Nat} {c1 c2 c3 c4 : Value} (n1 : Names X x1 c1) (n2 : Names X x2 c2) (n3 : Names X x3 c3) (n4 : Names X x4 c4) (he : PySem.W.exmAny X.K cls [c1, c2, c3, c4] = some true) : TestC X (.Tuple [.Name x1 p1, .Name x2 p2, .Name x3 p3, .Name x4 p4] kk tpos) cls := fun a oe pn σ H s S3 LT Q E q => by
  refine wpAny_Tuple ?_
  refine wpAny_items_cons (nm_here n1 S3 ?_)
  refine wpAny_items_cons (nm_here n2 S3 ?_)
  refine wpAny_items_cons (nm_here n3 S3 ?_)
  refine wpAny_items_cons (nm_here n4 S3 ?_)
  refine wpAny_items_nil ⟨by size_fits, ?_⟩
  have kp : ∀ q o, s.heap.get? q = some o → (s.heap.push { cls := .type "tuple", data := .seq [c1, c2, c3, c4].toArray }).get? q = some o := fun _ _ z => Heap.get?_push_of_some _ z
  exact (PySem.W.exm_tup4 (S3.kIn.keeps kp) (LT.keeps kp) (Heap.get?_push_size s.heap rfl) he).here (q _ kp)
end
theorem flyingZ_keeps {B : Heap} {l : List Env} {a : Addr} {Z : Obj → Prop} {h h' : Heap} (x : PySem.HandSPX.FlyingZ B l a Z h) (k : ∀ b o, h.get? b = some o → h'.get? b = some o) : PySem.HandSPX.FlyingZ B l a Z h' := by
  obtain ⟨f1, f2, f3, oe, vs, T, oT, ts, he, hz, hd, h1, hnT, hTe, hT, hdT, h3⟩ := x
  exact ⟨fun b o q => k b o (f1 b o q), f2, f3.of_keeps fun b o q _ => ⟨o, k b o q, rfl⟩, oe, vs, T, oT, ts, k _ _ he, hz, hd, h1, hnT, hTe, k _ _ hT, hdT, h3⟩

/-- what the clause wishes of an exception of the body: it is of class cls0, and y = e keeps it -/
def wKeep (cls0 : Value) (i k : Nat) (D : Ends) : WX := fun cls d σ H => cls = cls0 ∧ ∃ C dd, cls = .ref C ∧ d = some dd ∧ ∀ a, H a = none → D.nx (((σ.set i (some (.ref a))).set k (some (.ref a))).set i none) (upd H a (exV a C dd))
section
variable {X : Cx} {t : Expr} {n y : Str} {cls0 : Value} {i k : Nat} {body : List Stmt} {p1 p2 p3 pos pos' : Pos} {tb : WX → TS}
theorem ps_try_keep (hs : X.stack = X.env :: X.outer) (hf : X.env.frame = some X.env.locals) (hex : X.ex = []) (hN : X.N.Nodup) (hi : X.N[i]? = some n) (hln : X.env.kindOf n = some .local) (hk : X.N[k]? = some y) (hly : X.env.kindOf y = some .local) (ht : TestC X t cls0)
    (hb : ∀ (W : WX) (pn : List (Addr × Obj)) (xe : Value → Shared → Prop), Takes (X.tr pn xe) W → PassesOwn (model X.prog X.w) X.A X.env xe → PSs (X.tr pn xe) body (tb W))
    (hsw : swapsWith (.Name n p2) (some (.Name y p1)) p3.line X.env = pure false) (hd : (n == ("__debug__" : Str)) = false) (hcd : (n == ("__classdict__" : Str)) = false) (hil : i < X.N.length) :
    PS X (.Try body [.ExceptHandler (some t) (some n) [.Assign [.Name y p1] (.Name n p2) p3] pos'] [] [] pos) (fun D σ H => tb (wKeep cls0 i k D) D σ H) := by
  refine ⟨fun pins s σ H D I h => ?_⟩
  have ok := I.ok
  have hfr : X.A.frames = some (X.env :: X.outer) := by rw [ok.frames, hs]
  have hloc : Loc X.env.scope n := .inl hln
  have hlocy : Loc X.env.scope y := .inl hly
  refine wpAny_Try_except ?_
  refine wpAny_mono ((hb (wKeep cls0 i k D) (X.pn ++ pins) (fun e s₁ => wpAny (model X.prog X.w) X.A (noteFrame e X.env) (fun _ s₂ => wpAny (model X.prog X.w) X.A (setFlight e none) (fun _ s₃ =>
    wpAny (model X.prog X.w) X.A (handleBy e X.env [.ExceptHandler (some t) (some n) [.Assign [.Name y p1] (.Name n p2) p3] pos']) (SP X pins D) X.xe s₃) X.xe s₂) X.xe s₁) (fun u s' xx => ?_) PassesOwn.looking).run [] s σ H D (I.toTry _) h) (fun f s1 hsp => ?_) (fun e s1 he => he)
  · -- the catch
    obtain ⟨a, B, sI, pins', σ', H', cls, d, rfl, J', nb, up, sky, na, os, ag, rfl, C, dd, ecl, rfl, hq⟩ := xx
    have J : Inv X pins σ' H' sI := J'.ofTry ok
    have sky' : Sky B (X.env :: X.outer) a (Zc cls (some dd)) X.env.locals s'.heap := by rw [← hs]; exact sky
    show wpAny (model X.prog X.w) X.A (noteFrame (.ref a) X.env) _ _ _
    refine Sky.land Zc.steady hfr hf sky' fun h3 fl3 up3 => ?_
    have J3 : Inv X pins σ' H' { s' with heap := h3 } := J.landed nb fl3.1 (up.trans up3) os ag
    obtain ⟨oe3, vs3, he3, hz3, hd3⟩ := fl3.there
    have notFr : ∀ {h : Heap} {o : Obj} {vs : Array Value}, h.FunFrames B (X.env :: X.outer) → h.get? a = some o → o.data = .fields vs → a ∉ frs (X.env :: X.outer) := fun {h o vs} ff e dd hm => by
      obtain ⟨_, o', e', hnf⟩ := ff.mem hm
      rw [e] at e'; cases e'
      exact hnf _ dd
    have nfr := notFr fl3.2.2.1 he3 hd3
    have nL : a ≠ X.env.locals := fun z => nfr (List.mem_filterMap.mpr ⟨X.env, List.mem_cons_self, by rw [hf, z]⟩)
    have nF : a ∉ X.fs := fun hm => by
      obtain ⟨e, he, q⟩ := List.mem_filterMap.mp hm
      exact nfr (List.mem_filterMap.mpr ⟨e, List.mem_cons_of_mem _ he, q⟩)
    have nS : a ∉ frs X.stack := by rw [hs]; exact nfr
    have nB : B.get? a = none := fl3.2.1
    have nI : sI.heap.get? a = none := by
      cases q : sI.heap.get? a with
      | none => rfl
      | some o =>
        have z := nb a o q nS
        rw [nB] at z
        cases z
    have n0 : X.s_0.heap.get? a = none := by
      cases q : X.s_0.heap.get? a with
      | none => rfl
      | some o =>
        obtain ⟨o', z⟩ := J.base.there a o q (by rw [hex]; simp)
        rw [nI] at z
        cases z
    have npin : ∀ p ∈ X.pn ++ pins, p.1 ≠ a := fun p hp z => by
      have q := (J.pin p hp).1
      rw [z, nI] at q
      cases q
    have S3 := J3.suite he3 hd3 na nL nF
    refine wpAny_handleBy_cons (codeAny_handlers_test ?_) (by intro q; cases q)
    have LT : PySem.W.Looks (model X.prog X.w) h3 (typeOf (.ref a)) cls := fun A Q E s k q => wpAny_typeOf_ref (k _ _ he3) (by rw [hz3.1]; exact q)
    refine ht a oe3 (X.pn ++ pins) σ' H' _ S3 LT _ _ fun h5 k5 => ?_
    have fl5 := flyingZ_keeps fl3 k5
    refine codeAny_handlers_suite_as ?_
    refine PySem.HandSPX.lands_againZ fl5 fun h4 fl4 up4 => ?_
    have J4 : Inv X pins σ' H' { s' with heap := h4 } := J.landed nb fl4.1 (((up.trans up3).trans (Heap.UpToSlots.of_keeps k5)).trans up4) os ag
    obtain ⟨oe4, vs4, he4, hz4, hd4⟩ := fl4.there
    have S4 := J4.suite he4 hd4 na nL nF
    refine store_ok (X := X.suite a ((a, oe4) :: (X.pn ++ pins))) (v := .ref a) S4 hN hi hloc rfl (fun s5 S5 => ?_) (.inr hln)
    have su : PSs (X.suite a ((a, oe4) :: (X.pn ++ pins))) [.Assign [.Name y p1] (.Name n p2) p3] (tSeq (tAsg (tVar i) (gName k)) tNext) :=
      pss_cons (ps_set (X := X.suite a ((a, oe4) :: (X.pn ++ pins))) hN hk hlocy (pe_var hi (.inl hln) hd hcd) hsw (.inr hly)) pss_nil
    have li : i < σ'.length := by rw [J4.len]; exact hil
    refine wpAny_mono (su.run [] s5 _ H' { nx := fun σ6 H6 => σ6 = (σ'.set i (some (.ref a))).set k (some (.ref a)) ∧ H6 = H', rt := fun _ _ => False, bk := fun _ _ => False, ct := fun _ _ => False } S5 ⟨.ref a, by rw [List.getElem?_set_self li], rfl, rfl⟩) (fun f s6 hsp => ?_) (fun _ _ z => False.elim z)
    cases f with
    | next =>
      obtain ⟨σ6, H6, S6, rfl, rfl⟩ := hsp
      obtain ⟨ha6, _⟩ := S6.pin (a, oe4) (List.mem_append_left _ List.mem_cons_self)
      have J6 : Inv X pins _ H6 s6 := S6.unsuite ok
      obtain ⟨hzc, hzd⟩ := hz4
      have J7 := inv_track J6 ha6 (hzc.trans ecl) hzd hd4 na n0 nL npin
      exact gone_ok J7 hN hi hln fun s7 J8 => ⟨_, _, J8, hq a na⟩
    | brk => exact hsp.elim fun _ z => z.elim fun _ z => z.2.elim
    | cont => exact hsp.elim fun _ z => z.elim fun _ z => z.2.elim
    | ret u => exact hsp.elim fun _ z => z.elim fun _ z => z.elim fun _ z => z.2.2.elim
  · cases f with
    | next =>
      obtain ⟨σ', H', J', q⟩ := hsp
      exact wpAny_execs_nil ⟨σ', H', J'.ofTry ok, q⟩
    | brk =>
      obtain ⟨σ', H', J', q⟩ := hsp
      exact ⟨σ', H', J'.ofTry ok, q⟩
    | cont =>
      obtain ⟨σ', H', J', q⟩ := hsp
      exact ⟨σ', H', J'.ofTry ok, q⟩
    | ret u =>
      obtain ⟨v, σ', H', J', r, q⟩ := hsp
      exact ⟨v, σ', H', J'.ofTry ok, r, q⟩
end
end DL
namespace DL
open PySem PyProof.Rows L2
variable [TabL]

/-! ### a caught error, asked -/
/-- what the written part says of object.__class__ -/
structure ObC (K : PySem.W.Frag) : Prop where
  hn : PySem.W.specialIn K (.builtin "object.__class__") "__get__" = some (some (.builtin "getset_descriptor.__get__"))
  ht : PySem.W.takesIn K (.builtin "object.__class__") = some true
def rIsX (K : PySem.W.Frag) : List V → Hp → VK → Prop := fun xs H Q => ∃ (a C dd : Addr) (fs : List (Str × V)) (c : V) (cv : Value) (b : Bool), xs = [.ref a, c] ∧ H a = some (exV a C dd) ∧ H dd = some (.xd fs) ∧ (∀ u, RelV c u → u = cv) ∧ PySem.W.kitOne K (.ref C) cv = some b ∧
  (∃ mg nm f, ErC K mg nm C f) ∧ ObC K ∧ Q (.bl b) H
theorem exV_at {P : Program} {w : World} {H : Hp} {h : Heap} {a C dd : Addr} (hok : HOk P w H h) (he : H a = some (exV a C dd)) : ∃ (oe : Obj) (vs : Array Value), h.get? a = some oe ∧ oe.cls = .ref C ∧ oe.dict = some dd ∧ oe.data = .fields vs := by
  have x : ObjOk P w H h a (.ext fun h => ∃ (oe : Obj) (vs : Array Value), h.get? a = some oe ∧ oe.cls = .ref C ∧ oe.dict = some dd ∧ oe.data = .fields vs) := hok a _ he
  exact x.1
theorem inst_at {X : Cx} {pins : List (Addr × Obj)} {σ : L2.St} {H : Hp} {s : Shared} {a C dd : Addr} {fs : List (Str × V)} (I : Inv X pins σ H s) (he : H a = some (exV a C dd)) (hd : H dd = some (.xd fs)) :
    ∃ (oe od : Obj) (mA : Str → Option Value), PySem.W.InstAt s.heap a oe C (some od) ∧ (∀ name, PySem.W.lookIn name od = some (mA name)) ∧ ∀ f, RelO (fs.lookup f) (mA f) := by
  obtain ⟨oe, vs, h1, h2, h3, h4⟩ := exV_at I.hok he
  have hx : ObjOk X.prog X.w H s.heap dd (.xd fs) := I.hok dd _ hd
  obtain ⟨mA, hns, hr⟩ := hx
  obtain ⟨od, ho, hl⟩ := lookIn_ns hns
  exact ⟨oe, od, mA, ⟨h1, h2, by unfold PySem.W.notCls; rw [h4] <;> rfl, by rw [h3]; exact ho⟩, hl, hr⟩
theorem call_isX {X : Cx} : CallR X (.builtin "isinstance") (rIsX X.K) := by
  intro pins s σ H xs us Q I r h
  obtain ⟨a, C, dd, fs, c, cv, b, rfl, ha, hd, hcv, e, ⟨mg, nm, f, T⟩, O, q⟩ := h
  cases r with
  | cons rx rr =>
    cases rr with
    | cons rt rr =>
      cases rr
      cases rx
      have ec := hcv _ rt
      subst ec
      obtain ⟨oe, od, mA, J, _, _⟩ := inst_at I ha hd
      have hcl : (PySem.W.clsIn X.K C).isSome = true := by
        obtain ⟨cd, hc, _⟩ := PySem.W.any_some T.hd
        rw [hc]
        rfl
      exact PySem.W.kia_one (PySem.W.kitx_exc hcl T.ga T.gg T.oex.exC T.ha O.hn O.ht T.hm) I.kIn J e (fun z => nomatch z) fun tk => ⟨.bl b, H, I.kept (t' := tk) fun _ _ z => z, rfl, q⟩
section
variable {F : Fam} {e : Expr} {L L' : List Sl} {C : Addr} {f nm x : Str} {d : PyData} {p p3 pos : Pos} {b : Bool} {mg' : Str → Option Value}
theorem isxf (F : Fam) (j : F.J) : CallR (F.x j) (.builtin "isinstance") (rIsX F.K) := by
  rw [← F.hK j]
  exact call_isX
/-- isinstance(err, a built-in class) -/
theorem ed_isXB {T : String} (h : ED F e L (excD C f d) L') (E : ErC F.K mg' nm C f) (O : ObC F.K) (hm : F.mg "isinstance" = none) (hmT : F.mg (Str.ofString T) = none) (hvT : bootBuiltins (Str.ofString T) = some (.type T)) (hk : PySem.W.kitOne F.K (.ref C) (.type T) = some b) (hg : GlF F "isinstance" := by rfl) (hgT : GlF F (Str.ofString T) := by rfl)
    (hnT : Str.ofString T ≠ "__name__" := by decide) (hdT : (Str.ofString T == ("__debug__" : Str)) = false := by decide) (hs : ∀ env, starEach [e, .Name (Str.ofString T) p3] env = (false, eval e env) :: starEach [.Name (Str.ofString T) p3] env := by intro _; rfl) :
    ED F (.Call (.Name "isinstance" p) [e, .Name (Str.ofString T) p3] [] pos) L (.bool b) L' := by
  obtain ⟨te, pe, run⟩ := h
  have pT : PEf F (.Name (Str.ofString T) p3) (tC (.ty T)) := fun j => pe_bltn (hgT.gl j) (by rw [F.hmg]; exact hmT) hvT (by exact rfl) hnT hdT
  refine ⟨_, bt_any (isxf F) hg hm (by decide +kernel) (fun j => pa_cons (pe j) (pa_cons (pT j) pa_nil) (hs _)) (by decide) (by decide) hs (fun _ => rfl), fun σ G H S Q q => run σ G H S _ fun v G' H' S' T' r => ?_⟩
  obtain ⟨a, dd, w, rfl, h1, h2, h3⟩ := r.exc_inv
  exact ⟨a, C, dd, _, .ty T, .type T, b, rfl, S'.gh _ _ h1, S'.gh _ _ h2, fun u hu => hu, hk, ⟨_, _, _, E⟩, O, q _ _ _ S' T' (.bl b)⟩
/-- isinstance(err, an own class) -/
theorem ed_isXO {C2 : Addr} (h : ED F e L (excD C f d) L') (E : ErC F.K mg' nm C f) (O : ObC F.K) (hm : F.mg "isinstance" = none) (hmx : F.mg x = some (.ref C2)) (hk : PySem.W.kitOne F.K (.ref C) (.ref C2) = some b) (hg : GlF F "isinstance" := by rfl) (hgx : GlF F x := by rfl)
    (hdx : (x == ("__debug__" : Str)) = false := by decide) (hs : ∀ env, starEach [e, .Name x p3] env = (false, eval e env) :: starEach [.Name x p3] env := by intro _; rfl) :
    ED F (.Call (.Name "isinstance" p) [e, .Name x p3] [] pos) L (.bool b) L' := by
  obtain ⟨te, pe, run⟩ := h
  have pT : PEf F (.Name x p3) (tC (.ref C2)) := fun j => pe_glob (hgx.gl j) (by rw [F.hmg]; exact hmx) rfl hdx
  refine ⟨_, bt_any (isxf F) hg hm (by decide +kernel) (fun j => pa_cons (pe j) (pa_cons (pT j) pa_nil) (hs _)) (by decide) (by decide) hs (fun _ => rfl), fun σ G H S Q q => run σ G H S _ fun v G' H' S' T' r => ?_⟩
  obtain ⟨a, dd, w, rfl, h1, h2, h3⟩ := r.exc_inv
  exact ⟨a, C, dd, _, .ref C2, .ref C2, b, rfl, S'.gh _ _ h1, S'.gh _ _ h2, fun u hu => hu, hk, ⟨_, _, _, E⟩, O, q _ _ _ S' T' (.bl b)⟩
/-- err.f -/
theorem ed_xf (h : ED F e L (excD C f d) L') (E : ErC F.K mg' nm C f) (hb : ∀ env, attributeBase e f env (eval e env) = eval e env := by intro _; rfl) : ED F (.Attribute e f pos) L d L' := by
  obtain ⟨te, pe, run⟩ := h
  refine ⟨fun σ H Q => te σ H fun x H1 => ∃ (a dd : Addr) (v : V), x = .ref a ∧ H1 a = some (exV a C dd) ∧ H1 dd = some (.xd [(f, v)]) ∧ Q v H1, fun j => ⟨fun pins s σ H Q I h => ?_⟩, fun σ G H S Q q => run σ G H S _ fun v G' H' S' T' r => ?_⟩
  · refine attr_of (hb _) (thn ((pe j).run pins s σ H _ I h) fun u s1 hh => ?_)
    obtain ⟨x, H1, I1, rx, a, dd, v, ex, e1, e2, q⟩ := hh
    subst ex
    obtain rfl : u = Value.ref a := rx
    obtain ⟨oe, od, mA, J, hl, hr⟩ := inst_at I1 e1 e2
    have l : List.lookup f [(f, v)] = some v := by simp [List.lookup]
    obtain ⟨u, hu, ru⟩ := RelO.some_of (v := v) (o := mA f) (by rw [← l]; exact hr f)
    exact PySem.HandSPX.exc_get I1.kIn J (by rw [F.hK]; exact E.ga) (by rw [F.hK]; exact E.gg) (by rw [F.hK]; exact E.oex.exC) (PySem.W.findObj_own (by rw [F.hK]; exact E.hd) (by rw [F.hK]; exact E.no) rfl (by rw [hl, hu])) (handed_of ru) ⟨v, H1, I1.tok _, ru, q⟩
  · obtain ⟨a, dd, w, rfl, h1, h2, h3⟩ := r.exc_inv
    exact ⟨a, dd, w, rfl, S'.gh _ _ h1, S'.gh _ _ h2, q _ _ _ S' T' h3⟩
end

/-! ### try: body / except .. as e: y = e -/
/-- the contexts of a try's body -/
def Fam.trW (F : Fam) (hst : ∀ j, (F.x j).stack = (F.x j).env :: (F.x j).outer) (hfr : ∀ j, (F.x j).env.frame = some (F.x j).env.locals) (hex : ∀ j, (F.x j).ex = []) : FamW where
  F := {
    J := { t : F.J × List (Addr × Obj) × (Value → Shared → Prop) × WX // Takes ((F.x t.1).tr t.2.1 t.2.2.1) t.2.2.2 ∧ PassesOwn (model (F.x t.1).prog (F.x t.1).w) (F.x t.1).A (F.x t.1).env t.2.2.1 }
    x := fun t => (F.x t.1.1).tr t.1.2.1 (fun _ _ => False)
    P := F.P
    w := F.w
    K := F.K
    mg := F.mg
    base := F.base
    N := F.N
    sc := F.sc
    fn := F.fn
    k := F.k
    hP := fun t => F.hP t.1.1
    hw := fun t => F.hw t.1.1
    hK := fun t => F.hK t.1.1
    hmg := fun t => F.hmg t.1.1
    hbase := fun t => F.hbase t.1.1
    hN := fun t => F.hN t.1.1
    hsc := fun t => F.hsc t.1.1
    hfn := fun t => F.hfn t.1.1
    hc := fun t => F.hc t.1.1
    hr := fun t => F.hr t.1.1
    hxe := fun _ => rfl
    hg := fun t => F.hg t.1.1 }
  W := fun t => t.1.2.2.2
  y := fun t => (F.x t.1.1).tr t.1.2.1 t.1.2.2.1
  hy := fun _ => rfl
  hst := fun t => hst t.1.1
  hfr := fun t => hfr t.1.1
  hex := fun t => hex t.1.1
  po := fun t => t.2.2
  tk := fun t => t.2.1
section
variable {L L1 L2' L' : List Sl} {σ σ' : L2.St} {G H : Hp} {i : Nat}
theorem Sta.set_atno (S : Sta L σ G H) (hi : L[i]? = some .no) (x : Option V) : Sta L (σ.set i x) G H ∧ Ts L σ G H L (σ.set i x) G H := by
  have nO : ∀ j us, L[j]? = some (Sl.ow us) → i ≠ j := fun j us e z => by
    rw [← z, hi] at e
    cases e
  refine ⟨⟨S.gh, by rw [List.length_set]; exact S.ln, fun j x t e1 e2 => ?_, fun j k a us ws e1 e2 e3 e4 => ?_⟩, ⟨Same.refl _, fun b o h g _ _ => ⟨h, g⟩, fun b ⟨j, us, e1, e2⟩ => ?_, .refl⟩⟩
  · by_cases hj : i = j
    · subst hj
      rw [hi] at e2
      cases e2
      trivial
    · rw [List.getElem?_set_ne hj] at e1
      exact S.sl j x t e1 e2
  · rw [List.getElem?_set_ne (nO j us e1)] at e3
    rw [List.getElem?_set_ne (nO k ws e2)] at e4
    exact S.di j k a us ws e1 e2 e3 e4
  · rw [List.getElem?_set_ne (nO j us e1)] at e2
    exact .inl ⟨j, us, e1, e2⟩
end
section
variable {F : Fam} {t : Expr} {n y f : Str} {C : Addr} {d : PyData} {body : List Stmt} {L L' : List Sl} {i k : Nat} {p1 p2 p3 pos pos' : Pos}
/-- the body raises, the name keeps the error -/
theorem sd_try (i k : Nat) (hst : ∀ j, (F.x j).stack = (F.x j).env :: (F.x j).outer) (hfr : ∀ j, (F.x j).env.frame = some (F.x j).env.locals) (hex : ∀ j, (F.x j).ex = []) (hb : XsD (F.trW hst hfr hex) body L ⟨C, f, d⟩ L') (ht : ∀ j, TestC (F.x j) t (.ref C)) (hi : L'[i]? = some .no := by rfl) (hz : i ≠ k := by decide)
    (hl : k < L'.length := by exact Nat.le_of_ble_eq_true rfl) (hN : F.N.Nodup := by exact of_decide_eq_true rfl) (hni : F.N[i]? = some n := by rfl) (hnk : F.N[k]? = some y := by rfl) (hxi : F.sc.names.lookup n = some .local := by rfl) (hxk : F.sc.names.lookup y = some .local := by rfl)
    (hsw : ∀ j, swapsWith (.Name n p2) (some (.Name y p1)) p3.line (F.x j).env = pure false := by intro _; rfl) (hd : (n == ("__debug__" : Str)) = false := by decide) (hcd : (n == ("__classdict__" : Str)) = false := by decide) :
    SD [] F (.Try body [.ExceptHandler (some t) (some n) [.Assign [.Name y p1] (.Name n p2) p3] pos'] [] [] pos) L (.nx (L'.set k (.va (excD C f d)))) := by
  obtain ⟨ts, ps, run⟩ := hb
  let tb : WX → TS := fun W D σ H => ∀ q, q.1.2.2.2 = W → ts q D σ H
  refine ⟨fun D σ H => tb (wKeep (.ref C) i k D) D σ H, fun j => ?_, fun σ G H S D q => ?_⟩
  · refine ps_try_keep (X := F.x j) (tb := tb) (hst j) (hfr j) (hex j) (by rw [F.hN]; exact hN) (by rw [F.hN]; exact hni) ?_ (by rw [F.hN]; exact hnk) ?_ (ht j) (fun W pn xe tk po => ?_) (hsw j) hd hcd (by rw [F.hN]; exact (List.getElem?_eq_some_iff.mp hni).1)
    · show (F.x j).env.scope.names.lookup n = _
      rw [F.hsc]
      exact hxi
    · show (F.x j).env.scope.names.lookup y = _
      rw [F.hsc]
      exact hxk
    · exact ⟨fun pins s σ H D I h => (ps ⟨(j, pn, xe, W), tk, po⟩).run pins s σ H D I (h ⟨(j, pn, xe, W), tk, po⟩ rfl)⟩
  · intro j hj
    refine run j σ G H S D fun cls dd σ1 G1 H1 S1 T1 ok => ?_
    rw [show (F.trW hst hfr hex).W j = wKeep (.ref C) i k D from hj]
    obtain ⟨ecl, a0, v, rfl, h2, h3⟩ := ok
    refine ⟨ecl, C, a0, ecl, rfl, fun a ha => ?_⟩
    obtain ⟨S2, T2⟩ := S1.newG (o := exV a C a0) ha
    have rE : Rp (upd G1 a (exV a C a0)) (.ref a) (excD C f d) := .exc upd_same (T2.g _ _ h2) (h3.up T2.g)
    obtain ⟨S3, T3⟩ := S2.set_atno hi (some (.ref a))
    obtain ⟨S4, T4⟩ := S3.set_va hl rE
    obtain ⟨S5, T5⟩ := S4.set_atno (i := i) (by rw [List.getElem?_set_ne (Ne.symm hz)]; exact hi) none
    refine q _ _ _ S5 ((((T1.trans S1.gh T2.ts).trans S2.gh T3).trans S3.gh T4).trans S4.gh T5) ?_
    intro q hq
    cases hq
end
end DL
namespace DL
open PySem PyProof.Rows L2
variable [TabL]
section
variable {z : List Nat} {F : Fam} {e e1 e2 a b c tg iter elt : Expr} {L L1 L2' L' L3 : List Sl} {d d1 d2 : PyData} {ds its rs : List PyData} {x : Str} {pos p : Pos} {σ σ' : L2.St} {G H G' H' : Hp}
/-! ### dicts of texts by whole numbers -/
def kvSD (kvs : List (Int × Str)) : List (PyData × PyData) := kvs.map fun q => (PyData.int q.1, PyData.str q.2)
def kvSV (kvs : List (Int × Str)) : List (Key × V) := kvs.map fun q => (Sum.inl q.1, V.str q.2)
def kvST (q : Int × Str) : PyData := .tuple [.int q.1, .str q.2]
theorem merge_newS : ∀ (more done : List (Int × Str)), ((done ++ more).map (·.1)).Nodup → mergeK (kvSV done) (kvSV more) = kvSV (done ++ more)
  | [], done, _ => by
    rw [List.append_nil]
    rfl
  | q :: more, done, h => by
    have e : putK (kvSV done) (Sum.inl q.1) (V.str q.2) = kvSV (done ++ [q]) := by
      unfold putK
      rw [if_neg]
      · unfold kvSV
        rw [List.map_append]
        rfl
      · intro hh
        obtain ⟨w, hw, e⟩ := List.any_eq_true.mp hh
        obtain ⟨u, hu, rfl⟩ := List.mem_map.mp hw
        have e2 : u.1 = q.1 := by
          have := of_decide_eq_true e
          exact Sum.inl.inj this
        rw [List.map_append, List.map_cons, List.nodup_append] at h
        exact h.2.2 u.1 (List.mem_map_of_mem hu) q.1 (List.mem_cons_self ..) e2
    have ih := merge_newS more (done ++ [q]) (by rw [List.append_assoc]; exact h)
    rw [List.append_assoc] at ih
    show mergeK (putK (kvSV done) (Sum.inl q.1) (V.str q.2)) (kvSV more) = _
    rw [e]
    exact ih
theorem pairsPS {K : PySem.W.Frag} {H : Hp} : ∀ {kvs : List (Int × Str)} {xs : List V}, RpA H xs (kvs.map kvST) → ∃ ps : List Addr, xs = ps.map V.ref ∧ Paired (fun p (kv : Key × V) => SqT K H p [kV kv.1, kv.2]) ps (kvSV kvs)
  | [], _, .nil => ⟨[], rfl, .nil⟩
  | q :: kvs, _, .cons r t => by
    obtain ⟨ps, e, pr⟩ := pairsPS (K := K) t
    cases r with
    | @tup a ys _ h1 h2 =>
      refine ⟨a :: ps, by rw [e]; rfl, .cons ?_ pr⟩
      cases h2 with
      | cons r1 t1 =>
        cases r1
        cases t1 with
        | cons r2 t2 =>
          cases r2
          cases t2
          exact SqT.of h1
theorem ed_dictS {kvs : List (Int × Str)} (h : ED F e L (.list (kvs.map kvST)) L') (nd : (kvs.map (·.1)).Nodup) (hm : F.mg "dict" = none) (hg : GlF F "dict" := by rfl) (hs : ∀ env, starEach [e] env = (false, eval e env) :: starEach [] env := by intro _; rfl) : ED F (.Call (.Name "dict" p) [e] [] pos) L (.dict (kvSD kvs)) L' := by
  obtain ⟨te, pe, run⟩ := h
  refine ⟨_, ty_any (dictf F) hg hm (by decide +kernel) (pa1 pe hs) (by decide) (by decide) hs (fun _ => rfl), fun σ G H S Q q => run σ G H S _ fun v G' H' S' T r => ?_⟩
  cases r with
  | @lst a xs _ h1 h2 =>
    obtain ⟨ps, e, pr⟩ := pairsPS (K := F.K) (h2.up S'.gh)
    refine ⟨a, ps, kvSV kvs, rfl, SqL.of (by rw [S'.gh _ _ h1, e]), pr, fun p0 hp => ?_⟩
    have em := merge_newS kvs [] nd
    rw [List.nil_append] at em
    rw [show mergeK [] (kvSV kvs) = kvSV kvs from em]
    obtain ⟨S2, T2⟩ := S'.newG (o := .dK (kvSV kvs)) hp
    exact q _ _ _ S2 (T.trans T2) (.dcs kvs upd_same)
theorem valV_getS {kvs : List (Int × Str)} {k : Int} {v : Str} (nd : (kvs.map (·.1)).Nodup) (h : (k, v) ∈ kvs) : valV (kvSV kvs) (Sum.inl k) = some (V.str v) := by
  induction kvs with
  | nil => cases h
  | cons q kvs ih =>
    rw [List.map_cons, List.nodup_cons] at nd
    rcases List.mem_cons.mp h with h | h
    · subst h
      unfold valV kvSV
      simp
    · have hne : q.1 ≠ k := fun e => nd.1 (by rw [e]; exact List.mem_map_of_mem (f := fun x : Int × Str => x.1) h)
      have := ih nd.2 h
      unfold valV kvSV at this ⊢
      rw [List.map_cons, List.find?_cons]
      have : decide ((Sum.inl q.1 : Key) = Sum.inl k) = false := by
        rw [decide_eq_false]
        intro e
        exact hne (Sum.inl.inj e)
      rw [this]
      assumption
theorem kvS_inj : ∀ {a b : List (Int × Str)}, kvSD a = kvSD b → a = b
  | [], [], _ => rfl
  | [], _ :: _, h => by cases h
  | _ :: _, [], h => by cases h
  | q2 :: l2, q :: l, h2 => by
    unfold kvSD at h2
    rw [List.map_cons, List.map_cons, List.cons.injEq, Prod.mk.injEq] at h2
    obtain ⟨⟨h3, h4⟩, h5⟩ := h2
    have e1 : q2 = q := Prod.ext (PyData.int.inj h3) (PyData.str.inj h4)
    rw [e1, kvS_inj (a := l2) (b := l) h5]
theorem ed_ixS {kvs : List (Int × Str)} {k : Int} {v : Str} (ha : ED F a L (.dict (kvSD kvs)) L1) (hb : ED F b L1 (.int k) L') (nd : (kvs.map (·.1)).Nodup) (h : (k, v) ∈ kvs) (hs : NoSl b := by exact fun _ _ => rfl) : ED F (.Subscript a b pos) L (.str v) L' := by
  obtain ⟨ta, pa, ra⟩ := ha
  obtain ⟨tb, pb, rb⟩ := hb
  refine ⟨_, fun j => pe_dget (by have := (F.hr j).un; omega) (pa j) (pb j) hs, fun σ G H S Q q => ra σ G H S _ fun x G1 H1 S1 T1 r1 => rb σ G1 H1 S1 _ fun y G2 H2 S2 T2 r2 => ?_⟩
  cases r2
  generalize hd : PyData.dict (kvSD kvs) = dd at r1
  cases r1 with
  | @dcs a0 kvs2 h1 =>
    have e : kvs2 = kvs := kvS_inj (PyData.dict.inj hd).symm
    rw [e] at h1
    refine ⟨a0, V.str v, rfl, ?_, q _ _ _ S2 (T1.trans T2) (.str v)⟩
    have := DGet.k (k := Sum.inl k) (S2.gh _ _ (T2.g _ _ h1))
    rw [show valV (kvs.map fun q => ((Sum.inl q.1 : Key), V.str q.2)) (Sum.inl k) = some (V.str v) from valV_getS nd h] at this
    exact this
  | dct kvs2 h1 =>
    cases kvs with
    | nil => cases h
    | cons q l =>
      have h2 := PyData.dict.inj hd
      cases kvs2 with
      | nil => simp [kvSD] at h2
      | cons q2 l2 => simp [kvSD] at h2
  | exc =>
    cases kvs with
    | nil => cases hd
    | cons q l =>
      have h2 := PyData.dict.inj hd
      simp [kvSD] at h2
  | _ => cases hd
end
end DL
namespace DL
open PySem PyProof.Rows L2
variable [TabL]
section
variable {z : List Nat} {F : Fam} {e e2 a b c : Expr} {es : List Expr} {L L1 L2' L' L3 : List Sl} {d d1 d2 r : PyData} {ds ds2 rs ms ms' : List PyData} {pos p p2 : Pos} {x y : Str}
theorem tuplef (F : Fam) (j : F.J) : CallR (F.x j) (.type "tuple") (fun xs H Q => ∃ p ys, xs = [.ref p] ∧ ((SqL F.K H p ys ∧ ∀ l, H l = none → Q (.ref l) (upd H l (.tup ys))) ∨ (SqT F.K H p ys ∧ Q (.ref p) H))) := by
  rw [← F.hK j]
  exact call_tuple_of
/-- tuple(a list) -/
theorem ed_tupL (h : LD F e L ds L') (hm : F.mg "tuple" = none) (hg : GlF F "tuple" := by rfl) (hs : ∀ env, starEach [e] env = (false, eval e env) :: starEach [] env := by intro _; rfl) : ED F (.Call (.Name "tuple" p) [e] [] pos) L (.tuple ds) L' := by
  obtain ⟨te, pe, run⟩ := h
  refine ⟨_, ty_any (tuplef F) hg hm (by decide +kernel) (pa1 pe hs) (by decide) (by decide) hs (fun _ => rfl), fun σ G H S Q q => run σ G H S _ fun a xs G' H' S' T h1 r => ⟨a, xs, rfl, .inl ⟨SqL.of h1, fun l hl => ?_⟩⟩⟩
  obtain ⟨S2, T2⟩ := S'.newG (o := .tup xs) hl
  exact q _ _ _ S2 (T.trans T2) (.tup upd_same (r.up T2.g))
/-- {} -/
theorem ed_dict0 : ED F (.Dict [] [] pos) L (.dict []) L := by
  refine ⟨tDNewK, fun j => pe_dnewK, fun σ G H S Q q p hp => ?_⟩
  obtain ⟨S2, T2⟩ := S.newG (o := .dK []) hp
  exact q _ _ _ S2 T2 (.dct [] upd_same)
/-- own + a list, of which nothing is changed -/
theorem fd_catO {py : Pos} (i : Nat) (hi : L[i]? = some (Sl.ow ms)) (hb : ED F b L (.list ds2) L) (hl : ms.length + ds2.length ≤ 100000) (hN : F.N[i]? = some y := by rfl) (hv : Vis F.sc y := by first | exact Or.inl rfl | exact Or.inr (Or.inl rfl) | exact Or.inr (Or.inr rfl)) (hd : (y == ("__debug__" : Str)) = false := by decide) (hcd : (y == ("__classdict__" : Str)) = false := by decide) :
    FD F (.BinOp (.Name y py) .Add b pos) L (ms ++ ds2) L := by
  obtain ⟨tb, pb, rb⟩ := hb
  refine ⟨_, fun j => pe_op op_cat (pvF F i hN hv hd hcd j) (pb j), fun σ G H S Q q => ?_⟩
  obtain ⟨x0, e1, q0, xs0, rfl, _⟩ := S.get hi
  refine ⟨.ref q0, e1, rb σ G H S _ fun y G2 H2 S2 T2 ry => ?_⟩
  obtain ⟨x1, e2, a', xs, z, k1, k2, k3⟩ := S2.get hi
  rw [e1] at e2
  cases e2
  cases z
  cases ry with
  | @lst q1 ys _ f1 f2 =>
    refine ⟨q0, q1, xs, ys, rfl, rfl, k1, S2.gh _ _ f1, Nat.le_trans (by rw [k2.len, f2.len]; exact hl) (by decide), fun p hp => ?_⟩
    obtain ⟨S4, T4⟩ := S2.new (o := .lst (xs ++ ys)) hp
    exact q p _ G2 _ S4 (T2.trans T4) (T2.back hp) upd_same (S2.gn hp) (k2.app f2)
end
end DL
namespace DL
open PySem PyProof.Rows L2
variable [TabL]
section
variable {K : PySem.W.Frag} {C D : Addr} {b : Bool}
theorem kit_ref (hd : PySem.W.hasDictIn K D = true) (ht : PySem.W.typeIn K (.ref D) = some (.type "type")) (h : PySem.W.subIn K (.ref C) (.ref D) = some b) (hs : PySem.W.subIn K (.ref C) (.ref C) = some true) : PySem.W.kitOne K (.ref C) (.ref D) = some b := by
  obtain ⟨cd, hc, _⟩ := PySem.W.any_some hd
  unfold PySem.W.kitOne
  by_cases e : C = D
  · subst e
    rw [if_pos (beq_self_eq_true _), ← hs, h]
  · rw [if_neg (fun z => e (Value.ref.inj (beq_iff_eq.mp z)))]
    have e2 : ((PySem.W.clsIn K D).isSome && PySem.W.typeIn K (.ref D) == some (.type "type")) = true := by rw [hc, ht] <;> rfl
    show (if ((PySem.W.clsIn K D).isSome && PySem.W.typeIn K (.ref D) == some (.type "type")) = true then PySem.W.subIn K (.ref C) (.ref D) else none) = some b
    rw [if_pos e2]
    exact h
theorem kit_type {T : String} (hm : PySem.W.kitMeta T = true) (h : PySem.W.subIn K (.ref C) (.type T) = some b) : PySem.W.kitOne K (.ref C) (.type T) = some b := by
  unfold PySem.W.kitOne
  rw [if_neg (fun z => by have := beq_iff_eq.mp z; cases this)]
  show (if PySem.W.kitMeta T = true then PySem.W.subIn K (.ref C) (.type T) else none) = some b
  rw [if_pos hm]
  exact h
theorem exmAny_nil {cls : Value} : PySem.W.exmAny K cls [] = some false := rfl
theorem exmAny_cons' {cls c : Value} {r : List Value} {b1 d1 : Bool} (h1 : PySem.W.exmOne K cls c = some b1) (h2 : PySem.W.exmAny K cls r = some d1) : PySem.W.exmAny K cls (c :: r) = some (b1 || d1) := by
  unfold PySem.W.exmAny
  rw [h1, h2]
end
theorem kmVE : PySem.W.kitMeta "ValueError" = true := by decide +kernel
theorem kmLE : PySem.W.kitMeta "LookupError" = true := by decide +kernel
end DL
namespace DL
open PySem PyProof.Rows L2 LamX
variable [TabL]

/-! ### a lambda is made -/
/-- what its making leaves of what is known -/
structure Mkd (H H1 : Hp) (c' : Addr) (q : Str) : Prop where
  nt : ∀ b o, H b = some o → NT o → H1 b = some o
  th : ∀ b o, H b = some o → ∃ u, H1 b = some u
  tb : Tabs TabL.T H1
  co : H1 c' = some (CodeO c' q)
section
variable {X : Cx} {pins : List (Addr × Obj)} {σ : L2.St} {H : Hp} {s : Shared} {c P : Addr} {q : Str} {params : Arguments} {body : Expr} {scope : Scope} {pos : Pos}
theorem mkd_new {ps : Array Value} {c' : Addr} (hP : H P = some (.tbl ps)) (hc : H c' = none) (ht : TriplesOk ps.toList) (hT : Tabs TabL.T H) (hu : ∀ p ∈ TabL.T, p.1 = P → p.2 = q) :
    Mkd H (upd (upd H P (.tbl (ps ++ #[rawInt pos.line, rawInt pos.col, .ref c']))) c' (CodeO c' q)) c' q := by
  have hne : P ≠ c' := ne_of_none hP hc
  have stays : ∀ b o, H b = some o → NT o → upd (upd H P (.tbl (ps ++ #[rawInt pos.line, rawInt pos.col, .ref c']))) c' (CodeO c' q) b = some o := fun b o hb n => by
    have h1 : b ≠ c' := ne_of_none hb hc
    have h2 : b ≠ P := fun e => by
      rw [e, hP] at hb
      exact n ps (Option.some.inj hb).symm
    rw [upd_ne h1, upd_ne h2]
    exact hb
  have nco : ∀ d, NT (CodeO d q) := fun d ps z => codeO_ne ps z
  refine ⟨stays, fun b o hb => ?_, fun p hp => ?_, upd_same⟩
  · by_cases h1 : b = c'
    · exact ⟨_, by rw [h1]; exact upd_same⟩
    · by_cases h2 : b = P
      · exact ⟨_, by rw [upd_ne h1, h2]; exact upd_same⟩
      · exact ⟨o, by rw [upd_ne h1, upd_ne h2]; exact hb⟩
  · obtain ⟨qs, a1, a2, a3⟩ := hT p hp
    have known : ∀ (p' : Pos) (cv : Value), codeAmong p' qs.toList = some cv → ∃ d, cv = .ref d ∧ upd (upd H P (.tbl (ps ++ #[rawInt pos.line, rawInt pos.col, .ref c']))) c' (CodeO c' q) d = some (CodeO d p.2) := fun p' cv e => by
      obtain ⟨d, e1, e2⟩ := a3 p' cv e
      exact ⟨d, e1, stays _ _ e2 fun ps z => codeO_ne ps z⟩
    by_cases hb : p.1 = P
    · have eq := hu p hp hb
      rw [hb, hP] at a1
      cases a1
      have eL : (ps ++ #[rawInt pos.line, rawInt pos.col, .ref c']).toList = ps.toList ++ [rawInt pos.line, rawInt pos.col, .ref c'] := by simp
      refine ⟨_, by rw [hb, upd_ne hne]; exact upd_same, by rw [eL]; exact PySem.TriplesOk_snoc _ _ _ _ ht, fun p' cv e => ?_⟩
      rw [eL] at e
      rcases among_app _ ht e with z | z
      · exact known p' cv z
      · exact ⟨c', z, by rw [eq]; exact upd_same⟩
    · exact ⟨qs, by rw [upd_ne (ne_of_none a1 hc), upd_ne hb]; exact a1, a2, known⟩
/-- a frame is no new place -/
theorem new_nofr (I : Inv X pins σ H s) {f : Addr} (hf : s.heap.objs.size ≤ f) : f ∉ frs X.stack := fun z => by
  cases List.mem_cons.mp (I.stkSub _ z) with
  | inl e => exact Nat.not_lt.mpr hf (by rw [e]; exact I.lt)
  | inr e => exact I.nofs hf e
theorem lam_mk {E : Value → Shared → Prop} {Q : Value → Shared → Prop} (I : Inv X pins σ H s) (TB : TabB X.base X.mg c P) (hcode : X.env.code = .ref c) (hq : X.env.qual ++ "<lambda>" = q) (hm : (P, q) ∈ TabL.T) (hu : ∀ p ∈ TabL.T, p.1 = P → p.2 = q) (hT : Tabs TabL.T H)
    (hdef : defaultsOf params X.env = ([], [])) (hfree : ∀ y ∈ scope.names, y.2 = .free → ∃ c, X.env.cells.lookup y.1 = some c)
    (h : ∀ (f c' : Addr) (pm ctv : Value) (H1 : Hp) (s' : Shared), Inv X pins σ H1 s' → Mkd H H1 c' q → s'.heap.get? f = some (PySem.W.kla_obj "<lambda>" q params body scope (cloFrom X.env.cells scope.names []) pm c' ctv) → H1 f = none → f ∉ frs X.stack → Q (.ref f) s') :
    wpAny (model X.prog X.w) X.A (eval (.Lambda params body scope pos) X.env) Q E s := by
  obtain ⟨ps, hP, ht, ha⟩ := hT _ hm
  refine PySem.W.kla_eval hdef ?_
  rw [hq]
  have at0 : s.heap.get? P = some { cls := .none, data := .fields ps } := I.hok P _ hP
  cases e : codeAmong pos ps.toList with
  | some cv =>
    obtain ⟨d, rfl, hd⟩ := ha pos cv e
    refine PySem.W.kla_makeFunctionHit (closure_ok hfree) I.ok.glob (I.mod.glob.keeps I.bk) hcode (TB.code.keeps I.bk) at0 ht e (TB.bm.keeps I.bk) fun ctv h' tk kp big => ?_
    exact h _ d _ ctv H _ (I.kept (t' := tk) fun b o z => Heap.get?_push_of_some _ (kp b o z)) ⟨fun _ _ z _ => z, fun _ o z => ⟨o, z⟩, hT, hd⟩ (Heap.get?_push_size _ rfl) (I.hok.fresh big) (new_nofr I big)
  | none =>
    refine PySem.W.kla_makeFunction (closure_ok hfree) I.ok.glob (I.mod.glob.keeps I.bk) hcode (TB.code.keeps I.bk) at0 ht e TB.gP (TB.bm.keeps I.bk) fun d ctv h' tk kp above below hrec tab => ?_
    obtain ⟨d2, od, vs, t, e2, g1, g2, g3⟩ := hrec
    cases e2
    have hd : H d = none := I.hok.fresh above
    have big : s.heap.objs.size ≤ h'.objs.size := by omega
    have J := inv_table (t' := tk) (h' := h'.push (PySem.W.kla_obj "<lambda>" q params body scope (cloFrom X.env.cells scope.names []) ((X.mg "__name__").getD .none) d ctv)) I hP (fun b o hb z => Heap.get?_push_of_some _ (kp b o hb z)) (Heap.get?_push_of_some _ tab) above ⟨od, vs, t, Heap.get?_push_of_some _ g1, g2, g3⟩
    refine h _ d _ ctv _ _ J (mkd_new hP hd ht hT hu) (Heap.get?_push_size _ rfl) ?_ (new_nofr I big)
    have n2 : h'.objs.size ≠ P := fun z => Nat.not_lt.mpr big (by rw [z]; exact Heap.lt_size at0)
    rw [upd_ne (Nat.ne_of_gt below), upd_ne n2]
    exact I.hok.fresh big
end

/-! ### a lambda is called -/
section
variable {X : Cx} {pins : List (Addr × Obj)} {σ : L2.St} {H HZ : Hp} {s s1 : Shared} {q : Str} {params : Arguments} {body : Expr} {scope : Scope} {f c' : Addr} {pm ctv : Value} {k : Nat}
theorem lam_go {A : Around} {outer : List Env} {Q : VK} {E : XK} {t : TE} (I : Inv X pins σ H s) (L : LamS X.env.scope scope) (hq : X.env.qual ++ "<lambda>" = q) (hf : s.heap.get? f = some (PySem.W.kla_obj "<lambda>" q params body scope (cloFrom X.env.cells scope.names []) pm c' ctv)) (hfn : H f = none) (hfr : f ∉ frs X.stack)
    (hb : bindArgs (PySem.W.kla_fn "<lambda>" q params body scope (cloFrom X.env.cells scope.names []) pm (.ref c') ctv) ⟨[], []⟩ = pure []) (r : Room (k + 1) A) (e0 : Env0 X.prog X.w X.K X.mg X.base A outer s1 HZ) (un : Un (frs X.stack) [] H HZ s.heap s1.heap) (hc : HZ c' = some (CodeO c' q))
    (pe : PE (lamCx X A outer s1 HZ E scope f c') body t) (ht : t σ HZ Q) : codeAny (model X.prog X.w) A (.call (.ref f) ⟨[], []⟩) (CR (L2.CX X.prog X.w) outer X.prog X.w HZ s1 Q E) s1 := by
  subst hq
  have here := un.keep f _ hf hfn hfr (fun z => nomatch (show f ∈ ([] : List Addr) from z))
  obtain ⟨⟨od, vs, tq, k1, k2, k3⟩, _⟩ := e0.hok c' _ hc
  refine PySem.W.kla_callFunE r.depth here rfl L.co L.gen rfl ⟨c', od, vs, tq, rfl, k1, k2, k3⟩ ?_
  rw [hb]
  refine wpAny_pure (wpAny_newFunctionEnv (fun y hy => (L.own y hy).2) (fun y hy => nomatch (show y ∈ ([] : List (Str × Value)) from hy)) (fun h' ns sb => ?_) L.kind)
  have lim : s1.heap.NoLimit := e0.mod.nolimit.keeps fun b o e => (e0.bs b o e).1
  have kp : ∀ b o, s1.heap.get? b = some o → h'.get? b = some o := fun b o e => sb.extBut b o (Nat.ne_of_lt (Heap.lt_size e)) (Heap.get?_push_of_some _ e)
  have J := lam_start2 (E := E) (f := f) (c' := c') (tk := s1.toks + ([] : List (Str × Value)).length) I L e0 r.hd un ns kp
  refine ⟨lim.fresh _ sb, PySem.W.kla_codeExpr (env := lamEnv X scope s1.heap.objs.size f c') (wpAny_mono (pe.run [] _ _ HZ Q J ht) (fun v s' w => ?_) fun e s' w => w)⟩
  obtain ⟨u, H', J', rv, w⟩ := w
  exact ⟨u, H', J'.os, J'.bare, J'.base, J'.hok, rv, w⟩
end
end DL
namespace DL
open PySem PyProof.Rows L2 LamX
variable [TabL]

/-! ### the contexts of a lambda's body -/
def LamJ (F : Fam) (scope : Scope) (k : Nat) : Type :=
  { t : F.J × Around × List Env × Shared × Hp × XK × Addr × Addr // t.2.1.guards = some [] ∧ Room k (t.2.1.deeper (lamEnv (F.x t.1) scope t.2.2.2.1.heap.objs.size t.2.2.2.2.2.2.1 t.2.2.2.2.2.2.2)) }
def LamJ.cx {F : Fam} {scope : Scope} {k : Nat} (t : LamJ F scope k) : Cx := lamCx (F.x t.1.1) t.1.2.1 t.1.2.2.1 t.1.2.2.2.1 t.1.2.2.2.2.1 t.1.2.2.2.2.2.1 scope t.1.2.2.2.2.2.2.1 t.1.2.2.2.2.2.2.2
def lamF (F : Fam) (scope : Scope) (k : Nat) : FamW where
  F := {
    J := LamJ F scope k
    x := fun t => t.cx.nox
    P := F.P
    w := F.w
    K := F.K
    mg := F.mg
    base := F.base
    N := F.N
    sc := scope
    fn := fun _ => false
    k := k
    hP := fun t => F.hP t.1.1
    hw := fun t => F.hw t.1.1
    hK := fun t => F.hK t.1.1
    hmg := fun t => F.hmg t.1.1
    hbase := fun t => F.hbase t.1.1
    hN := fun t => F.hN t.1.1
    hsc := fun _ => rfl
    hfn := fun _ => rfl
    hc := fun _ => rfl
    hr := fun t => t.2.2
    hxe := fun _ => rfl
    hg := fun t => guards_in t.2.1 }
  W := fun t => fun cls d _ H => t.1.2.2.2.2.2.1 cls d H
  y := fun t => t.cx
  hy := fun _ => rfl
  hst := fun _ => rfl
  hfr := fun _ => rfl
  hex := fun _ => rfl
  po := fun _ => passes_of rfl
  tk := fun _ => takes_of rfl rfl rfl rfl

section
variable {L : List Sl} {σ : L2.St} {G G1 G2 G' H H1 H' : Hp} {i : Nat} {q : Str} {c' : Addr}
theorem Sta.hid (S : Sta L σ G H) : Sta (L.map hid) σ G H := by
  refine ⟨S.gh, by rw [List.length_map]; exact S.ln, fun i x t e1 e2 => ?_, fun i j a ds es e _ _ _ => (hid_own e).elim⟩
  rw [List.getElem?_map] at e2
  cases e : L[i]? with
  | none => rw [e] at e2; cases e2
  | some u =>
    rw [e] at e2
    have h := S.sl i x u e1 e
    cases u <;> cases e2 <;> first | exact h | trivial
/-- nothing but frozen data: over any later state -/
theorem Sta.reG (S : Sta (L.map DL.hid) σ G H) (g : Same G G') (gh : Same G' H') : Sta (L.map DL.hid) σ G' H' := by
  refine ⟨gh, S.ln, fun i x t e1 e2 => ?_, S.di⟩
  have h := S.sl i x t e1 e2
  rw [List.getElem?_map] at e2
  cases e : L[i]? with
  | none => rw [e] at e2; cases e2
  | some u =>
    rw [e] at e2
    cases u <;> cases e2 <;> first | trivial | exact (let ⟨v, e3, r⟩ := h; ⟨v, e3, r.up g⟩)
theorem Sta.tabs (S : Sta L σ G H) (hi : L[i]? = some .tb) : Tabs TabL.T H ∧ NoT G := by
  obtain ⟨_, _, h⟩ := S.get hi
  exact h
/-- a lambda was made -/
theorem Sta.made (S : Sta L σ G H) (n : NoT G) (m : Mkd H H1 c' q) : ∃ G2, Sta L σ G2 H1 ∧ Te L σ G H L G2 H1 ∧ G2 c' = some (CodeO c' q) := by
  have S1 : Sta L σ G H1 := by
    refine ⟨fun b o e => m.nt b o (S.gh b o e) (n b o e), S.ln, fun i x t e1 e2 => ?_, S.di⟩
    have h := S.sl i x t e1 e2
    cases t with
    | ow ds =>
      obtain ⟨a, xs, e, h1, h2, h3⟩ := h
      exact ⟨a, xs, e, m.nt _ _ h1 nt_lst, h2, h3⟩
    | tb => exact ⟨m.tb, h.2⟩
    | no => exact h
    | va d => exact h
    | fn f G1 => exact h
  have T1 : Te L σ G H L G H1 := ⟨Same.refl _, fun b o hb gb _ nt => ⟨m.nt b o hb nt.1, gb⟩, fun _ z => z, ⟨m.th, fun _ => m.tb, fun h => h⟩⟩
  cases e : G c' with
  | some o =>
    have h1 := S1.gh c' o e
    rw [m.co] at h1
    cases h1
    exact ⟨G, S1, T1, e⟩
  | none =>
    have nco : NT (CodeO c' q) := fun ps z => codeO_ne ps z
    have no : ¬ Own L σ c' := fun z => by
      obtain ⟨⟨xs, h⟩, _⟩ := S1.own_some z
      rw [m.co] at h
      unfold CodeO at h
      cases h
    obtain ⟨S2, g2⟩ := S1.freeze m.co e no nco
    refine ⟨_, S2, ⟨g2, fun b o hb gb nb nt => ?_, T1.ow, T1.th.trans (.frz nco)⟩, upd_same⟩
    refine ⟨m.nt b o hb nt.1, ?_⟩
    have hb2 : b ≠ c' := fun z => by
      have h1 := m.nt b o hb nt.1
      rw [z, m.co] at h1
      exact nt.2 c' q (Option.some.inj h1).symm
    rw [upd_ne hb2]
    exact gb
end
end DL
namespace DL
open PySem PyProof.Rows L2 LamX
variable [TabL]

/-- the lambda at f, made at G1 and s0: whoever calls it is told er -/
structure LamK (P : Program) (w : World) (K : PySem.W.Frag) (mg : Str → Option Value) (base : Heap) (G1 : Hp) (s0 : Shared) (H0 : Hp) (fs : List Addr) (f : Addr) (k : Nat) (er : Er) : Prop where
  fa : ∃ oc od fd sl, s0.heap.get? f = some ⟨oc, od, .func fd, sl⟩
  fh : H0 f = none
  ff : f ∉ fs
  go : ∀ (A : Around) (outer : List Env) (s1 : Shared) (HZ : Hp) (Q : VK) (E : XK), A.guards = some [] → Room k A → Env0 P w K mg base A outer s1 HZ → Un fs [] H0 HZ s0.heap s1.heap →
    (∃ GZ, Same G1 GZ ∧ Same GZ HZ ∧ ∀ cls dd G' H', Aft N0 GZ HZ G' H' → ErOk G' er cls dd → E cls dd H') → codeAny (model P w) A (.call (.ref f) ⟨[], []⟩) (CR (L2.CX P w) outer P w HZ s1 Q E) s1
section
variable {F : Fam} {L : List Sl} {σ : L2.St} {G1 H1 : Hp} {pins : List (Addr × Obj)} {s' : Shared} {scope : Scope} {body : Expr} {er : Er} {k : Nat} {q : Str} {params : Arguments} {f c' : Addr} {pm ctv : Value}
theorem lamK_of (j : F.J) (I : Inv (F.x j) pins σ H1 s') (Ls : LamS F.sc scope) (hq : (F.x j).env.qual ++ "<lambda>" = q) (hf : s'.heap.get? f = some (PySem.W.kla_obj "<lambda>" q params body scope (cloFrom (F.x j).env.cells scope.names []) pm c' ctv)) (hfn : H1 f = none) (hfr : f ∉ frs (F.x j).stack)
    (hb : ∀ (cl : List (Str × Addr)) (cv : Value), bindArgs (PySem.W.kla_fn "<lambda>" q params body scope cl pm cv ctv) ⟨[], []⟩ = pure []) (S1 : Sta (L.map DL.hid) σ G1 H1) (hco : G1 c' = some (CodeO c' q))
    (h : XeD (lamF F scope k) body (L.map DL.hid) er (L.map DL.hid)) : LamK F.P F.w F.K F.mg F.base G1 s' H1 (frs (F.x j).stack) f (k + 1) er := by
  refine ⟨⟨_, _, _, _, hf⟩, hfn, hfr, fun A outer s1 HZ Q E g r e0 un ⟨GZ, g1, gz, w⟩ => ?_⟩
  obtain ⟨te, pe, run⟩ := h
  have e0' : Env0 (F.x j).prog (F.x j).w (F.x j).K (F.x j).mg (F.x j).base A outer s1 HZ := by
    rw [F.hP, F.hw, F.hK, F.hmg, F.hbase]
    exact e0
  have go := lam_go (A := A) (outer := outer) (Q := Q) (E := E) I (by rw [F.hsc]; exact Ls) hq hf hfn hfr (hb _ _) r e0' un (gz _ _ (g1 _ _ hco)) (pe ⟨(j, A, outer, s1, HZ, E, f, c'), g, r.deeper _⟩)
    (run _ σ GZ HZ (S1.reG g1 gz) Q fun cls dd G' H' S' T' ok => w cls dd G' H' ⟨T'.g, S'.gh, fun b o hb gb _ => T'.fr b o hb gb (fun ⟨i, us, e, _⟩ => hid_own e), T'.th⟩ ok)
  rw [F.hP, F.hw] at go
  exact go
end

/-! ### a name that holds a function is called -/
section
variable {Y : FamW} {L : List Sl} {G1 : Hp} {f : Addr} {er : Er} {k : Nat} {a : Str} {p1 p2 : Pos}
theorem xe_callF (i : Nat) (hl : ∀ j, LamK Y.F.P Y.F.w Y.F.K Y.F.mg Y.F.base G1 (Y.y j).s_0 (Y.y j).H_0 (Y.y j).fs f k er) (hk : k ≤ Y.F.k) (hi : L[i]? = some (.fn f G1)) (hN : Y.F.N[i]? = some a := by rfl) (hv : Vis Y.F.sc a := by first | exact Or.inl rfl | exact Or.inr (Or.inl rfl) | exact Or.inr (Or.inr rfl))
    (hd : (a == ("__debug__" : Str)) = false := by decide) (hcd : (a == ("__classdict__" : Str)) = false := by decide) : XeD Y (.Call (.Name a p1) [] [] p2) L er L := by
  refine ⟨fun j σ H Q => ∃ G, Sta L σ G H ∧ ∀ cls dd G' H', Sta L σ G' H' → Te L σ G H L G' H' → ErOk G' er cls dd → Y.W j cls dd σ H', fun j => ⟨fun pins s σ H Q I ⟨G, S, q⟩ => ?_⟩, fun j σ G H S Q q => ⟨G, S, q⟩⟩
  obtain ⟨x0, e1, ex, sg⟩ := S.get hi
  subst ex
  refine wpAny_Call_Name_kw (thn ((Y.pe (pvF Y.F (pos := p1) i hN hv hd hcd) j).run pins s σ H (fun v H1 => v = .ref f ∧ H1 = H) I ⟨.ref f, e1, rfl, rfl⟩) fun u s1 ⟨v, H1, I1, r1, ev, eH⟩ => ?_)
  subst ev eH
  obtain rfl : u = Value.ref f := r1
  have K0 := hl j
  have un : Un (Y.y j).fs [] (Y.y j).H_0 H1 (Y.y j).s_0.heap s1.heap := by
    have := I1.base
    rw [Y.hex j] at this
    exact this
  obtain ⟨oc, od, fd, sl, hf⟩ := K0.fa
  have hf1 := un.keep f _ hf K0.fh K0.ff (fun z => nomatch (show f ∈ ([] : List Addr) from z))
  refine PySem.W.callWith_F0 ⟨_, _, _, _, hf1⟩ ?_
  have e0 : Env0 Y.F.P Y.F.w Y.F.K Y.F.mg Y.F.base (Y.y j).A (Y.y j).stack s1 H1 := by
    have := I1.env0
    rw [Y.hP, Y.hw, Y.hK, Y.hmg, Y.hbase] at this
    exact this
  have c := K0.go (Y.y j).A (Y.y j).stack s1 H1 Q (WE (Y.W j) σ) (Y.hg j) ((Y.hr j).mono hk) e0 un ⟨G, sg, S.gh, fun cls dd G' H' A ok => by
    obtain ⟨S2, T2⟩ := S.aft A
    exact q cls dd G' H' S2 T2 ok⟩
  rw [← Y.hP j, ← Y.hw j] at c
  refine wpAny_call (codeAny_mono c fun res t ht => ?_)
  match res, ht with
  | .ok (.ret u), ht => exact I1.after ht
  | .ok .next, ht => exact ht.elim
  | .ok .brk, ht => exact ht.elim
  | .ok .cont, ht => exact ht.elim
  | .error e, ht => exact passAt (Y.tk j) σ pins H1 s1 e t I1 ht
end

/-! ### a def that gets a lambda -/
structure DfL (P : Program) (w : World) (K : PySem.W.Frag) (mg : Str → Option Value) (base : Heap) (x : Str) (k : Nat) (Φ : Er → PyData → Prop) : Prop where
  ex : ∃ (g : Addr) (fd : FuncData) (a : Str), mg x = some (.ref g) ∧ PySem.W.keepIn K (.ref g) = true ∧ (∀ (s : Shared) (u : Value), K.In s.heap → BindsTo s fd ⟨[u], []⟩ [(a, u)]) ∧
    ∀ (er : Er) (r : PyData) (f : Addr) (G1 : Hp) (A : Around) (outer : List Env) (s : Shared) (H : Hp) (args : Args) (Q : VK), Φ er r → A.guards = some [] → Room (k + 1) A → Env0 P w K mg base A outer s H → BindsTo s fd args [(a, .ref f)] → LamK P w K mg base G1 s H (frs outer) f k er → Same G1 H →
      (∀ v G' H', Aft N0 G1 H G' H' → Rp G' v r → Q v H') → codeAny (model P w) A (.call (.ref g) args) (CR CX0 outer P w H s Q E0) s
theorem DfL.mono {P : Program} {w : World} {K : PySem.W.Frag} {mg : Str → Option Value} {base : Heap} {x : Str} {k : Nat} {Φ : Er → PyData → Prop} (D : DfL P w K mg base x k Φ) : DfL P w K mg base x k Φ := D
/-- the contexts of its body, at such a lambda's calls -/
def famL (P : Program) (w : World) (K : PySem.W.Frag) (mg : Str → Option Value) (base : Heap) (N : List Str) (qual : Str) (sc : Scope) (g : Addr) (k : Nat) (G1 : Hp) (f : Addr) (er : Er) : Fam :=
  (famOf P w K mg base N qual sc g k).pull { j : FamJ qual sc g k // LamK P w K mg base G1 j.1.2.2.2.1 j.1.2.2.2.2 (frs j.1.2.2.1) f k er } (·.1)
def startF (N : List Str) (f : Addr) (G1 : Hp) : List Sl := .fn f G1 :: List.replicate (N.length - 1) .no
theorem startF_get {N : List Str} {f : Addr} {G1 : Hp} {i : Nat} {t : Sl} (h : (startF N f G1)[i]? = some t) : t = .fn f G1 ∧ i = 0 ∨ t = .no := by
  cases i with
  | zero => exact .inl ⟨(Option.some.inj h).symm, rfl⟩
  | succ i => exact .inr (List.eq_of_mem_replicate (List.mem_of_getElem? (show (List.replicate (N.length - 1) Sl.no)[i]? = some t from h)))
theorem staF {N : List Str} {f : Addr} {G H : Hp} (gh : Same G H) (hl : 1 ≤ N.length) : Sta (startF N f G) (L2.start N [.ref f]) G H := by
  refine ⟨gh, ?_, fun i x t e1 e2 => ?_, fun i j a us ws e1 _ _ _ => ?_⟩
  · unfold L2.start startF
    simp
  · rcases startF_get e2 with ⟨rfl, rfl⟩ | rfl
    · have : x = some (.ref f) := by
        unfold L2.start at e1
        simpa using e1.symm
      exact ⟨this, Same.refl _⟩
    · trivial
  · rcases startF_get e1 with ⟨z, _⟩ | z <;> cases z
theorem noOwnF {N : List Str} {f : Addr} {G1 : Hp} {σ : L2.St} {b : Addr} : ¬ Own (startF N f G1) σ b := by
  rintro ⟨i, us, e, _⟩
  rcases startF_get e with ⟨z, _⟩ | z <;> cases z
/-- a def's call at one state, by its body there -/
theorem fn_at {P : Program} {w : World} {K : PySem.W.Frag} {mg : Str → Option Value} {base : Heap} {k : Nat} {f : Addr} {fname qual : Str} {params : Arguments} {body : List Stmt} {scope : Scope} {dV kV doc pm cdv ct oc : Value} {an od : Option Addr} {osl : Array (Option Value)} {N ps : List Str} {A : Around} {outer : List Env} {s : Shared} {H : Hp} {args : Args} {us : List Value} {vs : List V} {Q : VK}
    (lk : K.lookup f = some ⟨oc, od, .func (PySem.W.fnOf fname qual params body scope dV kV doc pm an cdv ct), osl⟩) (hcd : PySem.W.codeIn K cdv qual = true) (S : FnScope N ps scope) (hr : Room (k + 1) A) (e0 : Env0 P w K mg base A outer s H) (hb : BindsTo s (PySem.W.fnOf fname qual params body scope dV kV doc pm an cdv ct) args (ps.zip us)) (r : Vals vs us) (len : vs.length = ps.length)
    (hbody : ∃ t, PSs (cxOf CX0 P w K mg base N qual scope f cdv A outer s H E0).nox body t ∧ t { nx := fun _ H' => Q .non H', rt := Q } (start N vs) H) : codeAny (model P w) A (.call (.ref f) args) (CR CX0 outer P w H s Q E0) s := by
  have bk : ∀ b o, base.get? b = some o → s.heap.get? b = some o := fun b o e => (e0.bs b o e).1
  have inK := e0.mod.kin.keeps bk
  refine codeAny_call_function hr.depth (inK _ _ lk) rfl S.co S.gen rfl (PySem.W.codeRec_of inK hcd) (hb _ _ _ _ (wpAny_newFunctionEnv_cells S.kind (fun y hy => ?_) fun env ee s1 x => ?_))
  · cases S.par y.1 (List.of_mem_zip (show (y.1, y.2) ∈ ps.zip us from hy)).1 with
    | inl q => exact .inl q
    | inr q => exact .inr ⟨q, PySem.W.cellsFrom_some _ _ _ (.inl q)⟩
  subst ee
  obtain ⟨t, ht, hq⟩ := hbody
  refine ⟨(e0.mod.nolimit.keeps bk).keeps x.toInCall.keep, codeAny_func (wpAny_mono (ht.nox.run [] s1 (start N vs) H _ (inv_start (CX := CX0) (P := P) (N := N) (qual := qual) (f := f) (cd := cdv) (E := E0) S hr.hd e0 len r x) hq) (fun fl t2 h2 => ?_) fun e t2 h2 => h2)⟩
  match fl, h2 with
  | .ret u, ⟨v, σ2, H2, J, rv, q⟩ => exact ⟨v, H2, J.os, J.bare, J.base, J.hok, rv, q⟩
  | .next, ⟨σ2, H2, J, q⟩ => exact ⟨.non, H2, J.os, J.bare, J.base, J.hok, rfl, q⟩
  | .brk, ⟨_, _, _, q⟩ => exact q.elim
  | .cont, ⟨_, _, _, q⟩ => exact q.elim
section
variable {P : Program} {w : World} {K : PySem.W.Frag} {mg : Str → Option Value} {base : Heap} {x qual : Str} {st : Stmt} {g : Addr} {fd : FuncData} {N : List Str} {a : Str} {k : Nat} {Φ : Er → PyData → Prop}
theorem funLam (Fn : Fun K x qual st g fd) (S : FnScope N [a] (defScope st)) (hb : ∀ er r f G1, Φ er r → ∃ L', SsD [] (famL P w K mg base N qual (defScope st) g k G1 f er) (defBody st) (startF N f G1) (.rt r L')) (m : mg x = some (.ref g)) (b : Binds K fd [a] []) : DfL P w K mg base x k Φ := by
  refine ⟨g, fd, a, m, Fn.kp, fun s u inK => ?_, fun er r f G1 A outer s H args Q hΦ hg hr e0 hbd LK gh q => ?_⟩
  · have := b s [u] inK rfl
    rw [List.append_nil] at this
    exact this
  · obtain ⟨oc, od, kV, doc, pm, an, cdv, ct, osl, rfl, lk, hcd⟩ := Fn.ex
    obtain ⟨L', ts, ps, run⟩ := hb er r f G1 hΦ
    refine fn_at (us := [.ref f]) (vs := [.ref f]) lk hcd S hr e0 hbd (.cons rfl .nil) rfl ⟨ts, ps ⟨⟨(cdv, A, outer, s, H), hg, hr.deeper _⟩, LK⟩, run _ G1 H (staF gh (FnScope.fit S)) _ fun v σ' G' H' S' T' _ rv => ?_⟩
    exact q v G' H' ⟨T'.g, S'.gh, fun b o hb gb _ => T'.fr b o hb gb noOwnF, T'.th⟩ rv
end

/-! ### x(lambda: body) -/
section
variable {F : Fam} {L : List Sl} {i k : Nat} {x : Str} {Φ : Er → PyData → Prop} {er : Er} {r : PyData} {c Pt : Addr} {q : Str} {params : Arguments} {body : Expr} {scope : Scope} {p lpos pos : Pos}
theorem ed_lam (i : Nat) (D : DfL F.P F.w F.K F.mg F.base x (k + 1) Φ) (hk : k + 2 ≤ F.k) (hcode : ∀ j, (F.x j).env.code = .ref c) (hq : ∀ j, (F.x j).env.qual ++ "<lambda>" = q) (TB : TabB F.base F.mg c Pt) (hm : (Pt, q) ∈ TabL.T) (hu : ∀ p ∈ TabL.T, p.1 = Pt → p.2 = q) (hi : L[i]? = some .tb)
    (h : XeD (lamF F scope k) body (L.map DL.hid) er (L.map DL.hid)) (hΦ : Φ er r) (Ls : LamS F.sc scope) (hdef : ∀ j, defaultsOf params (F.x j).env = ([], []) := by intro _; rfl)
    (hb : ∀ (cl : List (Str × Addr)) (pm cv ctv : Value), bindArgs (PySem.W.kla_fn "<lambda>" q params body scope cl pm cv ctv) ⟨[], []⟩ = pure []) (hg : GlF F x := by rfl) (hdb : (x == ("__debug__" : Str)) = false := by decide) : ED F (.Call (.Name x p) [.Lambda params body scope lpos] [] pos) L r L := by
  obtain ⟨g, fd, a, mf, kp, hbd, go⟩ := D.ex
  refine ⟨fun σ H Q => ∃ G, Sta L σ G H ∧ ∀ v G' H', Sta L σ G' H' → Te L σ G H L G' H' → Rp G' v r → Q v H', fun j => ⟨fun pins s σ H Q I ⟨G, S, w⟩ => ?_⟩, fun σ G H S Q w => ⟨G, S, w⟩⟩
  obtain ⟨hT, hG⟩ := S.tabs hi
  have LsX : LamS (F.x j).env.scope scope := by rw [F.hsc]; exact Ls
  have TBX : TabB (F.x j).base (F.x j).mg c Pt := by rw [F.hbase, F.hmg]; exact TB
  refine wpAny_Call_Name_kw (ld_glob I (hg.gl j) (by rw [F.hmg]; exact mf) ?_ hdb)
  refine PySem.W.callWith_K (K := F.K) (h₀ := (F.x j).base) (by rw [← F.hK j]; exact I.ok.mod.kin) kp ?_ (by rfl) (by rfl)
  refine Calls.spliced_cons (lam_mk I TBX (hcode j) (hq j) hm hu hT (hdef j) (LsX.has I.ok) fun f c' pm ctv H1 s' I1 mkd hf hfn hfr => ?_)
  have inK : F.K.In s'.heap := by
    rw [← F.hK j]
    exact I1.kIn
  refine Calls.spliced_nil ⟨inK, ?_⟩
  obtain ⟨G2, S2, T2, hco⟩ := S.made hG mkd
  have LK := lamK_of j I1 Ls (hq j) hf hfn hfr (fun cl cv => hb cl pm cv ctv) S2.hid hco h
  have e0 : Env0 F.P F.w F.K F.mg F.base (F.x j).A (F.x j).stack s' H1 := by
    have := I1.env0
    rw [F.hP, F.hw, F.hK, F.hmg, F.hbase] at this
    exact this
  have cc := go er r f G2 (F.x j).A (F.x j).stack s' H1 ⟨[.ref f], []⟩ Q hΦ (F.hg j) ((F.hr j).mono hk) e0 (hbd s' (.ref f) inK) LK S2.gh fun v G' H' A rv => by
    obtain ⟨S3, T3⟩ := S2.aft A
    exact w v G' H' S3 (T2.trans T3) rv
  rw [← F.hP j, ← F.hw j] at cc
  refine wpAny_call (codeAny_mono cc fun res t ht => ?_)
  match res, ht with
  | .ok (.ret u), ht => exact I1.after ht
  | .ok .next, ht => exact ht.elim
  | .ok .brk, ht => exact ht.elim
  | .ok .cont, ht => exact ht.elim
  | .error e, ht => exact ht.elim
end
end DL
namespace DL
open PySem PyProof.Rows L2 LamX
variable [TabL]
section
variable {F : Fam} {tg iter elt : Expr} {body : List Stmt} {its : List PyData} {x : Str} {σ : L2.St} {G H : Hp} {n : Nat}
/-- nothing known, but the tables (told at slot j) -/
def noT (n j : Nat) : List Sl := (noL n).set j .tb
theorem noT_at {n j k : Nat} {t : Sl} (h : (noT n j)[k]? = some t) : t = .no ∨ t = .tb := by
  unfold noT at h
  by_cases e : j = k
  · subst e
    have hl : j < (noL n).length := by
      have := (List.getElem?_eq_some_iff.mp h).1
      rwa [List.length_set] at this
    rw [List.getElem?_set_self hl] at h
    exact .inr (Option.some.inj h).symm
  · rw [List.getElem?_set_ne e] at h
    exact .inl (noL_at h)
theorem noT_own {n j : Nat} {q : Addr} : ¬ Own (noT n j) σ q := fun ⟨k, us, e, _⟩ => by rcases noT_at e with z | z <;> cases z
theorem staT {j : Nat} (hl : σ.length = n) (gh : Same G H) (t : Tabs TabL.T H ∧ NoT G) : Sta (noT n j) σ G H :=
  ⟨gh, by rw [hl]; simp [noT, noL], fun k x u _ e => by rcases noT_at e with rfl | rfl <;> first | trivial | exact t, fun i j q ds es e _ _ _ => by rcases noT_at e with z | z <;> cases z⟩
/-- for x in a row of new lists, each one's own while its turn goes on, the tables told -/
theorem for_freshT {C : L2.St → Hp → Prop} {px fp : Pos} (i0 j : Nat) (fr : PyData → List PyData) (hn : n = F.N.length) {le : Expr}
    (hl : ∃ tl, PEf F le tl ∧ ∀ σ G H, Sta (noL n) σ G H → C σ H → ∀ Q : VK, (∀ q rs G' H', Sta (noL n) σ G' H' → Te (noL n) σ G H (noL n) G' H' → H' q = some (.lst (rs.map fun w => V.ref w.1)) → G' q = none → Pen G' H' rs → rs.map (·.2) = its.map fr → (∀ w ∈ rs, w.1 ≠ q ∧ H w.1 = none) → Q (.ref q) H') → tl σ H Q)
    (hb : ∀ d, d ∈ its → SsD [] F body ((noT n j).set i0 (.ow (fr d))) (.nx (noT n j)))
    (hs : ∀ env x, foldedSetIterable le env x = pure x) (hi : F.N[i0]? = some x := by rfl) (hx : Loc F.sc x := by first | exact Or.inl rfl | exact Or.inr rfl) (hf : StF F x := by first | exact Or.inl rfl | exact Or.inr rfl) (hN : F.N.Nodup := by exact of_decide_eq_true rfl) :
    ∃ ts, PSf F (.For (.Name x px) le body [] fp) ts ∧ ∀ σ G H, Sta (noT n j) σ G H → C σ H → Tabs TabL.T H ∧ NoT G → ∀ D, EndOk [] (noT n j) σ G H D (.nx (noT n j)) → ts D σ H := by
  obtain ⟨tl, pe, run⟩ := hl
  have pg : PGf F (.Name x px) (gName i0) := fun j => pg_name (by rw [F.hN]; exact hN) (by rw [F.hN]; exact hi) (locF hx j) (hf.at j)
  refine ⟨_, for_any (plf F pe) pg hs, fun σ0 G0 H0 S0 cH tabs D q => run σ0 G0 H0 (staNo (by rw [S0.ln]; simp [noT, noL]) S0.gh) cH _ fun p0 rs G1 H1 S1 T1 hp gp pen hrs hne => ?_⟩
  have hi0 : i0 < n := by rw [hn]; exact (List.getElem?_eq_some_iff.mp hi).1
  have ln0 : σ0.length = n := by rw [S0.ln]; simp [noT, noL]
  have T1' : Ts (noT n j) σ0 G0 H0 (noT n j) σ0 G1 H1 := ⟨T1.g, fun b o hb gb _ => T1.fr b o hb gb noL_own, fun b w => (noT_own w).elim, T1.th⟩
  refine ⟨p0, rfl, ⟨_, SqL.of hp⟩, fun i k σ H => k = rs.length - i ∧ i ≤ rs.length ∧ ∃ G, Sta (noT n j) σ G H ∧ Ts (noT n j) σ0 G0 H0 (noT n j) σ G H ∧ H p0 = some (.lst (rs.map fun w => V.ref w.1)) ∧ G p0 = none ∧ Pen G H (rs.drop i), ⟨rs.length, by simp, Nat.zero_le _, G1, staT ln0 S1.gh (T1.th.tabs tabs), T1', hp, gp, pen⟩, ?_⟩
  rintro i k σ H ⟨rfl, him, G, S, T0, hpi, gpi, peni⟩
  by_cases h : i < rs.length
  case neg =>
    refine .inl ⟨⟨_, SqL.of hpi, by rw [List.length_map]; omega⟩, ?_⟩
    exact q σ G H S T0 fun k hk => by cases hk
  have ed : rs.drop i = rs[i] :: rs.drop (i + 1) := List.drop_eq_getElem_cons h
  refine .inr ⟨⟨_, V.ref rs[i].1, SqL.of hpi, by rw [List.getElem?_map, List.getElem?_eq_getElem h]; rfl⟩, fun σ' H' => i + 1 ≤ rs.length ∧ ∃ G, Sta (noT n j) σ' G H' ∧ Ts (noT n j) σ0 G0 H0 (noT n j) σ' G H' ∧ H' p0 = some (.lst (rs.map fun w => V.ref w.1)) ∧ G p0 = none ∧ Pen G H' (rs.drop (i + 1)), fun σ' H' ⟨h1, w⟩ => ⟨rs.length - (i + 1), by omega, rfl, h1, w⟩, fun v H' hv => ?_⟩
  obtain ⟨rfl, hv2⟩ := hv
  have ev := hv2 _ (SqL.of hpi)
  rw [List.getElem?_map, List.getElem?_eq_getElem h] at ev
  obtain rfl : v = V.ref rs[i].1 := (Option.some.inj ev).symm
  rw [ed] at peni
  obtain ⟨xs, w1, w2, w3⟩ := peni.it rs[i] (List.mem_cons_self ..)
  have hmem : rs[i].2 ∈ its.map fr := by
    rw [← hrs]
    exact List.mem_map_of_mem (List.getElem_mem h)
  obtain ⟨d, hd, efr⟩ := List.mem_map.mp hmem
  obtain ⟨S2, O2⟩ := S.set_ow (i := i0) (by simp [noT, noL]; exact hi0) w1 w2 noT_own w3
  rw [← efr] at S2 O2
  obtain ⟨tb, pb, runb⟩ := hb d hd
  refine ⟨tb, pb, runb _ G H' S2 _ fun σ' G' H2 S' T' A' => ?_⟩
  have only : ∀ b, Own ((noT n j).set i0 (Sl.ow (fr d))) (σ.set i0 (some (V.ref rs[i].1))) b → b = rs[i].1 := fun b w => (O2 b w).elim (fun w => (noT_own w).elim) id
  have nd := peni.nd
  rw [List.map_cons, List.nodup_cons] at nd
  have keep : ∀ b o, H' b = some o → G b = none → b ≠ rs[i].1 → Pl o → H2 b = some o ∧ G' b = none := fun b o e1 e2 e3 nt => T'.fr b o e1 e2 (fun w => e3 (only b w)) nt
  obtain ⟨k1, k2⟩ := keep p0 _ hpi gpi (hne _ (List.getElem_mem h)).1.symm pl_lst
  refine ⟨by omega, G', S', ?_, k1, k2, ⟨fun w hw => ?_, nd.2⟩⟩
  · refine ⟨T0.g.trans T'.g, fun b o hb' gb _ nt => ?_, fun b w => (noT_own w).elim, T0.th.trans T'.th⟩
    obtain ⟨q1, q2⟩ := T0.fr b o hb' gb noT_own nt
    exact keep b o q1 q2 (ne_of_none hb' (hne _ (List.getElem_mem h)).2) nt
  · obtain ⟨ys, f1, f2, f3⟩ := peni.it w (List.mem_cons_of_mem _ hw)
    obtain ⟨f4, f5⟩ := keep _ _ f1 f2 (fun e => nd.1 (by rw [← e]; exact List.mem_map_of_mem hw)) pl_lst
    exact ⟨ys, f4, f5, f3.up T'.g⟩
end

/-! ### the end: the law's own call, tables told -/
section
variable {P : Program} {w : World} {K : PySem.W.Frag} {mg mb : Str → Option Value} {k : Nat} {fa a : Addr} {fd : FuncData} {x : Str} {sp : Sp} {t : Shared} {us : List Value} {ns : List Int} {cs : List (Addr × Addr × Str)}
theorem law_overT {H : Hp} (inK : K.In t.heap) (gl : t.heap.Ns mainGlobals mg) (bl : t.heap.Ns builtinsNs mb) (bb : ∀ x : Str, x ≠ "__name__" → mb x = bootBuiltins x) (lim : t.heap.NoLimit) (gens : t.gens = #[])
    (bm : ∃ (b : Addr) (ob : Obj), mg "__builtins__" = some (.ref b) ∧ b ≠ builtinsNs ∧ t.heap.get? b = some ob ∧ ob.cls = .type "module" ∧ ob.dict = some builtinsNs ∧ ob.data = .plain)
    (scr : t.heap.get? a = some { cls := .type "list", data := .seq us.toArray }) (hr : Room k callerA) (hT : ∀ p ∈ cs, t.heap.get? p.2.1 = some { cls := .none, data := .fields #[] }) (hC : ∀ p ∈ cs, PySem.W.CodeHd t.heap p.1 p.2.1)
    (Fn : ∀ base : Heap, K.In base → base.Ns mainGlobals mg → (∀ p ∈ cs, TabB base mg p.1 p.2.1) → FnG P w K mg base k fa fd [x] sp) (bind : ∀ (s : Shared) (u : Value), BindsTo s fd ⟨[u], []⟩ [(x, u)])
    (only : ∀ b u, H b = some u → (b = a ∧ (∃ o xs, u = .frz o (.lst xs)) ∧ K.lookup a = none) ∨ ((∃ p ∈ cs, b = p.2.1) ∧ u = .tbl #[] ∧ K.lookup b = none)) (ok : HOk P w H t.heap) (hsp : sp [.ref a] H (fun v _ => v = .bl true) E0) :
    codeAny (model P w) callerA (.call (.ref fa) ⟨[.ref a], []⟩) (fun r t' => r = .ok (.ret (.bool true)) ∧ OldK t.heap t'.heap ∧ t'.os = t.os ∧ AllBare t'.gens) t := by
  let base := hidT t.heap H
  have free : ∀ {b : Addr} {o : Obj}, t.heap.get? b = some o → (∀ vs n, o.data ≠ .seq vs n) → o.data ≠ .fields #[] → H b = none := by
    intro b o e nd nf
    cases q : H b with
    | none => rfl
    | some u =>
      rcases only b u q with ⟨rfl, _⟩ | ⟨⟨p, hp, rfl⟩, _⟩
      · rw [scr] at e
        cases e
        exact absurd rfl (nd _ _)
      · rw [hT p hp] at e
        cases e
        exact absurd rfl nf
  have ns : ∀ {b : Addr} {m : Str → Option Value}, t.heap.Ns b m → base.Ns b m := by
    rintro b m ⟨o, es, ep, e, d, r⟩
    exact ⟨o, es, ep, hidT_get e (free e (fun vs n z => by rw [d] at z; cases z) fun z => by rw [d] at z; cases z), d, r⟩
  have bK : K.In base := fun b o e => hidT_get (inK b o e) (by
    cases q : H b with
    | none => rfl
    | some u =>
      rcases only b u q with ⟨rfl, _, z⟩ | ⟨_, _, z⟩ <;>
      · rw [z] at e
        cases e)
  have mod : Mod K mg base := ⟨bK, ns gl, ⟨mb, ns bl, bb⟩, by
    obtain ⟨mc, h1, h2⟩ := lim
    exact ⟨mc, ns h1, h2⟩⟩
  have e0 : Env0 P w K mg base callerA [] t H := {
    frames := rfl
    mod := mod
    bs := fun b o e => of_hidT e
    bsz := Nat.le_of_eq (hidT_size _ _)
    funs := trivial
    frf := fun b hb => nomatch (show b ∈ ([] : List Addr) from hb)
    hok := ok
    bare := .of_eq gens }
  have tabs : ∀ p ∈ cs, TabB base mg p.1 p.2.1 := fun p hp => by
    have hTp := hT p hp
    obtain ⟨o, vs, file, tf, flags, tg, inF, text, tt, e1, r1, r2, r3, r4⟩ := hC p hp
    obtain ⟨b, ob, b1, b2, b3, b4, b5, b6⟩ := bm
    obtain ⟨og, esg, epg, eg, dg, _⟩ := gl
    refine ⟨⟨o, vs, file, tf, flags, tg, inF, text, tt, hidT_get e1 (free e1 (fun _ _ z => by rw [r2] at z; cases z) fun z => ?_), r1, r2, r3, r4⟩, ⟨b, ob, b1, b2, fun q => ?_, fun q => ?_, hidT_get b3 (free b3 (fun _ _ z => by rw [b6] at z; cases z) fun z => by rw [b6] at z; cases z), b4, b5, b6⟩, fun z => ?_⟩
    · rw [r2] at z
      cases z
      cases r3
    · rw [q, eg] at b3
      cases b3
      rw [dg] at b6
      cases b6
    · rw [q, hTp] at b3
      cases b3
      cases b6
    · rw [z, hTp] at eg
      cases eg
      cases dg
  have run := (Fn base bK (ns gl) tabs).go callerA [] t H ⟨[.ref a], []⟩ [.ref a] [.ref a] _ rfl hr e0 (bind t (.ref a)) (.cons rfl .nil) hsp
  refine codeAny_mono run fun res t' h => ?_
  match res, h with
  | .error e, h => exact h.elim
  | .ok .next, h => exact h.elim
  | .ok .brk, h => exact h.elim
  | .ok .cont, h => exact h.elim
  | .ok (.ret u), ⟨v, H', os, bare, un, ok', rv, hv⟩ =>
    obtain rfl : v = V.bl true := hv
    obtain rfl : u = Value.bool true := rv
    refine ⟨rfl, ⟨fun b o e => ?_, fun b o e => ?_⟩, os, bare⟩
    · cases q : H b with
      | none => exact .inl (un.keep b o e q (fun z => nomatch (show b ∈ ([] : List Addr) from z)) (fun z => nomatch z))
      | some hu =>
        rcases only b hu q with ⟨_, ⟨ob, xs, rfl⟩, _⟩ | ⟨⟨p, hp, rfl⟩, rfl, _⟩
        · have e1 := (ok b _ q).1
          have e2 := (ok' b _ (un.frzs b ob _ q)).1
          rw [e] at e1
          cases e1
          exact .inl e2
        · obtain ⟨more, z⟩ := un.tbls _ _ q
          rw [hT p hp] at e
          cases e
          exact .inr (.inl ⟨((hC p hp).tab (hT p hp)).isCodeTable, rfl, #[], more, rfl, ok' _ _ z⟩)
    · cases q : H b with
      | none => exact ⟨o, un.keep b o e q (fun z => nomatch (show b ∈ ([] : List Addr) from z)) (fun z => nomatch z)⟩
      | some hu =>
        rcases only b hu q with ⟨_, ⟨ob, xs, rfl⟩, _⟩ | ⟨⟨p, hp, rfl⟩, rfl, _⟩
        · exact ⟨_, (ok' b _ (un.frzs b ob _ q)).1⟩
        · obtain ⟨more, z⟩ := un.tbls _ _ q
          exact ⟨_, ok' _ _ z⟩
theorem lawT (inK : K.In t.heap) (gl : t.heap.Ns mainGlobals mg) (bl : t.heap.Ns builtinsNs mb) (bb : ∀ x : Str, x ≠ "__name__" → mb x = bootBuiltins x) (lim : t.heap.NoLimit) (gens : t.gens = #[])
    (bm : ∃ (b : Addr) (ob : Obj), mg "__builtins__" = some (.ref b) ∧ b ≠ builtinsNs ∧ t.heap.get? b = some ob ∧ ob.cls = .type "module" ∧ ob.dict = some builtinsNs ∧ ob.data = .plain)
    (scr : t.heap.get? a = some { cls := .type "list", data := .seq us.toArray }) (nums : IntsAre us ns) (small : ns.length ≤ sizeLine) (hr : Room k callerA) (hT : ∀ p ∈ cs, t.heap.get? p.2.1 = some { cls := .none, data := .fields #[] }) (hC : ∀ p ∈ cs, PySem.W.CodeHd t.heap p.1 p.2.1) (hN : ∀ p ∈ cs, K.lookup p.2.1 = none)
    (Fn : ∀ base : Heap, K.In base → base.Ns mainGlobals mg → (∀ p ∈ cs, TabB base mg p.1 p.2.1) → FnG P w K mg base k fa fd [x] sp) (bind : ∀ (s : Shared) (u : Value), BindsTo s fd ⟨[u], []⟩ [(x, u)])
    (hsp : ∀ H : Hp, Tabs (cs.map (·.2)) H → SqL K H a (ns.map V.int) → sp [.ref a] H (fun v _ => v = .bl true) E0) :
    codeAny (model P w) callerA (.call (.ref fa) ⟨[.ref a], []⟩) (fun r t' => r = .ok (.ret (.bool true)) ∧ OldK t.heap t'.heap ∧ t'.os = t.os ∧ AllBare t'.gens) t := by
  have rv := intVals nums
  have aT : ∀ p ∈ cs, p.2.1 ≠ a := fun p hp z => by
    have q := hT p hp
    rw [z, scr] at q
    have q' : Data.seq us.toArray _ = Data.fields #[] := congrArg Obj.data (Option.some.inj q)
    cases q'
  classical
  let HT : Hp := fun b => if ∃ p ∈ cs, b = p.2.1 then some (.tbl #[]) else none
  have ht1 : ∀ p ∈ cs, HT p.2.1 = some (.tbl #[]) := fun p hp => if_pos ⟨p, hp, rfl⟩
  have ht2 : ∀ b u, HT b = some u → (∃ p ∈ cs, b = p.2.1) ∧ u = .tbl #[] ∧ K.lookup b = none := fun b u z => by
    by_cases e : ∃ p ∈ cs, b = p.2.1
    · rw [show HT b = _ from if_pos e] at z
      refine ⟨e, (Option.some.inj z).symm, ?_⟩
      obtain ⟨p, hp, rfl⟩ := e
      exact hN p hp
    · rw [show HT b = _ from if_neg e] at z
      cases z
  have okT : ∀ b u, HT b = some u → ObjOk P w HT t.heap b u ∧ u = .tbl #[] := fun b u z => by
    obtain ⟨⟨p, hp, rfl⟩, rfl, _⟩ := ht2 b u z
    exact ⟨hT p hp, rfl⟩
  cases hk : K.lookup a with
  | some o =>
    have e := inK a o hk
    rw [scr] at e
    cases e
    refine law_overT (H := HT) inK gl bl bb lim gens bm scr hr hT hC Fn bind (fun b u z => .inr (ht2 b u z)) (fun b u z => (okT b u z).1) (hsp _ (fun p hp => ?_) (.inr ?_))
    · obtain ⟨r, hr, rfl⟩ := List.mem_map.mp hp
      exact TabS.nil (ht1 r hr)
    · exact ⟨_, us.toArray, _, hk, rfl, rfl, rfl, by rw [List.size_toArray, nums.length]; exact small, by simpa using rv⟩
  | none =>
    let HS : Hp := fun b => if b = a then some (.frz { cls := .type "list", data := .seq us.toArray } (.lst (ns.map V.int))) else HT b
    have hs1 : HS a = some (.frz { cls := .type "list", data := .seq us.toArray } (.lst (ns.map V.int))) := if_pos rfl
    have hs2 : ∀ b, b ≠ a → HS b = HT b := fun b e => if_neg e
    refine law_overT (H := HS) inK gl bl bb lim gens bm scr hr hT hC Fn bind (fun b u z => ?_) (fun b u z => ?_) (hsp _ (fun p hp => ?_) (.inl (.inr ⟨_, hs1⟩)))
    · by_cases e : b = a
      · subst e
        rw [hs1] at z
        cases z
        exact .inl ⟨rfl, ⟨_, _, rfl⟩, hk⟩
      · rw [hs2 b e] at z
        exact .inr (ht2 b u z)
    · by_cases e : b = a
      · subst e
        rw [hs1] at z
        cases z
        exact ⟨scr, by rw [List.length_map]; exact small, us, _, rv, scr⟩
      · rw [hs2 b e] at z
        obtain ⟨⟨p, hp, rfl⟩, rfl, _⟩ := ht2 b u z
        exact hT p hp
    · obtain ⟨r, hr, rfl⟩ := List.mem_map.mp hp
      exact TabS.nil (by rw [hs2 _ (aT r hr)]; exact ht1 r hr)
end
/-- the tables of the defs of the top are empty still -/
def TabF (q : Program) (K : PySem.W.Frag) (mg : Str → Option Value) (h : Heap) : Prop := ∀ (nm : Str) (f c P : Addr) (oc : Value) (od : Option Addr) (fd : FuncData) (sl : Array (Option Value)) (e : Value) (dd : Option Addr) (vs : Array Value) (s2 : Array (Option Value)), ((PyProof.Rows.recsOf q).any fun e => e.name == nm) = true → mg nm = some (.ref f) →
  K.lookup f = some ⟨oc, od, .func fd, sl⟩ → fd.code = .ref c → K.lookup c = some ⟨e, dd, .fields vs, s2⟩ → vs[11]? = some (.ref P) → h.get? P = some { cls := .none, data := .fields #[] } ∧ PySem.W.CodeHd h c P
/-- what k_head leaves, from the promise of the law's def, tables told -/
theorem walkT {l : PySem.W.OpenLaw} {n k : Nat} {q : Program} {loose : List Str} {XP : (Str → Option Value) → Heap → Prop} {YP : World → Heap → Prop} {d : DefRec} {K : Params → PySem.W.Frag} {sp : World → List (Addr × Str) → Sp} {x : Str}
    (hn : l.most = some n) (hn2 : n ≤ sizeLine) (hdf : d.params.defaults = []) (hr : Room k callerA) (hY : ∀ (w : World) (h : Heap), YP w h → (K w.params).In h)
    (Fn : ∀ (w : World) (mg : Str → Option Value) (fa : Addr) (h : Heap), (K w.params).In h → h.Ns mainGlobals mg → mg d.name = some (.ref fa) → TabF q (K w.params) mg h →
      ∃ (fd : FuncData) (cs : List (Addr × Addr × Str)), (∀ (s : Shared) (u : Value), BindsTo s fd ⟨[u], []⟩ [(x, u)]) ∧ (∀ p ∈ cs, h.get? p.2.1 = some { cls := .none, data := .fields #[] }) ∧ (∀ p ∈ cs, PySem.W.CodeHd h p.1 p.2.1) ∧ (∀ p ∈ cs, (K w.params).lookup p.2.1 = none) ∧
        ∀ base : Heap, (K w.params).In base → base.Ns mainGlobals mg → (∀ p ∈ cs, TabB base mg p.1 p.2.1) → FnG l.prog w (K w.params) mg base k fa fd [x] (sp w (cs.map (·.2))))
    (hsp : ∀ (w : World) (H : Hp) (a : Addr) (ns : List Int) (T : List (Addr × Str)), ns.length ≤ n → Tabs T H → SqL (K w.params) H a (ns.map V.int) → sp w T [.ref a] H (fun v _ => v = .bl true) E0) :
    PySem.W.WalkO q loose XP YP l.row.toRowW d [] (fun f vs => PySem.call f vs) :=
  Att.attach_call hn hdf fun w s0 t mg mb fa o pm cd doc a us ns G Y ho hd hcd hmg scr nums len gens =>
    let inK := hY w _ Y
    let ⟨_, cs, bind, hT, hC, hN, F2⟩ := Fn w mg fa _ inK G.T.g hmg (fun nm f c P oc od fd sl e dd vs s2 hrec m1 k1 k2 k3 k4 => by
      obtain ⟨dL, hm, hn1⟩ := List.any_eq_true.mp hrec
      obtain ⟨a', o', fd', c', P', h1, h2, h3, h4, h5, h6⟩ := G.T.tab dL hm
      rw [beq_iff_eq.mp hn1, m1] at h1
      cases h1
      rw [inK _ _ k1] at h2
      cases h2
      cases h3
      rw [k2] at h4
      cases h4
      have hh := PySem.W.CodeHd.of h5 h6
      obtain ⟨⟨oc, vc, e1, _, e3, e4⟩, hP⟩ := h6
      rw [inK _ _ k3] at e1
      cases e1
      cases e3
      rw [k4] at e4
      cases e4
      exact ⟨hP, hh⟩)
    lawT inK G.T.g G.T.b G.T.builtins G.T.nolimit gens G.T.bmain scr nums (Nat.le_trans len hn2) hr hT hC hN F2 bind fun H tb seq => hsp w H a ns _ len tb seq
end DL
namespace DL
open PySem PyProof.Rows L2 LamX
variable [TabL]
/-- the contexts of a def whose code stands at c -/
def famC (P : Program) (w : World) (K : PySem.W.Frag) (mg : Str → Option Value) (base : Heap) (N : List Str) (qual : Str) (sc : Scope) (f : Addr) (c : Addr) (k : Nat) : Fam :=
  (famOf P w K mg base N qual sc f k).pull { j : FamJ qual sc f k // j.1.1 = .ref c } (·.1)
/-- as spM, tables told -/
def spMT (Φ : List PyData → List PyData → PyData × List PyData → Prop) : Sp := fun vs H Q _ => ∃ a ws xs ms ds r ms' G, vs = .ref a :: ws ∧ Φ ms ds (r, ms') ∧ Same G H ∧ RpA G ws ds ∧ H a = some (.lst xs) ∧ RpA G xs ms ∧ G a = none ∧ (Tabs TabL.T H ∧ NoT G) ∧
  ∀ v G' H' ys, Aft (· = a) G H G' H' → H' a = some (.lst ys) → RpA G' ys ms' → G' a = none → Rp G' v r → Q v H'
section
variable {L L' : List Sl} {σ : L2.St} {G H : Hp} {i j : Nat} {ms ms' ds : List PyData} {r : PyData}
/-- an empty slot tells the tables -/
theorem Sta.tell (S : Sta L σ G H) (hj : L[j]? = some .no) (t : Tabs TabL.T H ∧ NoT G) : Sta (L.set j .tb) σ G H ∧ ∀ b, Own (L.set j .tb) σ b ↔ Own L σ b := by
  have hl : j < L.length := (List.getElem?_eq_some_iff.mp hj).1
  have at_ : ∀ (i : Nat) (us : List PyData), (L.set j .tb)[i]? = some (Sl.ow us) ↔ L[i]? = some (Sl.ow us) := fun i us => by
    by_cases e : j = i
    · subst e
      rw [List.getElem?_set_self hl, hj]
      constructor <;> (intro z; cases z)
    · rw [List.getElem?_set_ne e]
  refine ⟨⟨S.gh, by rw [List.length_set]; exact S.ln, fun i x u e1 e2 => ?_, fun i k a us ws e1 e2 e3 e4 => S.di i k a us ws ((at_ i us).mp e1) ((at_ k ws).mp e2) e3 e4⟩, fun b => ⟨fun ⟨i, us, e1, e2⟩ => ⟨i, us, (at_ i us).mp e1, e2⟩, fun ⟨i, us, e1, e2⟩ => ⟨i, us, (at_ i us).mpr e1, e2⟩⟩⟩
  by_cases e : j = i
  · subst e
    rw [List.getElem?_set_self hl] at e2
    cases e2
    exact t
  · rw [List.getElem?_set_ne e] at e2
    exact S.sl i x u e1 e2
/-- f(x, ..), x's own list changed, tables told -/
theorem ed_callMT {F : Fam} {es : List Expr} {x y : Str} {py p pos : Pos} {Φ : List PyData → List PyData → PyData × List PyData → Prop} (i j : Nat) (D : F.Df x (spMT Φ)) (hi : L'[i]? = some (Sl.ow ms)) (hj : L'[j]? = some .tb) (ha : AD F es L ds L') (hΦ : Φ ms ds (r, ms')) (hg : GlF F x := by rfl)
    (hN : F.N[i]? = some y := by rfl) (hv : Vis F.sc y := by first | exact Or.inl rfl | exact Or.inr (Or.inl rfl) | exact Or.inr (Or.inr rfl)) (hd : (y == ("__debug__" : Str)) = false := by decide) (hcd : (y == ("__classdict__" : Str)) = false := by decide)
    (hdb : (x == ("__debug__" : Str)) = false := by decide) (he : ∀ env, starEach (.Name y py :: es) env = (false, eval (.Name y py) env) :: starEach es env := by intro _; rfl) (hpl : ∀ env, (backTo pos (starEach es env)).any (·.1) = false := by intro _; rfl) (hL : ∃ us, L[i]? = some (Sl.ow us) := by exact ⟨_, rfl⟩) :
    ED F (.Call (.Name x p) (.Name y py :: es) [] pos) L r (L'.set i (.ow ms')) := by
  obtain ⟨ta, pa, ra⟩ := ha
  refine ⟨_, call_any D hg (fun j => pa_cons (pvF F i hN hv hd hcd j) (pa j) (he _)) hdb he hpl, fun σ G H S Q q => ?_⟩
  obtain ⟨us, hus⟩ := hL
  obtain ⟨x0, e1, a, xs0, rfl, _⟩ := S.get hus
  refine ⟨.ref a, e1, ra σ G H S _ fun vs G1 H1 S1 T1 r1 => ?_⟩
  obtain ⟨x1, e2, a', xs, z, h1, r2, g1⟩ := S1.get hi
  rw [e1] at e2
  cases e2
  cases z
  refine ⟨a, vs, xs, ms, ds, r, ms', G1, rfl, hΦ, S1.gh, r1, h1, r2, g1, S1.tabs hj, fun v G' H' ys A hy ry gy rv => ?_⟩
  obtain ⟨S2, T2⟩ := S1.mut hi e1 A hy ry gy
  exact q v G' H' S2 (T1.trans T2) rv
end
section
variable {P : Program} {w : World} {K : PySem.W.Frag} {mg : Str → Option Value} {base : Heap} {x qual : Str} {st : Stmt} {f c : Addr} {fd : FuncData} {N ps : List Str} {k j : Nat}
/-- a def whose code stands at c, which changes its first argument and makes lambdas -/
theorem funMT {Φ : List PyData → List PyData → PyData × List PyData → Prop} {params : Arguments} {body : List Stmt} {scope : Scope} {dV kV doc pm ct oc : Value} {an od : Option Addr} {osl : Array (Option Value)}
    (lk : K.lookup f = some ⟨oc, od, .func (PySem.W.fnOf x qual params body scope dV kV doc pm an (.ref c) ct), osl⟩) (hcd : PySem.W.codeIn K (.ref c) qual = true) (S : FnScope N ps scope) (hl : ∀ ms ds r, Φ ms ds r → ds.length + 1 = ps.length)
    (hj : ∀ ms ds r, Φ ms ds r → (startM N ms ds)[j]? = some .no)
    (hb : ∀ ms ds r ms', Φ ms ds (r, ms') → ∃ L', SsD [0] (famC P w K mg base N qual scope f c k) body ((startM N ms ds).set j .tb) (.rt r L') ∧ L'[0]? = some (Sl.ow ms')) : FnG P w K mg base (k + 1) f (PySem.W.fnOf x qual params body scope dV kV doc pm an (.ref c) ct) ps (spMT Φ) := by
  refine fnG_of lk hcd S (fun vs H Q E h => ?_) fun A outer s H vs Q hg hr h => ?_
  · obtain ⟨a, ws, xs, ms, ds, r, ms', G, rfl, e, _, rp, _⟩ := h
    rw [List.length_cons, rp.len]
    exact hl ms ds _ e
  · obtain ⟨a, ws, xs, ms, ds, r, ms', G, rfl, hΦ, gh, rp, ha, ra, ga, tb, q⟩ := h
    obtain ⟨L', ⟨ts, pp, run⟩, h0⟩ := hb ms ds r ms' hΦ
    obtain ⟨S0, O⟩ := staM (N := N) gh rp (by rw [hl ms ds _ hΦ]; exact FnScope.fit S) ha ra ga
    obtain ⟨S1, O1⟩ := S0.tell (hj _ _ _ hΦ) tb
    refine ⟨ts, pp ⟨⟨(.ref c, A, outer, s, H), hg, hr⟩, rfl⟩, run _ G H S1 _ fun v σ' G' H' S' T' A' rv => ?_⟩
    obtain ⟨x1, e1, b, ys, rfl, k1, k2, k3⟩ := S'.get h0
    have e2 := A' 0 (List.mem_singleton.mpr rfl)
    rw [e1, start_get (i := 0) (v := .ref a) rfl] at e2
    cases e2
    exact q v G' H' ys ⟨T'.g, S'.gh, fun b o hb gb nb => T'.fr b o hb gb fun w => nb ((O b).mp ((O1 b).mp w)), T'.th⟩ k1 k2 k3 rv
end
end DL
namespace DL
open PySem PyProof.Rows L2 LamX
variable [TabL]
/-! ### enumerate(text) -/
/-- the signs of x, each in a new pair with its place -/
def IteS (x : Str) : It := ⟨fun i _ => i < x.cps.size, fun i H v H' => ∃ (T : Addr) (c : Nat), v = .ref T ∧ H T = none ∧ x.cps[i]? = some c ∧ H' = upd H T (.tup [.int (i : Nat), .str ⟨#[c]⟩]), fun i _ => x.cps.size ≤ i⟩
/-- what draws the signs -/
theorem drawsS {P : Program} {w : World} {A : Around} (hh : A.handled = none) (it : Addr) (x : Str) (t : Tok) :
    Draws P w A it [it] x.cps.size (fun i v => ∃ c u, x.cps[i]? = some c ∧ v = .str ⟨#[c]⟩ u) (fun i h => h.IsStrIter it (strIterType x) x t i) := by
  unfold strIterType
  cases x.cps.all (· < 128) with
  | true => exact Draws.strAscii hh it x t
  | false => exact Draws.strWide hh it x t
theorem turn_enumS {P : Program} {w : World} {K : PySem.W.Frag} {elts : List Expr} {kk : Nat} {tpos : Pos} (x : Str) (t : Tok) (e it : Addr) :
    Turn P w K (.Tuple elts kk tpos) (IteS x) [e, it] e (fun i h => (∃ old, IsEnum h e it ((i : Nat) : Int) old) ∧ h.IsStrIter it (strIterType x) x t i ∧ e ≠ it ∧ i ≤ x.cps.size) where
  mem := by simp
  obj := fun i h ⟨⟨old, he⟩, ⟨o, ho, hc, hd⟩, _, _⟩ b hb => by
    rcases (by simpa using hb : b = e ∨ b = it) with rfl | rfl
    · exact ⟨_, he, fun v q => nomatch q⟩
    · exact ⟨o, ho, fun v q => by rw [hd] at q; cases q⟩
  keep := fun i h h' ⟨⟨old, he⟩, ⟨o, ho, r⟩, hne, hle⟩ k => ⟨⟨old, k e (by simp) _ he⟩, ⟨o, k it (by simp) o ho, r⟩, hne, hle⟩
  item := by
    intro X hP hw hK hc i pins s σ H E I hf st hg
    subst hP hw hK
    obtain ⟨⟨old, he⟩, hit, hne, _⟩ := st
    have hel : e < s.heap.objs.size := Heap.lt_size he
    have hil : it < s.heap.objs.size := by
      obtain ⟨_, q, _⟩ := hit
      exact Heap.lt_size q
    have hin : (X.A.in1).handled = none := I.ok.hd hc
    refine wpAny_pyNext_enum_itemD (drawsS hin it x t) he hit hg hne (by simpa using hne) fun v h' tk hv ho hit' hT hsz hk => ?_
    obtain ⟨cc, u, hcx, rfl⟩ := hv
    refine ⟨_, rfl, wpAny_letOwnedTupleGo_enum (s := { s with heap := h', toks := tk + 1 }) ho fun h'' he' sb => ?_⟩
    have hT2 := (sb.2 s.heap.objs.size (Nat.ne_of_gt hel)).trans hT
    have new : ObjOk X.prog X.w (upd H s.heap.objs.size (.tup [.int (i : Nat), .str ⟨#[cc]⟩])) h'' s.heap.objs.size (.tup [.int (i : Nat), .str ⟨#[cc]⟩]) :=
      ⟨by show 2 ≤ sizeLine; decide, [.int i tk, .str ⟨#[cc]⟩ u], .cons ⟨_, rfl⟩ (.cons ⟨_, rfl⟩ .nil), ⟨_, hT2, rfl, _, rfl⟩⟩
    have I1 : Inv X pins σ (upd H s.heap.objs.size (.tup [.int (i : Nat), .str ⟨#[cc]⟩])) { s with heap := h'', toks := tk + 1 } :=
      I.turnedNew (ch := [e, it]) (fun b ob hb q => (sb.2 b (fun z => hb (by simp [z]))).trans (hk b ob (fun z => hb (by simp [z])) (fun z => hb (by simp [z])) q)) hf (Nat.le_refl _) new
    have hit2 : h''.IsStrIter it (strIterType x) x t (i + 1) := by
      obtain ⟨o, q, r⟩ := hit'
      exact ⟨o, (sb.2 it (Ne.symm hne)).trans q, r⟩
    refine ⟨.ref s.heap.objs.size, _, I1, rfl, ⟨_, cc, rfl, I.hok.fresh (Nat.le_refl _), hcx, rfl⟩, ⟨⟨.str ⟨#[cc]⟩ u, ?_⟩, hit2, hne, hg⟩, fun b hb => ?_⟩
    · have e1 : ((i + 1 : Nat) : Int) = (i : Int) + 1 := by omega
      rw [e1]
      exact he'
    · have hlt : b < s.heap.objs.size := by
        rcases (by simpa using hb : b = e ∨ b = it) with rfl | rfl
        · exact hel
        · exact hil
      rw [upd_ne (Nat.ne_of_lt hlt)]
      exact (hf b hb).1
  done := by
    intro X hP hw hK hc i pins s σ H E I hf st hg
    subst hP hw hK
    obtain ⟨⟨old, he⟩, hit, hne, hle⟩ := st
    obtain ⟨f0, f1, f2, f3, f4, f5⟩ := hf it (by simp)
    have hin : (X.A.in1).handled = none := I.ok.hd hc
    have ei : i = x.cps.size := Nat.le_antisymm hle hg
    refine wpAny_pyNext_enum_endD (drawsS hin it x t) he (by rw [← ei]; exact hit) fun h' eb => ⟨rfl, I.turned (t' := s.toks) (fun b o hb q => eb b o hb q) f0 f1 f3 f4 f5⟩
  self := fun A i s Q E ⟨⟨_, he⟩, _, _, _⟩ h => wpAny_pyIter_enum he h
def iEnumS (ta : TA) : TI := fun σ H R => ta σ H fun vs H1 => ∃ x, vs = [.str x] ∧ R (IteS x) H1
theorem pi_enumS {X : Cx} {e : Expr} {ta : TA} {p pos tpos : Pos} {elts : List Expr} {kk : Nat} (hg : Gl X "enumerate") (hm : X.mg "enumerate" = none) (ha : PA X [e] ta) (hs : starEach [e] X.env = [(false, eval e X.env)] := by rfl) :
    PI X (.Tuple elts kk tpos) (.Call (.Name "enumerate" p) [e] [] pos) (iEnumS ta) := by
  refine ⟨fun pins s σ H R I h => Call_ (ld_blt I hg hm boot_enumerate (PyProof.Rows.callWith_type1 (thn (ha.run pos pins s σ H _ I h) fun us s1 ⟨vs, H1, I1, r1, x, ex, q⟩ => ?_) hs rfl))⟩
  subst ex
  cases r1 with
  | cons r rr =>
    cases rr
    obtain ⟨t, rfl⟩ := r
    refine call_enumerate_str fun h' he hit hsz hk => wpAny_pyIter_enum he ?_
    have I2 : Inv X pins σ H1 { s1 with heap := h' } := I1.kept (t' := s1.toks) hk
    refine ⟨s1.heap.objs.size + 1, [s1.heap.objs.size + 1, s1.heap.objs.size], _, _, H1, rfl, I2, turn_enumS x t (s1.heap.objs.size + 1) s1.heap.objs.size, ⟨⟨.none, he⟩, hit, Nat.succ_ne_self _, Nat.zero_le _⟩, fun b hb => ?_, q⟩
    have hle : s1.heap.objs.size ≤ b := by
      rcases (by simpa using hb : b = s1.heap.objs.size + 1 ∨ b = s1.heap.objs.size) with rfl | rfl
      · exact Nat.le_add_right _ _
      · exact Nat.le_refl _
    exact I1.fpOk hle (I1.hok.fresh hle)
section
variable {F : Fam} {e a b iter : Expr} {L L1 L' : List Sl} {p pos tpos : Pos} {elts : List Expr} {kk : Nat} {x y : Str} {d : PyData} {ds : List PyData} {n : Int}
theorem it_enumS (h : ED F e L (.str x) L') (hm : F.mg "enumerate" = none) (hg : GlF F "enumerate" := by rfl) (hs : ∀ env, starEach [e] env = [(false, eval e env)] := by intro _; rfl) :
    ItD F (.Tuple elts kk tpos) (.Call (.Name "enumerate" p) [e] [] pos) L (enumD (signsD x)) L' := by
  obtain ⟨te, pe, run⟩ := h
  have pi : PIf F (.Tuple elts kk tpos) (.Call (.Name "enumerate" p) [e] [] pos) (iEnumS (tCons te tNil)) := fun j => pi_enumS (hg.gl j) (by rw [F.hmg]; exact hm) (pa_cons (pe j) pa_nil (hs _)) (hs _)
  refine ⟨_, pi, fun σ G H S R q => run σ G H S _ fun v G' H' S' T' r => ?_⟩
  cases r
  have len : (enumD (signsD x)).length = x.cps.size := by simp [enumD, signsD]
  refine ⟨x, rfl, q _ G' H' S' T' fun i G2 H2 g gh => ⟨fun hi => by rw [len] at hi; exact hi, fun d hd => ?_⟩⟩
  have hi : i < x.cps.size := by
    have := (List.getElem?_eq_some_iff.mp hd).1
    rwa [len] at this
  unfold enumD signsD at hd
  rw [List.getElem?_mapIdx, List.getElem?_map, Array.getElem?_toList, Array.getElem?_eq_getElem hi] at hd
  cases hd
  refine ⟨hi, fun v H3 hy => ?_⟩
  obtain ⟨T, c, rfl, hT, hc, rfl⟩ := hy
  rw [Array.getElem?_eq_getElem hi] at hc
  cases hc
  exact .inr ⟨T, _, _, rfl, hT, rfl, rfl, .cons (.int _) (.cons (.str _) .nil)⟩

/-! ### texts -/
theorem lenSf (F : Fam) (j : F.J) : CallR (F.x j) (.builtin "len") (fun xs H Q => ∃ z, xs = [.str z] ∧ z.length ≤ sizeLine ∧ Q (.int z.length) H) := call_len_str
theorem ed_lenS (h : ED F e L (.str x) L') (hl : x.length ≤ 100000) (hm : F.mg "len" = none) (hg : GlF F "len" := by rfl) (hs : ∀ env, starEach [e] env = (false, eval e env) :: starEach [] env := by intro _; rfl) : ED F (.Call (.Name "len" p) [e] [] pos) L (.int x.length) L' := by
  obtain ⟨te, pe, run⟩ := h
  refine ⟨_, bt_any (lenSf F) hg hm PySem.boot_len (pa1 pe hs) (by decide) (by decide) hs (fun _ => rfl), fun σ G H S Q q => run σ G H S _ fun v G' H' S' T r => ?_⟩
  cases r
  exact ⟨x, rfl, Nat.le_trans hl (by decide), q _ _ _ S' T (.int _)⟩
theorem ed_ixStr {c : Nat} (ha : ED F a L (.str x) L1) (hb : ED F b L1 (.int n) L') (hr : ∀ H Q, Q (.str ⟨#[c]⟩) H → rIxS (.str x) (.int n) H Q) (hs : PlainIx b := by exact fun _ _ => rfl) : ED F (.Subscript a b pos) L (.str ⟨#[c]⟩) L' := by
  obtain ⟨ta, pa, ra⟩ := ha
  obtain ⟨tb, pb, rb⟩ := hb
  refine ⟨_, fun j => pe_ix ix_str (pa j) (pb j) hs, fun σ G H S Q q => ra σ G H S _ fun x1 G1 H1 S1 T1 r1 => rb σ G1 H1 S1 _ fun y G2 H2 S2 T2 r2 => ?_⟩
  cases r1
  cases r2
  exact hr _ _ (q _ _ _ S2 (T1.trans T2) (.str _))
theorem allf (F : Fam) (j : F.J) : CallR (F.x j) (.builtin "all") (rAll F.K) := by
  rw [← F.hK j]
  exact cr_all (F.hc j)
theorem ed_all {bs : List Bool} (h : LD F e L (bs.map PyData.bool) L') (hm : F.mg "all" = none) (hg : GlF F "all" := by rfl) (hs : ∀ env, starEach [e] env = (false, eval e env) :: starEach [] env := by intro _; rfl) : ED F (.Call (.Name "all" p) [e] [] pos) L (.bool (bs.all id)) L' := by
  obtain ⟨te, pe, run⟩ := h
  refine ⟨_, bt_any (allf F) hg hm (by decide +kernel) (pa1 pe hs) (by decide) (by decide) hs (fun _ => rfl), fun σ G H S Q q => run σ G H S _ fun a xs G' H' S' T h1 r => ?_⟩
  rw [r.of_bools] at h1
  exact ⟨a, bs, rfl, SqL.of h1, q _ _ _ S' T (.bl _)⟩
/-- a sign in a tuple of texts -/
theorem cd_inT {ws : List Str} (ha : ED F a L (.str x) L1) (hb : ED F b L1 (.tuple (ws.map PyData.str)) L') (hm : behindInMarks .In b = false := by rfl) : CD F (.Compare a [.In] [b] pos) L (decide (x ∈ ws)) L' := by
  refine cd_cmp (r := rIn F.K false) (fun j => by rw [← F.hK j]; exact op_in_seq) hm ha hb fun u v G H gh r1 r2 Q q => ?_
  cases r1
  cases r2 with
  | @tup b0 xs _ h1 h2 =>
    have ex : ∀ {ws : List Str} {xs : List V}, RpA G xs (ws.map PyData.str) → xs = ws.map V.str := fun {ws} => by
      induction ws with
      | nil => intro xs r; cases r; rfl
      | cons w ws ih => intro xs r; cases r with | cons r t => cases r; rw [ih t]; rfl
    rw [ex h2] at h1
    refine ⟨b0, ws.map V.str, rfl, .inr (SqT.of (gh _ _ h1)), rfl, by simp [flatV], ?_⟩
    have e : ∀ ws : List Str, inV (.str x) (ws.map V.str) = decide (x ∈ ws) := fun ws => by
      induction ws with
      | nil => rfl
      | cons w ws ih =>
        unfold inV at ih ⊢
        rw [List.map_cons, List.any_cons, ih]
        have e1 : eqV (.str w) (.str x) = decide (w = x) := by
          by_cases h : w = x
          · subst h; simp [eqV]
          · simp [eqV, h]
        rw [e1]
        by_cases h : w = x
        · subst h; simp
        · have h2 : ¬ x = w := fun z => h z.symm
          simp [h, h2]
    show Q (.bl (inV (.str x) (ws.map V.str))) H
    rw [e]
    exact q
end
end DL
namespace DL
open PySem PyProof.Rows L2 LamX
variable [TabL]
/-! ### repr of what is no list and no tuple -/
def FlatOk : PyData → Prop
  | .none => True
  | .bool _ => True
  | .int i => i.natAbs.log2 < 1920
  | .str x => (reprText x).length ≤ sizeLine
  | .dict [] => True
  | _ => False
theorem call_reprF {X : Cx} (hg : X.A.guards = some []) (hu : X.A.units + 100 < cLine) : CallR X (.builtin "repr") (fun xs H Q => ∃ v d, xs = [v] ∧ Rp H v d ∧ FlatOk d ∧ Q (.str d.shown) H) := by
  intro pins s σ H xs us Q I r q
  obtain ⟨v, d, rfl, rp, ok, q⟩ := q
  obtain ⟨u, rfl, rv⟩ := vals1 r
  cases rp with
  | non =>
    obtain rfl : u = Value.none := rv
    exact PySem.P.repr_of_none ⟨.str (PyData.none).shown, H, I.tok _, ⟨_, rfl⟩, q⟩
  | bl b =>
    obtain rfl : u = Value.bool b := rv
    exact PySem.P.repr_of_bool ⟨.str (PyData.bool b).shown, H, I.tok _, ⟨_, rfl⟩, q⟩
  | int i =>
    obtain ⟨t, rfl⟩ := rv
    exact PySem.P.repr_of_int ok ⟨.str (PyData.int i).shown, H, I.tok _, ⟨_, rfl⟩, q⟩
  | str x =>
    obtain ⟨t, rfl⟩ := rv
    exact PySem.P.repr_of_str ⟨.str (PyData.str x).shown, H, I.tok _, ⟨_, rfl⟩, q⟩ ok
  | lst => exact ok.elim
  | tup => exact ok.elim
  | @dct a kvs h =>
    cases kvs with
    | cons p l => exact ok.elim
    | nil =>
      obtain rfl : u = Value.ref a := rv
      obtain ⟨_, ns, vs, kv, o, es, ep, e1, e2, e3, e5, e4⟩ := I.hok a _ h
      cases kv
      have ees : es.toList = [] := by
        cases h5 : es.toList with
        | nil => rfl
        | cons a l =>
          rw [h5] at e4
          exact nomatch e4.1
      have rd : Reads s.heap (.ref a) (.dict []) (a :: [] ++ []) := .dict (kvs := []) e1 e2.1 e3 (by rw [ees]; exact .nil) (by rw [ees]; exact .nil)
      exact repr_of_reads' rd (by decide) (fun _ z => by
        have : sysModules = a := by simpa using z
        rw [this] at ns
        simp at ns) hg (by have : (PyData.dict []).depth ≤ 5 := by decide
                           omega) (fun _ _ e => e) (fun h' t tk hk => ⟨.str _, H, I.kept (t' := tk) hk, ⟨_, rfl⟩, q⟩) (by decide)
  | @dcs a kvs h =>
    cases kvs with
    | cons p l => exact ok.elim
    | nil =>
      obtain rfl : u = Value.ref a := rv
      obtain ⟨_, ns, vs, kv, o, es, ep, e1, e2, e3, e5, e4⟩ := I.hok a _ h
      cases kv
      have ees : es.toList = [] := by
        cases h5 : es.toList with
        | nil => rfl
        | cons a l =>
          rw [h5] at e4
          exact nomatch e4.1
      have rd : Reads s.heap (.ref a) (.dict []) (a :: [] ++ []) := .dict (kvs := []) e1 e2.1 e3 (by rw [ees]; exact .nil) (by rw [ees]; exact .nil)
      exact repr_of_reads' rd (by decide) (fun _ z => by
        have : sysModules = a := by simpa using z
        rw [this] at ns
        simp at ns) hg (by have : (PyData.dict []).depth ≤ 5 := by decide
                           omega) (fun _ _ e => e) (fun h' t tk hk => ⟨.str _, H, I.kept (t' := tk) hk, ⟨_, rfl⟩, q⟩) (by decide)
  | exc => exact ok.elim
section
variable {F : Fam} {e a b : Expr} {L L1 L' : List Sl} {p pos : Pos} {x : Str} {d : PyData} {n : Int}
theorem ed_reprF (h : HD F e L d L') (ok : FlatOk d) (hm : F.mg "repr" = none) (hg : GlF F "repr" := by rfl) (hs : ∀ env, starEach [e] env = (false, eval e env) :: starEach [] env := by intro _; rfl) : ED F (.Call (.Name "repr" p) [e] [] pos) L (.str d.shown) L' := by
  obtain ⟨te, pe, run⟩ := h
  refine ⟨_, bt_any (fun j => call_reprF (F.hg j) (by have := (F.hr j).un; omega)) hg hm (by decide +kernel) (pa1 pe hs) (by decide) (by decide) hs (fun _ => rfl), fun σ G H S Q q => run σ G H S _ fun v G' H' S' T r => ?_⟩
  exact ⟨v, d, rfl, r, ok, q _ _ _ S' T (.str _)⟩
/-! ### a text again and again -/
theorem rep_size (a : Array Nat) : ∀ (k : Nat) (acc : Array Nat), ((List.replicate k a).foldl (· ++ ·) acc).size = acc.size + k * a.size
  | 0, acc => by simp
  | k + 1, acc => by
    rw [List.replicate_succ, List.foldl_cons, rep_size a k, Array.size_append, Nat.add_mul]
    omega
def repS (z : Str) (n : Nat) : Str := ⟨(List.replicate n z.cps).foldl (· ++ ·) #[]⟩
theorem op_repS {X : Cx} : OpR X (binaryOp .Mult) (fun x y H Q => ∃ (z : Str) (n : Int), x = .str z ∧ y = .int n ∧ 1 < n ∧ n ≤ 1000 ∧ 0 < z.length ∧ z.length ≤ 1000 ∧ Q (.str (repS z n.toNat)) H) := by
  intro pins s σ H x y v u Q I rx ry h
  obtain ⟨z, n, rfl, rfl, h1, h2, h3, h4, q⟩ := h
  obtain ⟨t, rfl⟩ := rx
  obtain ⟨t', rfl⟩ := ry
  have e1 : ¬ n < 1 := by omega
  have e2 : (n == 1 || z.length == 0) = false := by
    have : ¬ n = 1 := by omega
    have : ¬ z.length = 0 := by omega
    simp [*]
  refine PySem.P.mul_str (by simp; omega) (fun _ _ => ?_) (fun _ _ => ?_) ?_
  · have : n ∣ n := Int.dvd_refl n
    have h5 : (1000 : Int) ≤ (2 ^ 63 - 1) / n := by
      rw [Int.le_ediv_iff_mul_le (by omega)]
      omega
    omega
  · have : z.length * n.toNat ≤ 1000 * 1000 := Nat.mul_le_mul h4 (by omega)
    have : (1000000 : Nat) ≤ sizeLine := by decide
    unfold Builtin.Str.tooLong
    simp
    omega
  · rw [if_neg e1, e2, if_neg (by simp)]
    refine ⟨?_, .str (repS z n.toNat), H, I.tok _, ⟨_, rfl⟩, q⟩
    have e : (repS z n.toNat).length = 0 + n.toNat * z.length := rep_size z.cps n.toNat #[]
    have : n.toNat * z.length ≤ 1000 * 1000 := Nat.mul_le_mul (by omega) h4
    have : (1000000 : Nat) ≤ sizeLine := by decide
    show (repS z n.toNat).length ≤ _
    omega
theorem ed_repS (ha : ED F a L (.str x) L1) (hb : ED F b L1 (.int n) L') (h1 : 1 < n ∧ n ≤ 1000 ∧ 0 < x.length ∧ x.length ≤ 1000) : ED F (.BinOp a .Mult b pos) L (.str (repS x n.toNat)) L' := ed_op (fun _ => op_repS) ha hb fun u v G H _ r1 r2 Q q => by
  cases r1; cases r2; exact ⟨x, n, rfl, rfl, h1.1, h1.2.1, h1.2.2.1, h1.2.2.2, q _ (.str _)⟩
end
end DL
namespace K2
open PySem PyProof.Rows L2 DL
instance : DL.TabL := ⟨[]⟩
def top (i : Nat) : Stmt := PySem.Challenge.pw_halfquick_k02_words_and_pivots.main.body.getD i (.Pass ⟨0, 0, 0, 0⟩)
-- __name__ = 'halfquick.errors' : top 0
-- class InvalidPlan : top 1
-- class InvalidPlace : top 2
-- class InvalidValues : top 3
-- __name__ = 'halfquick.common' : top 4
-- MOST_PLACES = 12 : top 5
-- MOST_VALUES = 60 : top 6
abbrev sis_whole : Stmt := top 7
abbrev nis_whole : List Str := ["thing"]
theorem cis_whole : FnScope nis_whole ["thing"] (defScope sis_whole) := ⟨rfl, rfl, rfl, by decide +kernel, rfl, by decide +kernel, by decide +kernel⟩
abbrev sis_from_0_to : Stmt := top 8
abbrev nis_from_0_to : List Str := ["thing", "limit"]
theorem cis_from_0_to : FnScope nis_from_0_to ["thing", "limit"] (defScope sis_from_0_to) := ⟨rfl, rfl, rfl, by decide +kernel, rfl, by decide +kernel, by decide +kernel⟩
abbrev sis_entry : Stmt := top 9
abbrev nis_entry : List Str := ["thing", "places"]
theorem cis_entry : FnScope nis_entry ["thing", "places"] (defScope sis_entry) := ⟨rfl, rfl, rfl, by decide +kernel, rfl, by decide +kernel, by decide +kernel⟩
abbrev sis_pair_of_entries : Stmt := top 10
abbrev nis_pair_of_entries : List Str := ["thing", "places", "left", "right"]
theorem cis_pair_of_entries : FnScope nis_pair_of_entries ["thing", "places"] (defScope sis_pair_of_entries) := ⟨rfl, rfl, rfl, by decide +kernel, rfl, by decide +kernel, by decide +kernel⟩
abbrev scheck_plan : Stmt := top 11
abbrev ncheck_plan : List Str := ["plan", "place", "thing"]
theorem ccheck_plan : FnScope ncheck_plan ["plan"] (defScope scheck_plan) := ⟨rfl, rfl, rfl, by decide +kernel, rfl, by decide +kernel, by decide +kernel⟩
abbrev scheck_values : Stmt := top 12
abbrev ncheck_values : List Str := ["values", "index", "thing"]
theorem ccheck_values : FnScope ncheck_values ["values"] (defScope scheck_values) := ⟨rfl, rfl, rfl, by decide +kernel, rfl, by decide +kernel, by decide +kernel⟩
abbrev scheck_place : Stmt := top 13
abbrev ncheck_place : List Str := ["place", "values"]
theorem ccheck_place : FnScope ncheck_place ["place", "values"] (defScope scheck_place) := ⟨rfl, rfl, rfl, by decide +kernel, rfl, by decide +kernel, by decide +kernel⟩
abbrev sfirst_entry : Stmt := top 14
abbrev nfirst_entry : List Str := ["plan"]
theorem cfirst_entry : FnScope nfirst_entry ["plan"] (defScope sfirst_entry) := ⟨rfl, rfl, rfl, by decide +kernel, rfl, by decide +kernel, by decide +kernel⟩
abbrev ssteps_until_stop : Stmt := top 15
abbrev nsteps_until_stop : List Str := ["plan", "steps", "entry", "taken", "step", "left", "right"]
theorem csteps_until_stop : FnScope nsteps_until_stop ["plan", "steps"] (defScope ssteps_until_stop) := ⟨rfl, rfl, rfl, by decide +kernel, rfl, by decide +kernel, by decide +kernel⟩
-- __name__ = 'halfquick.plans' : top 16
abbrev sword_of : Stmt := top 17
abbrev nword_of : List Str := ["values", "place"]
theorem cword_of : FnScope nword_of ["values", "place"] (defScope sword_of) := ⟨rfl, rfl, rfl, by decide +kernel, rfl, by decide +kernel, by decide +kernel⟩
abbrev spivots : Stmt := top 18
abbrev npivots : List Str := ["plan", "values"]
theorem cpivots : FnScope npivots ["plan", "values"] (defScope spivots) := ⟨rfl, rfl, rfl, by decide +kernel, rfl, by decide +kernel, by decide +kernel⟩
abbrev s_word : Stmt := top 19
abbrev n_word : List Str := ["values", "place", "own", "low", "high", "word", "value"]
theorem c_word : FnScope n_word ["values", "place"] (defScope s_word) := ⟨rfl, rfl, rfl, by decide +kernel, rfl, by decide +kernel, by decide +kernel⟩
abbrev s_pivot_places : Stmt := top 20
abbrev n_pivot_places : List Str := ["plan", "values", "place"]
theorem c_pivot_places : FnScope n_pivot_places ["plan", "values"] (defScope s_pivot_places) := ⟨rfl, rfl, rfl, by decide +kernel, rfl, by decide +kernel, by decide +kernel⟩
-- __name__ = 'law_halfquick_k02_words_and_pivots' : top 21
abbrev s_law_draws : Stmt := top 22
abbrev n_law_draws : List Str := ["_law_cell"]
theorem c_law_draws : FnScope n_law_draws ["_law_cell"] (defScope s_law_draws) := ⟨rfl, rfl, rfl, by decide +kernel, rfl, by decide +kernel, by decide +kernel⟩
abbrev s_law_next : Stmt := top 23
abbrev n_law_next : List Str := ["_law_draws_here", "_law_k", "_law_number"]
theorem c_law_next : FnScope n_law_next ["_law_draws_here"] (defScope s_law_next) := ⟨rfl, rfl, rfl, by decide +kernel, rfl, by decide +kernel, by decide +kernel⟩
abbrev s_law_entry : Stmt := top 24
abbrev n_law_entry : List Str := ["_law_draws_here", "_law_size", "_law_pick"]
theorem c_law_entry : FnScope n_law_entry ["_law_draws_here", "_law_size"] (defScope s_law_entry) := ⟨rfl, rfl, rfl, by decide +kernel, rfl, by decide +kernel, by decide +kernel⟩
abbrev s_law_plan : Stmt := top 25
abbrev n_law_plan : List Str := ["_law_draws_here", "_law_kind", "_law_size", "_law_k"]
theorem c_law_plan : FnScope n_law_plan ["_law_draws_here"] (defScope s_law_plan) := ⟨rfl, rfl, rfl, by decide +kernel, rfl, by decide +kernel, by decide +kernel⟩
abbrev s_law_order : Stmt := top 26
abbrev n_law_order : List Str := ["_law_draws_here", "_law_size", "_law_left", "_law_told_here", "_law_k"]
theorem c_law_order : FnScope n_law_order ["_law_draws_here", "_law_size"] (defScope s_law_order) := ⟨rfl, rfl, rfl, by decide +kernel, rfl, by decide +kernel, by decide +kernel⟩
abbrev s_law_list : Stmt := top 27
abbrev n_law_list : List Str := ["_law_draws_here", "_law_most", "_law_kind", "_law_size", "_law_told_here", "_law_k", "_law_pick"]
theorem c_law_list : FnScope n_law_list ["_law_draws_here", "_law_most"] (defScope s_law_list) := ⟨rfl, rfl, rfl, by decide +kernel, rfl, by decide +kernel, by decide +kernel⟩
abbrev s_law_odd_lists : Stmt := top 28
abbrev n_law_odd_lists : List Str := ["_law_row", "_law_thing", "_law_told_here"]
theorem c_law_odd_lists : FnScope n_law_odd_lists ["_law_row"] (defScope s_law_odd_lists) := ⟨rfl, rfl, rfl, by decide +kernel, rfl, by decide +kernel, by decide +kernel⟩
abbrev s_law_words : Stmt := top 29
abbrev n_law_words : List Str := ["_law_row", "_law_steps", "_law_first", "_law_one", "_law_less", "_law_rest"]
theorem c_law_words : FnScope n_law_words ["_law_row", "_law_steps"] (defScope s_law_words) := ⟨rfl, rfl, rfl, by decide +kernel, rfl, by decide +kernel, by decide +kernel⟩
abbrev s_law_marked : Stmt := top 30
abbrev n_law_marked : List Str := ["_law_a_plan", "_law_a_place", "_law_row", "_law_first", "_law_one", "_law_less", "_law_rest"]
theorem c_law_marked : FnScope n_law_marked ["_law_a_plan", "_law_a_place", "_law_row"] (defScope s_law_marked) := ⟨rfl, rfl, rfl, by decide +kernel, rfl, by decide +kernel, by decide +kernel⟩
abbrev s_law_told : Stmt := top 31
abbrev n_law_told : List Str := ["_law_row", "_law_spot", "_law_error", "e"]
theorem c_law_told : FnScope n_law_told ["_law_row", "_law_spot"] (defScope s_law_told) := ⟨rfl, rfl, rfl, by decide +kernel, rfl, by decide +kernel, by decide +kernel⟩
abbrev s_law_right : Stmt := top 32
abbrev n_law_right : List Str := ["_law_draws_here", "_law_a_plan", "_law_row", "_law_before", "_law_at", "_law_value", "_law_some", "_law_words_here", "_law_spot", "_law_told_here", "_law_due", "_law_both", "_law_bad", "_law_index", "_law_thing"]
theorem c_law_right : FnScope n_law_right ["_law_draws_here"] (defScope s_law_right) := ⟨rfl, rfl, rfl, by decide +kernel, rfl, by decide +kernel, by decide +kernel⟩
abbrev slaw : Stmt := top 33
abbrev nlaw : List Str := ["_law_script", "_law_cell", "_law_draws_here", "_law_turn", "_law_far", "_law_at"]
theorem claw : FnScope nlaw ["_law_script"] (defScope slaw) := ⟨rfl, rfl, rfl, by decide +kernel, rfl, by decide +kernel, by decide +kernel⟩
end K2
namespace K2
open PySem PyProof.Rows L2 DL
/-- the built-ins' names are free -/
structure Bt (mg : Str → Option Value) : Prop where
  isinstance : mg "isinstance" = none
  int : mg "int" = none
  bool : mg "bool" = none
  tuple : mg "tuple" = none
  list : mg "list" = none
  len : mg "len" = none
  enumerate : mg "enumerate" = none
  range : mg "range" = none
  repr : mg "repr" = none
/-- the module's numbers -/
structure Cs (mg : Str → Option Value) : Prop where
  places : ∃ t, mg "MOST_PLACES" = some (.int 12 t)
  values : ∃ t, mg "MOST_VALUES" = some (.int 60 t)
theorem kII : kitB "int" "int" = some true := by decide +kernel
theorem kIB : kitB "int" "bool" = some false := by decide +kernel
theorem kNI : kitB "NoneType" "int" = some false := by decide +kernel
theorem kTT : kitB "tuple" "tuple" = some true := by decide +kernel
theorem kLL : kitB "list" "list" = some true := by decide +kernel
theorem vI : bootBuiltins (Str.ofString "int") = some (.type "int") := by decide +kernel
theorem vB : bootBuiltins (Str.ofString "bool") = some (.type "bool") := by decide +kernel
theorem vT : bootBuiltins (Str.ofString "tuple") = some (.type "tuple") := by decide +kernel
theorem vL : bootBuiltins (Str.ofString "list") = some (.type "list") := by decide +kernel

/-! ### plans -/
abbrev Plan := List (Option Nat × Option Nat)
def encE : Option Nat → PyData
  | none => .none
  | some n => .int n
def encT (t : Option Nat × Option Nat) : PyData := .tuple [encE t.1, encE t.2]
def encP (pl : Plan) : PyData := .list (pl.map encT)
def okE (pl : Plan) (e : Option Nat) : Prop := ∀ n, e = some n → n < pl.length
def okP (pl : Plan) : Prop := pl.length ≤ 12 ∧ ∀ t ∈ pl, okE pl t.1 ∧ okE pl t.2
def intsD (ns : List Int) : PyData := .list (ns.map .int)
def natsD (ns : List Nat) : PyData := .list (ns.map fun (n : Nat) => PyData.int (n : Int))
def fst0 (pl : Plan) : Option Nat := if pl = [] then none else some 0

section
variable {P : Program} {w : World} {K : PySem.W.Frag} {mg : Str → Option Value} {base : Heap} {f : Addr} {fd : FuncData} {k : Nat}
/-! ### halfquick.common -/
def RWhole : List PyData → PyData → Prop := fun ds r => ∃ n, ds = [.int n] ∧ r = .bool true
theorem f_is_whole (Fn : Fun K "is_whole" "is_whole" sis_whole f fd) (B : Bt mg) : FnG P w K mg base 1 f fd ["thing"] (spD RWhole) := by
  refine funD Fn cis_whole (fun ds r ⟨n, h, _⟩ => by rw [h]; rfl) ?_
  rintro ds r ⟨n, rfl, rfl⟩
  exact ⟨_, ss_one (sd_ret (ed_and2 (k := true) (l := true) (ed_isi (T := "int") (ed_var 0 rfl) B.isinstance B.int vI kII) fun _ => ed_not (k := false) (ed_isi (T := "bool") (ed_var 0 rfl) B.isinstance B.bool vB kIB)))⟩
def RFrom : List PyData → PyData → Prop := fun ds r => ∃ n m, ds = [.int n, .int m] ∧ r = .bool (decide (0 ≤ n) && decide (n ≤ m))
theorem f_is_from_0_to (Fn : Fun K "is_from_0_to" "is_from_0_to" sis_from_0_to f fd) (B : Bt mg) (D1 : Df P w K mg base "is_whole" 1 (spD RWhole)) : FnG P w K mg base 2 f fd ["thing", "limit"] (spD RFrom) := by
  refine funD Fn cis_from_0_to (fun ds r ⟨n, m, h, _⟩ => by rw [h]; rfl) ?_
  rintro ds r ⟨n, m, rfl, rfl⟩
  exact ⟨_, ss_one (sd_ret (ed_and2 (k := true) (ed_call D1 (ad_one (ed_var 0 rfl)) ⟨n, rfl, rfl⟩) fun _ => CD.ed (cd_leLe ed_int (ed_var 0 rfl) (ed_var 1 rfl))))⟩
def entB : PyData → Int → Bool
  | .none, _ => true
  | .int n, m => decide (0 ≤ n) && decide (n ≤ m - 1)
  | _, _ => false
def REnt : List PyData → PyData → Prop := fun ds r => ∃ d m, ds = [d, .int m] ∧ entB d m = true ∧ r = .bool true
theorem f_is_entry (Fn : Fun K "is_entry" "is_entry" sis_entry f fd) (B : Bt mg) (D1 : Df P w K mg base "is_from_0_to" 2 (spD RFrom)) : FnG P w K mg base 3 f fd ["thing", "places"] (spD REnt) := by
  refine funD Fn cis_entry (fun ds r ⟨n, m, h, _⟩ => by rw [h]; rfl) ?_
  rintro ds r ⟨d, m, rfl, h, rfl⟩
  refine ⟨_, ss_one (sd_ret (ED.is (ed_or2 (k := isN d) (l := true) (CD.ed (cd_isN (ed_var 0 rfl))) fun hn => ?_) (by simp)))⟩
  cases d with
  | int n => exact ED.is (ed_call D1 (ad_cons (ed_var 0 rfl) (ad_one (ed_sub (ed_var 1 rfl) ed_int))) ⟨n, m - 1, rfl, rfl⟩) (congrArg PyData.bool h)
  | none => cases hn
  | bool b => cases h
  | str b => cases h
  | list b => cases h
  | tuple b => cases h
  | dict b => cases h
def RPair : List PyData → PyData → Prop := fun ds r => ∃ d1 d2 m, ds = [.tuple [d1, d2], .int m] ∧ entB d1 m = true ∧ entB d2 m = true ∧ r = .bool true
theorem f_is_pair (Fn : Fun K "is_pair_of_entries" "is_pair_of_entries" sis_pair_of_entries f fd) (B : Bt mg) (D1 : Df P w K mg base "is_entry" 3 (spD REnt)) : FnG P w K mg base 4 f fd ["thing", "places"] (spD RPair) := by
  refine funD Fn cis_pair_of_entries (fun ds r ⟨_, _, _, h, _⟩ => by rw [h]; rfl) ?_
  rintro ds r ⟨d1, d2, m, rfl, h1, h2, rfl⟩
  refine ⟨_, ss_cons (sd_if (k := false) (bd_or2 (k := false) (l := false) (bd_not (k := true) (bd_val (ed_isi (T := "tuple") (ed_var 0 rfl) B.isinstance B.tuple vT kTT))) fun _ => CD.bd (CD.is (cd_neI (ed_lenT (ed_var 0 rfl) B.len) ed_int) rfl)) (fun z => by cases z) fun _ => ss_nil)
    (ss_cons (sd_tup2 2 3 (ed_var 0 rfl)) (ss_one (sd_ret (ed_and2 (k := true) (l := true) (ed_call D1 (ad_cons (ed_var 2 rfl) (ad_one (ed_var 1 rfl))) ⟨d1, m, rfl, h1, rfl⟩) fun _ => ed_call D1 (ad_cons (ed_var 3 rfl) (ad_one (ed_var 1 rfl))) ⟨d2, m, rfl, h2, rfl⟩))))⟩
theorem entB_enc {pl : Plan} {e : Option Nat} (h : okE pl e) : entB (encE e) (pl.length : Int) = true := by
  cases e with
  | none => rfl
  | some n =>
    have := h n rfl
    simp only [encE, entB, Bool.and_eq_true, decide_eq_true_eq]
    omega
def RCkP : List PyData → PyData → Prop := fun ds r => ∃ pl, ds = [encP pl] ∧ okP pl ∧ r = .none
theorem enumD_mem {ds : List PyData} {d : PyData} (h : d ∈ enumD ds) : ∃ (i : Nat) (e : PyData), ds[i]? = some e ∧ d = .tuple [.int i, e] := by
  unfold enumD at h
  obtain ⟨i, hi⟩ := List.getElem?_of_mem h
  rw [List.getElem?_mapIdx] at hi
  cases e : ds[i]? with
  | none => rw [e] at hi; cases hi
  | some v =>
    rw [e] at hi
    exact ⟨i, v, e, (Option.some.inj hi).symm⟩
theorem f_check_plan (Fn : Fun K "check_plan" "check_plan" scheck_plan f fd) (B : Bt mg) (C : Cs mg) (D1 : Df P w K mg base "is_pair_of_entries" 4 (spD RPair)) : FnG P w K mg base 5 f fd ["plan"] (spD RCkP) := by
  refine funN Fn ccheck_plan (fun ds r ⟨_, h, _, hr⟩ => ⟨by rw [h]; rfl, hr⟩) ?_
  rintro ds r ⟨pl, rfl, ok, rfl⟩
  obtain ⟨t, ht⟩ := C.places
  refine ⟨_, ss_cons (sd_if (k := false) (bd_or2 (k := false) (l := false) (bd_not (k := true) (bd_val (ed_isi (T := "list") (ed_var 0 rfl) B.isinstance B.list vL kLL))) fun _ => CD.bd (CD.is (cd_gt (ed_len (ED.ld (ed_var 0 rfl)) B.len) (ed_globI ht)) ?_)) (fun z => by cases z) fun _ => ss_nil)
    (ss_one (sd_forC (it_enum (ed_var 0 rfl) B.enumerate) (tg_tup2 1 2) rfl fun d hd => ?_))⟩
  · rw [List.length_map]
    exact decide_eq_false (by have := ok.1; omega)
  · obtain ⟨i, e, he, rfl⟩ := enumD_mem hd
    rw [List.getElem?_map] at he
    cases q : pl[i]? with
    | none => rw [q] at he; cases he
    | some t =>
      rw [q] at he
      cases he
      obtain ⟨o1, o2⟩ := ok.2 t (List.mem_of_getElem? q)
      refine ⟨⟨_, _, rfl⟩, ss_nxwk (.keep (.drop (.drop .nil))) (ss_one (sd_if (k := false) (bd_not (k := true) (bd_val (ed_call D1 (ad_cons (ed_var 2 rfl) (ad_one (ed_len (ED.ld (ed_var 0 rfl)) B.len))) ⟨encE t.1, encE t.2, _, rfl, ?_, ?_, rfl⟩))) (fun z => by cases z) fun _ => ss_nil))⟩
      · rw [List.length_map]
        exact entB_enc o1
      · rw [List.length_map]
        exact entB_enc o2
def RCkV : List PyData → PyData → Prop := fun ds r => ∃ ns, ds = [intsD ns] ∧ ns.length ≤ 60 ∧ r = .none
theorem f_check_values (Fn : Fun K "check_values" "check_values" scheck_values f fd) (B : Bt mg) (C : Cs mg) (D1 : Df P w K mg base "is_whole" 1 (spD RWhole)) : FnG P w K mg base 5 f fd ["values"] (spD RCkV) := by
  refine funN Fn ccheck_values (fun ds r ⟨_, h, _, hr⟩ => ⟨by rw [h]; rfl, hr⟩) ?_
  rintro ds r ⟨ns, rfl, ok, rfl⟩
  obtain ⟨t, ht⟩ := C.values
  refine ⟨_, ss_cons (sd_if (k := false) (bd_or2 (k := false) (l := false) (bd_not (k := true) (bd_val (ed_isi (T := "list") (ed_var 0 rfl) B.isinstance B.list vL kLL))) fun _ => CD.bd (CD.is (cd_gt (ed_len (ED.ld (ed_var 0 rfl)) B.len) (ed_globI ht)) ?_)) (fun z => by cases z) fun _ => ss_nil)
    (ss_one (sd_forC (it_enum (ed_var 0 rfl) B.enumerate) (tg_tup2 1 2) rfl fun d hd => ?_))⟩
  · rw [List.length_map]
    exact decide_eq_false (by omega)
  · obtain ⟨i, e, he, rfl⟩ := enumD_mem hd
    rw [List.getElem?_map] at he
    cases q : ns[i]? with
    | none => rw [q] at he; cases he
    | some n =>
      rw [q] at he
      cases he
      exact ⟨⟨_, _, rfl⟩, ss_nxwk (.keep (.drop (.drop .nil))) (ss_one (sd_if (k := false) (bd_not (k := true) (bd_val (ed_call D1.mono (ad_one (ed_var 2 rfl)) ⟨n, rfl, rfl⟩))) (fun z => by cases z) fun _ => ss_nil))⟩
def RFst : List PyData → PyData → Prop := fun ds r => ∃ pl : Plan, ds = [encP pl] ∧ r = encE (fst0 pl)
theorem f_first_entry (Fn : Fun K "first_entry" "first_entry" sfirst_entry f fd) : FnG P w K mg base 1 f fd ["plan"] (spD RFst) := by
  refine funD Fn cfirst_entry (fun ds r ⟨_, h, _⟩ => by rw [h]; rfl) ?_
  rintro ds r ⟨pl, rfl, rfl⟩
  refine ⟨startL nfirst_entry [encP pl], ss_one (sd_ret (ed_if (k := !(pl.map encT).isEmpty) (bd_tru (d := encP pl) (ED.hd (ed_var 0 rfl)) rfl) (fun h => ?_) fun h => ?_))⟩
  · refine ED.is ed_int ?_
    cases pl with
    | nil => cases h
    | cons a l => rfl
  · refine ED.is ed_non ?_
    cases pl with
    | nil => rfl
    | cons a l => cases h
end
end K2
namespace K2
open PySem PyProof.Rows L2 DL
/-! ### halfquick.plans: carrying out -/
def atP (pl : Plan) (q : Nat) : Option Nat × Option Nat := pl.getD q (none, none)
theorem natsD_len (ns : List Nat) : (ns.map fun (n : Nat) => PyData.int (n : Int)).length = ns.length := List.length_map _
theorem atI_ints {vs : List Int} {p : Nat} (h : p < vs.length) : atI (vs.map PyData.int) (p : Int) = some (.int (vs.getD p 0)) := by
  refine atI_nat ?_
  rw [List.getElem?_map, List.getElem?_eq_getElem h]
  simp [List.getD, List.getElem?_eq_getElem h]
theorem atI_plan {pl : Plan} {q : Nat} (h : q < pl.length) : atI (pl.map encT) (q : Int) = some (encT (atP pl q)) := by
  refine atI_nat ?_
  rw [List.getElem?_map, List.getElem?_eq_getElem h]
  simp [atP, List.getD, List.getElem?_eq_getElem h]
theorem okP_at {pl : Plan} {q : Nat} (ok : okP pl) (h : q < pl.length) : okE pl (atP pl q).1 ∧ okE pl (atP pl q).2 := by
  have : atP pl q ∈ pl := by
    simp only [atP, List.getD, List.getElem?_eq_getElem h, Option.getD_some]
    exact List.getElem_mem h
  exact ok.2 _ this
def onNat (t : Nat → Bool) : PyData → Bool
  | .int n => t n.toNat
  | _ => false
theorem filter_nats (t : Nat → Bool) (ns : List Nat) : ((ns.map fun (n : Nat) => PyData.int (n : Int)).filter (onNat t)).map (fun d => d) = (ns.filter t).map fun (n : Nat) => PyData.int (n : Int) := by
  rw [List.map_id', List.filter_map]
  rfl
section
variable {P : Program} {w : World} {K : PySem.W.Frag} {mg : Str → Option Value} {base : Heap} {f : Addr} {fd : FuncData} {k : Nat}
end
end K2
namespace K2
open PySem PyProof.Rows L2 DL
/-! ### one pass -/
theorem okE_fst0 (pl : Plan) : okE pl (fst0 pl) := by
  intro n h
  unfold fst0 at h
  split at h
  · cases h
  · cases h
    rename_i hne
    exact List.length_pos_iff.mpr hne
theorem rgD_nats (n : Nat) : rgD 0 (n : Int) = (List.range n).map fun (i : Nat) => PyData.int (i : Int) := by
  unfold rgD
  have e : ((n : Int) - 0).toNat = n := by omega
  rw [e]
  apply List.map_congr_left
  intro i _
  rw [Int.zero_add]
def onInt (g : Nat → Int) : PyData → PyData
  | .int n => .int (g n.toNat)
  | d => d
theorem map_nats (g : Nat → Int) (ns : List Nat) : (ns.map fun (n : Nat) => PyData.int (n : Int)).map (onInt g) = (ns.map g).map PyData.int := by
  rw [List.map_map, List.map_map]
  rfl
section
variable {P : Program} {w : World} {K : PySem.W.Frag} {mg : Str → Option Value} {base : Heap} {f : Addr} {fd : FuncData} {k : Nat}
end
end K2
namespace K2
open PySem PyProof.Rows L2 DL
/-! ### what is drawn -/
structure Dr where
  c : Int
  k : Nat
  b : Bool
def encD (d : Dr) : List PyData := [.int d.c, .int (d.k : Int), .bool d.b]
def numD (d : Dr) : Int :=
  if d.b then d.c % 1000000
  else
    let k : Int := (d.k : Int) + 1
    let a := ((d.c % 1000003 + k * k * 7919 + k) * 48271) % 2147483629
    let a := (a * a) % 2147483587
    (a * (a + 2)) % 2147483579 / 7
def stepD (d : Dr) : Dr := ⟨if d.b then d.c / 1000000 else d.c, d.k + 1, d.b⟩
theorem numD_lt (d : Dr) : 0 ≤ numD d ∧ numD d < 2147483648 := by
  unfold numD
  split
  · omega
  · dsimp only
    generalize ((d.c % 1000003 + ((d.k : Int) + 1) * ((d.k : Int) + 1) * 7919 + ((d.k : Int) + 1)) * 48271) % 2147483629 = a
    generalize (a * a) % 2147483587 = a2
    generalize a2 * (a2 + 2) = a3
    omega
def drawM : Int := ((10 ^ 60) ^ 60) ^ 4
def draw0 (c : Int) : Dr := ⟨c % drawM, 0, decide (10 ^ 18 ≤ c)⟩
theorem log2_lt {n : Int} {k : Nat} (h : n.natAbs < 2 ^ k) (hk : 0 < k) : n.natAbs.log2 < k := by
  by_cases h0 : n.natAbs = 0
  · rw [h0]
    exact hk
  · exact (Nat.log2_lt h0).mpr h
theorem mulW {m n : Int} (h1 : m.natAbs < 2 ^ 200) (h2 : n.natAbs < 2 ^ 200) : CMulW m n := by
  have := log2_lt h1 (by decide)
  have := log2_lt h2 (by decide)
  unfold CMulW
  omega
theorem natAbs_lt {n : Int} {k : Nat} (h1 : -(2 : Int) ^ k < n) (h2 : n < (2 : Int) ^ k) : n.natAbs < 2 ^ k := by
  have e : ((2 ^ k : Nat) : Int) = (2 : Int) ^ k := by norm_cast
  omega
section
variable {P : Program} {w : World} {K : PySem.W.Frag} {mg : Str → Option Value} {base : Heap} {f : Addr} {fd : FuncData} {k : Nat}
def RDr : List PyData → List PyData → Prop := fun ds r => ∃ c, ds = [.int c] ∧ r = encD (draw0 c)
theorem f_law_draws (Fn : Fun K "_law_draws" "_law_draws" s_law_draws f fd) (B : Bt mg) : FnG P w K mg base 1 f fd ["_law_cell"] (spL RDr) := by
  refine funL Fn c_law_draws (fun ds r ⟨_, h, _⟩ => by rw [h]; rfl) ?_
  rintro ds r ⟨c, rfl, rfl⟩
  apply Exists.intro
  refine ss_one (sd_retL (fd_lst (ad_cons (ED.is (ed_mod (m := c) (n := drawM) (by decide +kernel) (ed_int1 (ed_var 0 rfl) B.int)
    (ed_powW (m := (10 ^ 60) ^ 60) (n := 4) ⟨by decide, by decide +kernel⟩ (ed_powW (m := 10 ^ 60) (n := 60) ⟨by decide, by decide +kernel⟩ (ed_powW (m := 10) (n := 60) ⟨by decide, by decide +kernel⟩ ed_int ed_int) ed_int) ed_int)) rfl)
    (ad_cons ed_int (ad_one (ED.is (CD.ed (cd_ge (ed_var 0 rfl) (ed_powW (m := 10) (n := 18) ⟨by decide, by decide +kernel⟩ ed_int ed_int))) rfl)))) (by show 3 ≤ 100000; decide)))
def RNext : List PyData → List PyData → PyData × List PyData → Prop := fun ms ds r => ∃ d, ms = encD d ∧ ds = [] ∧ d.k < 10000 ∧ r = (.int (numD d), encD (stepD d))
theorem f_law_next (Fn : Fun K "_law_next" "_law_next" s_law_next f fd) (B : Bt mg) : FnG P w K mg base 1 f fd ["_law_draws_here"] (spM RNext) := by
  refine funM Fn c_law_next (fun ms ds r ⟨_, _, h, _⟩ => by rw [h]; rfl) ?_
  rintro ms ds r ms' ⟨d, rfl, rfl, hk, e⟩
  cases e
  obtain ⟨c, k, b⟩ := d
  dsimp only at hk
  have p1 : (1 : Int) ≤ (k : Int) + 1 ∧ (k : Int) + 1 ≤ 10000 := by omega
  cases b with
  | true =>
    refine ⟨[.ow [.int (c / 1000000), .int ((k : Int) + 1), .bool true], .va (.int ((k : Int) + 1)), .va (.int (c % 1000000))], ?_, rfl⟩
    exact ss_cons (sd_put (n := 1) (k := 1) 0 (ed_add (ed_ixO (n := 1) 0 rfl ed_int rfl) ed_int) ed_int rfl rfl)
      (ss_cons (sd_set 1 (ed_ixO (n := 1) 0 rfl ed_int rfl))
      (ss_end (sd_if (k := true) (bd_val (ed_ixO (n := 2) 0 rfl ed_int rfl)) (fun _ =>
        ss_cons (sd_set 2 (ED.is (ed_mod (m := c) (n := 1000000) (by decide) (ed_int1 (ed_ixO (n := 0) 0 rfl ed_int rfl) B.int) (ED.is (ed_powW (m := 10) (n := 6) ⟨by decide, by decide +kernel⟩ ed_int ed_int) rfl)) rfl))
        (ss_cons (sd_put (n := 0) (k := 0) 0 (ed_fdivW (m := c) (n := 1000000) ⟨by decide, by decide +kernel⟩ (ed_ixO (n := 0) 0 rfl ed_int rfl) (ED.is (ed_powW (m := 10) (n := 6) ⟨by decide, by decide +kernel⟩ ed_int ed_int) rfl)) ed_int rfl rfl)
        (ss_one (sd_ret (ed_var 2 rfl))))) fun z => by cases z)))
  | false =>
    let kk : Int := (k : Int) + 1
    let a1 := ((c % 1000003 + kk * kk * 7919 + kk) * 48271) % 2147483629
    let a2 := (a1 * a1) % 2147483587
    have q1 : 0 ≤ a1 ∧ a1 < 2147483629 := ⟨Int.emod_nonneg _ (by decide), Int.emod_lt_of_pos _ (by decide)⟩
    have q2 : 0 ≤ a2 ∧ a2 < 2147483587 := ⟨Int.emod_nonneg _ (by decide), Int.emod_lt_of_pos _ (by decide)⟩
    have sm : ∀ n : Int, -(2 : Int) ^ 200 < n → n < (2 : Int) ^ 200 → n.natAbs < 2 ^ 200 := fun n h1 h2 => natAbs_lt h1 h2
    have g0 : kk.natAbs < 2 ^ 200 := sm _ (by omega) (by omega)
    have kk2 : 0 ≤ kk * kk ∧ kk * kk ≤ 10000 * 10000 := ⟨Int.mul_nonneg (by omega) (by omega), Int.mul_le_mul p1.2 p1.2 (by omega) (by decide)⟩
    have g1 : (kk * kk).natAbs < 2 ^ 200 := sm _ (by omega) (by omega)
    have g2 : (c % 1000003 + kk * kk * 7919 + kk).natAbs < 2 ^ 200 := sm _ (by omega) (by omega)
    have g3 : a1.natAbs < 2 ^ 200 := sm _ (by omega) (by omega)
    have g4 : a2.natAbs < 2 ^ 200 := sm _ (by omega) (by omega)
    have g5 : (a2 + 2).natAbs < 2 ^ 200 := sm _ (by omega) (by omega)
    refine ⟨[.ow [.int c, .int kk, .bool false], .va (.int kk), .va (.int a2)], ?_, rfl⟩
    exact ss_cons (sd_put (n := 1) (k := 1) 0 (ed_add (ed_ixO (n := 1) 0 rfl ed_int rfl) ed_int) ed_int rfl rfl)
      (ss_cons (sd_set 1 (ed_ixO (n := 1) 0 rfl ed_int rfl))
      (ss_cons (sd_if (k := false) (bd_val (ed_ixO (n := 2) 0 rfl ed_int rfl)) (fun z => by cases z) fun _ => ss_nil)
      (ss_cons (sd_set 2 (ed_mod (m := (c % 1000003 + kk * kk * 7919 + kk) * 48271) (by decide) (ed_int1 (ed_mulW (mulW g2 (by decide)) (ed_add (ed_add (ed_mod (by decide) (ed_int1 (ed_ixO (n := 0) 0 rfl ed_int rfl) B.int) ed_int) (ed_mulW (mulW g1 (by decide)) (ed_mulW (mulW g0 g0) (ed_var 1 rfl) (ed_var 1 rfl)) ed_int)) (ed_var 1 rfl)) ed_int) B.int) ed_int))
      (ss_cons (sd_set 2 (ed_mod (m := a1 * a1) (by decide) (ed_int1 (ed_mulW (mulW g3 g3) (ed_var 2 rfl) (ed_var 2 rfl)) B.int) ed_int))
      (ss_one (sd_ret (ed_fdivW ⟨by decide, by decide +kernel⟩ (ed_mod (m := a2 * (a2 + 2)) (by decide) (ed_int1 (ed_mulW (mulW g4 g5) (ed_var 2 rfl) (ed_add (ed_var 2 rfl) ed_int)) B.int) ed_int) ed_int)))))))
def entD (d : Dr) (n : Nat) : Option Nat := if numD d % 8 < 3 then none else some (numD d / 8 % (n : Int)).toNat
theorem entD_ok {d : Dr} {pl : Plan} (h : 0 < pl.length) : okE pl (entD d pl.length) := by
  intro n e
  unfold entD at e
  split at e
  · cases e
  · cases e
    have : 0 ≤ numD d / 8 % (pl.length : Int) := Int.emod_nonneg _ (by omega)
    have : numD d / 8 % (pl.length : Int) < pl.length := Int.emod_lt_of_pos _ (by omega)
    omega
def REn : List PyData → List PyData → PyData × List PyData → Prop := fun ms ds r => ∃ d, ∃ n : Nat, ms = encD d ∧ ds = [.int (n : Int)] ∧ d.k < 10000 ∧ 0 < n ∧ r = (encE (entD d n), encD (stepD d))
theorem f_law_entry (Fn : Fun K "_law_entry" "_law_entry" s_law_entry f fd) (B : Bt mg) (D1 : Df P w K mg base "_law_next" 1 (spM RNext)) : FnG P w K mg base 2 f fd ["_law_draws_here", "_law_size"] (spM REn) := by
  refine funM Fn c_law_entry (fun ms ds r ⟨_, _, _, h, _⟩ => by rw [h]; rfl) ?_
  rintro ms ds r ms' ⟨d, n, rfl, rfl, hk, hn, e⟩
  cases e
  refine ⟨[.ow (encD (stepD d)), .va (.int (n : Int)), .va (.int (numD d))], ?_, rfl⟩
  refine ss_cons (sd_set 2 (ed_int1 (ed_callM (ms := encD d) (r := .int (numD d)) 0 D1 rfl ad_nil ⟨d, rfl, rfl, hk, rfl⟩) B.int))
    (ss_one (sd_ret (ed_ixL (n := if decide (numD d % 8 < 3) then 1 else 0) (FD.ed (fd_lst (ad_cons (ed_mod (m := numD d / 8) (by omega) (ed_int1 (ed_fdivW ⟨by decide, by decide +kernel⟩ (ed_var 2 rfl) ed_int) B.int) (ed_var 1 rfl)) (ad_one ed_non))))
      (ed_intB (CD.ed (cd_lt (ed_mod (m := numD d) (by decide) (ed_int1 (ed_var 2 rfl) B.int) ed_int) ed_int)) B.int) ?_)))
  unfold entD
  have h0 : 0 ≤ numD d / 8 % (n : Int) := Int.emod_nonneg _ (by omega)
  by_cases h : numD d % 8 < 3
  · rw [decide_eq_true h, if_pos h]
    rfl
  · rw [decide_eq_false h, if_neg h]
    show _ = some (PyData.int _)
    rw [Int.toNat_of_nonneg h0]
    rfl
end
end K2
namespace K2
open PySem PyProof.Rows L2 DL
def itr {α : Type} (g : α → α) : Nat → α → α
  | 0, a => a
  | n + 1, a => g (itr g n a)
/-! ### a plan -/
def planF (n : Nat) (s : Plan × Dr) : Plan × Dr := (s.1 ++ [(entD s.2 n, entD (stepD s.2) n)], stepD (stepD s.2))
def planN (n : Nat) (d : Dr) (i : Nat) : Plan × Dr := itr (planF n) i ([], d)
def sizeN (d : Dr) (kind : Int) : Nat := (1 + numD d % (if kind = 5 then 3 else if kind = 6 then 5 else 12)).toNat
def planD (d : Dr) : Plan × Dr :=
  let kind := numD d % 8
  let d1 := stepD d
  if kind = 0 then ([], d1) else if kind = 1 then ([(some 0, some 0)], d1) else if kind = 2 then ([(some 0, none)], d1) else if kind = 3 then ([(none, some 0)], d1) else if kind = 4 then ([(none, none)], d1)
  else planN (sizeN d1 kind) (stepD d1) (sizeN d1 kind)
theorem planN_k (n : Nat) (d : Dr) : ∀ i, (planN n d i).2.k = d.k + 2 * i
  | 0 => rfl
  | i + 1 => by
    have := planN_k n d i
    show (planN n d i).2.k + 1 + 1 = _
    omega
theorem planN_len (n : Nat) (d : Dr) : ∀ i, (planN n d i).1.length = i
  | 0 => rfl
  | i + 1 => by
    show ((planN n d i).1 ++ _).length = _
    rw [List.length_append, planN_len n d i]
    rfl
def okN (n : Nat) (e : Option Nat) : Prop := ∀ m, e = some m → m < n
theorem entD_okN {d : Dr} {n : Nat} (h : 0 < n) : okN n (entD d n) := by
  intro m e
  unfold entD at e
  split at e
  · cases e
  · cases e
    have : 0 ≤ numD d / 8 % (n : Int) := Int.emod_nonneg _ (by omega)
    have : numD d / 8 % (n : Int) < n := Int.emod_lt_of_pos _ (by omega)
    omega
theorem planN_ok {n : Nat} (hn : 0 < n) (d : Dr) : ∀ i, ∀ t ∈ (planN n d i).1, okN n t.1 ∧ okN n t.2
  | 0 => fun t h => by cases h
  | i + 1 => fun t h => by
    have h' : t ∈ (planN n d i).1 ++ [(entD (planN n d i).2 n, entD (stepD (planN n d i).2) n)] := h
    rcases List.mem_append.mp h' with h | h
    · exact planN_ok hn d i t h
    · rw [List.mem_singleton.mp h]
      exact ⟨entD_okN hn, entD_okN hn⟩
theorem sizeN_le (d : Dr) (kind : Int) : 0 < sizeN d kind ∧ sizeN d kind ≤ 12 := by
  unfold sizeN
  split
  · omega
  · split <;> omega
theorem planD_ok (d : Dr) : okP (planD d).1 ∧ (planD d).2.k ≤ d.k + 26 := by
  unfold planD
  dsimp only
  have st : (stepD d).k = d.k + 1 := rfl
  have one : ∀ a b : Option Nat, okN 1 a → okN 1 b → okP [(a, b)] := fun a b ha hb => ⟨by show 1 ≤ 12; decide, fun t ht => by rw [List.mem_singleton.mp ht]; exact ⟨ha, hb⟩⟩
  have n0 : okN 1 none := fun m e => by cases e
  have s0 : okN 1 (some 0) := fun m e => by cases e; decide
  have sk : (stepD d).k ≤ d.k + 26 := by omega
  split
  · exact ⟨⟨Nat.zero_le _, fun t h => by cases h⟩, sk⟩
  split
  · exact ⟨one _ _ s0 s0, sk⟩
  split
  · exact ⟨one _ _ s0 n0, sk⟩
  split
  · exact ⟨one _ _ n0 s0, sk⟩
  split
  · exact ⟨one _ _ n0 n0, sk⟩
  obtain ⟨h1, h2⟩ := sizeN_le (stepD d) (numD d % 8)
  have hk : (stepD (stepD d)).k = d.k + 2 := rfl
  have e := planN_len (sizeN (stepD d) (numD d % 8)) (stepD (stepD d)) (sizeN (stepD d) (numD d % 8))
  refine ⟨⟨by rw [e]; exact h2, fun t ht => ?_⟩, ?_⟩
  · unfold okE
    rw [e]
    exact planN_ok h1 _ _ t ht
  · rw [planN_k]
    omega
section
variable {P : Program} {w : World} {K : PySem.W.Frag} {mg : Str → Option Value} {base : Heap} {f : Addr} {fd : FuncData} {k : Nat}
def RPl : List PyData → List PyData → PyData × List PyData → Prop := fun ms ds r => ∃ d, ms = encD d ∧ ds = [] ∧ d.k < 9000 ∧ r = (encP (planD d).1, encD (planD d).2)
theorem kinds (d : Dr) : numD d % 8 = 0 ∨ numD d % 8 = 1 ∨ numD d % 8 = 2 ∨ numD d % 8 = 3 ∨ numD d % 8 = 4 ∨ numD d % 8 = 5 ∨ numD d % 8 = 6 ∨ numD d % 8 = 7 := by omega
def fiveE : Expr := match (defBody s_law_plan).getD 1 (.Pass ⟨0, 0, 0, 0⟩) with
  | .If _ [.Return (some (.Subscript e _ _)) _] _ _ => e
  | _ => .Constant .none 0 ⟨0, 0, 0, 0⟩
theorem CompD.at {F : Fam} {elt tg iter : Expr} {ifs : List Expr} {scope : Scope} {L L1 L2' : List Sl} {ds ds2 : List PyData} (h : CompD F elt tg iter ifs scope L ds L1) (e1 : ds = ds2) (e2 : L1 = L2') : CompD F elt tg iter ifs scope L ds2 L2' := e1 ▸ e2 ▸ h
theorem f_law_plan (Fn : Fun K "_law_plan" "_law_plan" s_law_plan f fd) (B : Bt mg) (D1 : Df P w K mg base "_law_next" 1 (spM RNext)) (D2 : Df P w K mg base "_law_entry" 2 (spM REn)) : FnG P w K mg base 3 f fd ["_law_draws_here"] (spM RPl) := by
  refine funM Fn c_law_plan (fun ms ds r ⟨_, _, h, _⟩ => by rw [h]; rfl) ?_
  rintro ms ds r ms' ⟨d, rfl, rfl, hk, e⟩
  cases e
  have small : ∀ v : Int, numD d % 8 = v → v < 5 → ∀ pl : Plan, planD d = (pl, stepD d) → atI [encP [], encP [(some 0, some 0)], encP [(some 0, none)], encP [(none, some 0)], encP [(none, none)]] v = some (encP pl) →
      ∃ L', SsD [0] (famOf P w K mg base n_law_plan "_law_plan" (defScope s_law_plan) f 2) (defBody s_law_plan) (startM n_law_plan (encD d) []) (.rt (encP (planD d).1) L') ∧ L'[0]? = some (Sl.ow (encD (planD d).2)) := fun v hv h5 pl hp hat => by
    refine ⟨[.ow (encD (stepD d)), .va (.int v), .no, .no], ?_, by rw [hp]; rfl⟩
    rw [hp]
    have five : FD (famOf P w K mg base n_law_plan "_law_plan" (defScope s_law_plan) f 2) fiveE [.ow (encD (stepD d)), .va (.int v), .no, .no] [encP [], encP [(some 0, some 0)], encP [(some 0, none)], encP [(none, some 0)], encP [(none, none)]] [.ow (encD (stepD d)), .va (.int v), .no, .no] := by
      have t : ∀ {a b : Expr} {x y : PyData} {ps pt : Pos} {kk : Nat}, ED (famOf P w K mg base n_law_plan "_law_plan" (defScope s_law_plan) f 2) a [.ow (encD (stepD d)), .va (.int v), .no, .no] x [.ow (encD (stepD d)), .va (.int v), .no, .no] → ED (famOf P w K mg base n_law_plan "_law_plan" (defScope s_law_plan) f 2) b [.ow (encD (stepD d)), .va (.int v), .no, .no] y [.ow (encD (stepD d)), .va (.int v), .no, .no] → (∀ env, starEach [a, b] env = (false, eval a env) :: starEach [b] env) → (∀ env, starEach [b] env = (false, eval b env) :: starEach [] env) → ED (famOf P w K mg base n_law_plan "_law_plan" (defScope s_law_plan) f 2) (.List [.Tuple [a, b] kk pt] ps) [.ow (encD (stepD d)), .va (.int v), .no, .no] (.list [.tuple [x, y]]) [.ow (encD (stepD d)), .va (.int v), .no, .no] := fun ha hb s1 s2 =>
        FD.ed (fd_lst (ad_one (ed_tup (ad_cons ha (ad_one hb s2) s1))))
      refine fd_lst (ad_cons (FD.ed (fd_lst ad_nil)) (ad_cons (t ed_int ed_int (fun _ => rfl) (fun _ => rfl)) (ad_cons (t ed_int ed_non (fun _ => rfl) (fun _ => rfl)) (ad_cons (t ed_non ed_int (fun _ => rfl) (fun _ => rfl)) (ad_one (t ed_non ed_non (fun _ => rfl) (fun _ => rfl)))))))
    refine ss_cons (sd_set 1 (ED.is (ed_mod (m := numD d) (by decide) (ed_int1 (ed_callM (ms := encD d) (r := .int (numD d)) 0 D1.mono rfl ad_nil ⟨d, rfl, rfl, by omega, rfl⟩) B.int) ed_int) (congrArg PyData.int hv)))
      (ss_end (sd_if (k := true) (CD.bd (CD.is (cd_lt (ed_var 1 rfl) ed_int) (decide_eq_true h5))) (fun _ => ss_one (sd_ret (ed_ixL (FD.ed five) (ed_var 1 rfl) hat))) fun z => by cases z))
  have great : ∀ v : Int, numD d % 8 = v → 5 ≤ v → ∀ m : Int, 0 < m → atI [PyData.int 3, .int 5, .int 12] (v - 5) = some (.int m) → (1 + numD (stepD d) % m).toNat = sizeN (stepD d) v → planD d = planN (sizeN (stepD d) v) (stepD (stepD d)) (sizeN (stepD d) v) →
      ∃ L', SsD [0] (famOf P w K mg base n_law_plan "_law_plan" (defScope s_law_plan) f 2) (defBody s_law_plan) (startM n_law_plan (encD d) []) (.rt (encP (planD d).1) L') ∧ L'[0]? = some (Sl.ow (encD (planD d).2)) := fun v hv h5 m hm hat hs hp => by
    have h0 : 0 ≤ numD (stepD d) % m := Int.emod_nonneg _ (by omega)
    obtain ⟨n, hn⟩ : ∃ n, n = sizeN (stepD d) v := ⟨_, rfl⟩
    rw [← hn] at hs hp
    have hsz := sizeN_le (stepD d) v
    rw [← hn] at hsz
    have es : 1 + numD (stepD d) % m = (n : Int) := by omega
    have k1 : (stepD d).k = d.k + 1 := rfl
    have k2 : (stepD (stepD d)).k = d.k + 2 := rfl
    let M : Nat → List Sl := fun i => [.ow (encD (planN n (stepD (stepD d)) i).2), .va (.int v), .va (.int (n : Int)), .no]
    let R : Nat → List PyData := fun i => (planN n (stepD (stepD d)) i).1.map encT
    have hl : (rgD 0 (n : Int)).length = n := by
      rw [rgD_nats]
      simp
    rw [hp]
    refine ⟨M n, ?_, rfl⟩
    refine ss_cons (sd_set 1 (ED.is (ed_mod (m := numD d) (by decide) (ed_int1 (ed_callM (ms := encD d) (r := .int (numD d)) 0 D1.mono rfl ad_nil ⟨d, rfl, rfl, by omega, rfl⟩) B.int) ed_int) (congrArg PyData.int hv)))
      (ss_cons (sd_if (k := false) (CD.bd (CD.is (cd_lt (ed_var 1 rfl) ed_int) (decide_eq_false (by omega)))) (fun z => by cases z) fun _ => ss_nil)
      (ss_cons (sd_set 2 (ED.is (ed_add ed_int (ed_mod (m := numD (stepD d)) hm (ed_int1 (ed_callM (ms := encD (stepD d)) (r := .int (numD (stepD d))) 0 D1.mono rfl ad_nil ⟨stepD d, rfl, rfl, by omega, rfl⟩) B.int)
        (ed_ixL (FD.ed (fd_lst (ad_cons ed_int (ad_cons ed_int (ad_one ed_int))))) (ed_sub (ed_var 1 rfl) ed_int) hat))) (congrArg PyData.int es)))
      (ss_one (sd_ret (FD.ed (CompD.fd (CompD.at (cd_lc (own := [("_law_k", 3)]) M R (it_range1 (ed_var (L := M 0) 2 rfl) (by omega) B.range) (blkOk_by rfl) (tg_name 3) (by decide) (fun _ => rfl) (fun _ => ⟨rfl, trivial⟩) rfl (fun i t hi => ?body) (by rw [List.length_map, List.length_range]; omega)) ?e1 ?e2))))))) 
    case e1 =>
      rw [List.length_map, List.length_range, Int.toNat_natCast]
    case e2 => rw [List.length_map, List.length_range, Int.toNat_natCast]
    case body =>
      have hi' := (List.getElem?_eq_some_iff.mp hi).1
      rw [List.length_map, List.length_range, Int.toNat_natCast] at hi'
      have kk := planN_k n (stepD (stepD d)) i
      obtain ⟨d', hd'⟩ : ∃ d', d' = (planN n (stepD (stepD d)) i).2 := ⟨_, rfl⟩
      rw [← hd'] at kk
      have k3 : (stepD d').k = d'.k + 1 := rfl
      have eM : M i = [.ow (encD d'), .va (.int v), .va (.int (n : Int)), .no] := by rw [hd']
      have eM1 : M (i + 1) = [.ow (encD (stepD (stepD d'))), .va (.int v), .va (.int (n : Int)), .no] := by rw [hd']; rfl
      have eR1 : R (i + 1) = R i ++ [encT (entD d' n, entD (stepD d') n)] := by
        rw [hd']
        show List.map encT (_ ++ [_]) = _
        rw [List.map_append]
        rfl
      refine ⟨trivial, true, .nil, fun _ => ⟨_, ?_, eR1⟩, fun z => by cases z⟩
      rw [eM, eM1]
      exact ed_tup (ad_cons (ed_callM (ms := encD d') (r := encE (entD d' n)) (ms' := encD (stepD d')) 0 D2.mono rfl (ad_one (ed_var 2 rfl)) ⟨d', n, rfl, rfl, by omega, by omega, rfl⟩)
        (ad_one (ed_callM (ms := encD (stepD d')) (r := encE (entD (stepD d') n)) (ms' := encD (stepD (stepD d'))) 0 D2.mono rfl (ad_one (ed_var 2 rfl)) ⟨stepD d', n, rfl, rfl, by omega, by omega, rfl⟩)))
  have pd : ∀ v, numD d % 8 = v → planD d = if v = 0 then ([], stepD d) else if v = 1 then ([(some 0, some 0)], stepD d) else if v = 2 then ([(some 0, none)], stepD d) else if v = 3 then ([(none, some 0)], stepD d) else if v = 4 then ([(none, none)], stepD d) else planN (sizeN (stepD d) v) (stepD (stepD d)) (sizeN (stepD d) v) := fun v hv => by
    rw [← hv]
    rfl
  rcases kinds d with h | h | h | h | h | h | h | h
  · exact small 0 h (by decide) _ (pd _ h) rfl
  · exact small 1 h (by decide) _ (pd _ h) rfl
  · exact small 2 h (by decide) _ (pd _ h) rfl
  · exact small 3 h (by decide) _ (pd _ h) rfl
  · exact small 4 h (by decide) _ (pd _ h) rfl
  · exact great 5 h (by decide) 3 (by decide) rfl rfl (pd _ h)
  · exact great 6 h (by decide) 5 (by decide) rfl rfl (pd _ h)
  · exact great 7 h (by decide) 12 (by decide) rfl rfl (pd _ h)
end
end K2
namespace K2
open PySem PyProof.Rows L2 DL
/-! ### an order and a list -/
theorem eraseIdx_map' {α β : Type} (g : α → β) : ∀ (l : List α) (k : Nat), (l.map g).eraseIdx k = (l.eraseIdx k).map g
  | [], k => by simp
  | a :: l, 0 => rfl
  | a :: l, k + 1 => by
    show g a :: (l.map g).eraseIdx k = g a :: (l.eraseIdx k).map g
    rw [eraseIdx_map' g l k]
structure Os where
  d : Dr
  left : List Int
  told : List Int
def orderF (s : Os) : Os :=
  let k := (numD s.d % (s.left.length : Int)).toNat
  ⟨stepD s.d, s.left.eraseIdx k, s.told ++ [s.left.getD k 0]⟩
def orderS (n : Nat) (d : Dr) (i : Nat) : Os := itr orderF i ⟨d, (List.range n).map fun (j : Nat) => (j : Int), []⟩
theorem orderS_inv (n : Nat) (d : Dr) : ∀ i, i ≤ n → (orderS n d i).d.k = d.k + i ∧ (orderS n d i).left.length = n - i ∧ (orderS n d i).told.length = i
  | 0, _ => ⟨rfl, by show (List.map _ (List.range n)).length = _; simp, rfl⟩
  | i + 1, h => by
    obtain ⟨h1, h2, h3⟩ := orderS_inv n d i (by omega)
    show (stepD (orderS n d i).d).k = _ ∧ ((orderS n d i).left.eraseIdx _).length = _ ∧ ((orderS n d i).told ++ [_]).length = _
    have hm : 0 ≤ numD (orderS n d i).d % ((orderS n d i).left.length : Int) := Int.emod_nonneg _ (by omega)
    have hm2 : numD (orderS n d i).d % ((orderS n d i).left.length : Int) < ((orderS n d i).left.length : Int) := Int.emod_lt_of_pos _ (by omega)
    refine ⟨by show (orderS n d i).d.k + 1 = _; omega, ?_, by rw [List.length_append, h3]; rfl⟩
    have hq : (numD (orderS n d i).d % ((orderS n d i).left.length : Int)).toNat < (orderS n d i).left.length := by omega
    refine (List.length_eraseIdx_of_lt hq).trans ?_
    omega
def valN (kind p : Int) : Int := if kind = 1 then p % 4 else if kind = 2 then p % 30 - 9 else (p % 5 - 2) * (10 ^ 19 + p / 5 % 3)
def listF (kind : Int) (s : List Int × Dr) : List Int × Dr := (s.1 ++ [valN kind (numD s.2)], stepD s.2)
def listS (kind : Int) (d : Dr) (i : Nat) : List Int × Dr := itr (listF kind) i ([], d)
theorem listS_inv (kind : Int) (d : Dr) : ∀ i, (listS kind d i).2.k = d.k + i ∧ (listS kind d i).1.length = i
  | 0 => ⟨rfl, rfl⟩
  | i + 1 => by
    obtain ⟨h1, h2⟩ := listS_inv kind d i
    refine ⟨by show (listS kind d i).2.k + 1 = _; omega, ?_⟩
    show ((listS kind d i).1 ++ [_]).length = _
    rw [List.length_append, h2]
    rfl
def lenD (d : Dr) (most : Nat) : Nat := (numD d % ((most : Int) + 1)).toNat
theorem lenD_le (d : Dr) (most : Nat) : ((lenD d most : Nat) : Int) = numD d % ((most : Int) + 1) ∧ lenD d most ≤ most := by
  have h1 : 0 ≤ numD d % ((most : Int) + 1) := Int.emod_nonneg _ (by omega)
  have h2 : numD d % ((most : Int) + 1) < (most : Int) + 1 := Int.emod_lt_of_pos _ (by omega)
  unfold lenD
  omega
def listD (most : Nat) (d : Dr) : List Int × Dr :=
  let kind := numD d % 4
  let n := lenD (stepD d) most
  let d2 := stepD (stepD d)
  if kind = 0 then ((orderS n d2 n).told, (orderS n d2 n).d) else listS kind d2 n
theorem listD_ok (most : Nat) (d : Dr) : (listD most d).1.length ≤ most ∧ (listD most d).2.k ≤ d.k + 2 + most := by
  obtain ⟨e1, e2⟩ := lenD_le (stepD d) most
  have hk : (stepD (stepD d)).k = d.k + 2 := rfl
  unfold listD
  dsimp only
  split
  · obtain ⟨h1, h2, h3⟩ := orderS_inv (lenD (stepD d) most) (stepD (stepD d)) (lenD (stepD d) most) (Nat.le_refl _)
    exact ⟨by show (orderS _ _ _).told.length ≤ _; omega, by show (orderS _ _ _).d.k ≤ _; omega⟩
  · obtain ⟨h1, h2⟩ := listS_inv (numD d % 4) (stepD (stepD d)) (lenD (stepD d) most)
    exact ⟨by omega, by omega⟩
section
variable {P : Program} {w : World} {K : PySem.W.Frag} {mg : Str → Option Value} {base : Heap} {f : Addr} {fd : FuncData} {k : Nat}
def ROr : List PyData → List PyData → PyData × List PyData → Prop := fun ms ds r => ∃ d, ∃ n : Nat, ms = encD d ∧ ds = [.int (n : Int)] ∧ d.k < 9900 ∧ n ≤ 60 ∧ r = (intsD (orderS n d n).told, encD (orderS n d n).d)
theorem f_law_order (Fn : Fun K "_law_order" "_law_order" s_law_order f fd) (B : Bt mg) (D1 : Df P w K mg base "_law_next" 1 (spM RNext)) : FnG P w K mg base 2 f fd ["_law_draws_here", "_law_size"] (spM ROr) := by
  refine funM Fn c_law_order (fun ms ds r ⟨_, _, _, h, _⟩ => by rw [h]; rfl) ?_
  rintro ms ds r ms' ⟨d, n, rfl, rfl, hk, hn, e⟩
  cases e
  let M : Nat → List Sl := fun i => [.ow (encD (orderS n d i).d), .va (.int (n : Int)), .ow ((orderS n d i).left.map .int), .ow ((orderS n d i).told.map .int), .no]
  refine ⟨(M n).set 3 (.va (.list ((orderS n d n).told.map .int))), ?_, rfl⟩
  refine ss_cons (sd_new 2 (FD.is (ds2 := ((List.range n).map fun (j : Nat) => (j : Int)).map .int) (fd_listRg (ed_var 1 rfl) (by omega) B.list B.range) ?_))
    (ss_cons (sd_new 3 (fd_lst ad_nil))
    (ss_cons (SD.to (sd_forAll M (it_range1 (ed_var 1 rfl) (by omega) B.range) (tg_name 4) (fun _ => rfl) fun i t hi => ⟨trivial, .inl ?body⟩) (L2' := M n) ?len)
    (ss_freeze 3 rfl (ss_one (sd_ret (ed_var 3 rfl))))))
  · rw [rgD_nats, List.map_map]
    rfl
  case len => rw [List.length_map, List.length_range, Int.toNat_natCast]
  case body =>
    have hi' := (List.getElem?_eq_some_iff.mp hi).1
    rw [List.length_map, List.length_range, Int.toNat_natCast] at hi'
    obtain ⟨k1, k2, k3⟩ := orderS_inv n d i (by omega)
    obtain ⟨s, hs⟩ : ∃ s, s = orderS n d i := ⟨_, rfl⟩
    have eM : M i = [.ow (encD s.d), .va (.int (n : Int)), .ow (s.left.map .int), .ow (s.told.map .int), .no] := by rw [hs]
    have eM1 : M (i + 1) = [.ow (encD (orderF s).d), .va (.int (n : Int)), .ow ((orderF s).left.map .int), .ow ((orderF s).told.map .int), .no] := by rw [hs]; rfl
    rw [← hs] at k1 k2 k3
    have hp : (0 : Int) < (s.left.length : Int) := by omega
    have hm : 0 ≤ numD s.d % (s.left.length : Int) := Int.emod_nonneg _ (by omega)
    have hm2 : numD s.d % (s.left.length : Int) < (s.left.length : Int) := Int.emod_lt_of_pos _ hp
    obtain ⟨q, hq⟩ : ∃ q, q = (numD s.d % (s.left.length : Int)).toNat := ⟨_, rfl⟩
    have hqi : (q : Int) = numD s.d % (s.left.length : Int) := by omega
    have hql : q < s.left.length := by omega
    have eF : orderF s = ⟨stepD s.d, s.left.eraseIdx q, s.told ++ [s.left.getD q 0]⟩ := by rw [hq]; rfl
    rw [eM, eM1, eF]
    refine ss_nxwk (L1 := [.ow (encD (stepD s.d)), .va (.int (n : Int)), .ow ((s.left.eraseIdx q).map .int), .ow ((s.told ++ [s.left.getD q 0]).map .int), .va t]) (.keep (.keep (.keep (.keep (.drop .nil))))) (ss_one (SD.to (sd_app 3 (ed_popAt (k := q) (d := .int (s.left.getD q 0)) 2 (ed_mod (n := (s.left.length : Int)) hp (ed_int1 (ed_callM (ms := encD s.d) (r := .int (numD s.d)) 0 D1 rfl ad_nil ⟨s.d, rfl, rfl, by omega, rfl⟩) B.int) (ED.is (ed_len (ds := s.left.map .int) (ld_var 2 rfl) B.len) (by rw [List.length_map]))) rfl ?_ ?_ ?_) rfl ?_) ?_))
    · rw [← hqi, List.length_map]
      unfold ixN
      rw [if_pos (by omega), if_pos (by omega)]
      rfl
    · rw [List.getElem?_map, List.getElem?_eq_getElem hql]
      simp [List.getD, List.getElem?_eq_getElem hql]
    · omega
    · rw [List.length_map]
      omega
    · rw [List.map_append]
      show [_, _, Sl.ow ((s.left.map PyData.int).eraseIdx q), _, _] = _
      rw [eraseIdx_map']
      rfl
def RLi : List PyData → List PyData → PyData × List PyData → Prop := fun ms ds r => ∃ d, ∃ n : Nat, ms = encD d ∧ ds = [.int (n : Int)] ∧ d.k < 9500 ∧ n ≤ 60 ∧ r = (intsD (listD n d).1, encD (listD n d).2)
theorem f_law_list (Fn : Fun K "_law_list" "_law_list" s_law_list f fd) (B : Bt mg) (D1 : Df P w K mg base "_law_next" 1 (spM RNext)) (D2 : Df P w K mg base "_law_order" 2 (spM ROr)) : FnG P w K mg base 3 f fd ["_law_draws_here", "_law_most"] (spM RLi) := by
  refine funM Fn c_law_list (fun ms ds r ⟨_, _, _, h, _⟩ => by rw [h]; rfl) ?_
  rintro ms ds r ms' ⟨d, n, rfl, rfl, hk, hn, e⟩
  cases e
  obtain ⟨v, hv⟩ : ∃ v, v = numD d % 4 := ⟨_, rfl⟩
  have hv0 : v = 0 ∨ v = 1 ∨ v = 2 ∨ v = 3 := by omega
  obtain ⟨e1, e2⟩ := lenD_le (stepD d) n
  obtain ⟨m, hm⟩ : ∃ m, m = lenD (stepD d) n := ⟨_, rfl⟩
  obtain ⟨d2, hd2⟩ : ∃ d2, d2 = stepD (stepD d) := ⟨_, rfl⟩
  have k1 : (stepD d).k = d.k + 1 := rfl
  have k2 : d2.k = d.k + 2 := by rw [hd2]; rfl
  rw [← hm] at e1 e2
  have eD : listD n d = if v = 0 then ((orderS m d2 m).told, (orderS m d2 m).d) else listS v d2 m := by rw [hv, hm, hd2]; rfl
  by_cases h0 : v = 0
  · rw [eD, if_pos h0]
    refine ⟨[.ow (encD (orderS m d2 m).d), .va (.int (n : Int)), .va (.int v), .va (.int (m : Int)), .no, .no, .no], ?_, rfl⟩
    refine ss_cons (sd_set 2 (ED.is (ed_mod (m := numD d) (by decide) (ed_int1 (ed_callM (ms := encD d) (r := .int (numD d)) 0 D1.mono rfl ad_nil ⟨d, rfl, rfl, by omega, rfl⟩) B.int) ed_int) (congrArg PyData.int hv.symm)))
      (ss_cons (sd_set 3 (ED.is (ed_mod (m := numD (stepD d)) (n := (n : Int) + 1) (by omega) (ed_int1 (ed_callM (ms := encD (stepD d)) (r := .int (numD (stepD d))) 0 D1.mono rfl ad_nil ⟨_, rfl, rfl, by omega, rfl⟩) B.int) (ed_add (ed_var 1 rfl) ed_int)) (congrArg PyData.int e1.symm)))
      (ss_end (sd_if (k := true) (CD.bd (CD.is (cd_eqI (ed_var 2 rfl) ed_int) (decide_eq_true h0))) (fun _ => ss_one (sd_ret (ed_callM (ms := encD d2) (r := intsD (orderS m d2 m).told) (ms' := encD (orderS m d2 m).d) 0 D2.mono (by rw [hd2]; rfl) (ad_one (ed_var 3 rfl)) ⟨d2, m, rfl, rfl, by omega, by omega, rfl⟩))) fun z => by cases z)))
  · rw [eD, if_neg h0]
    let M : Nat → List Sl := fun i => [.ow (encD (listS v d2 i).2), .va (.int (n : Int)), .va (.int v), .va (.int (m : Int)), .ow ((listS v d2 i).1.map .int), .no, .no]
    refine ⟨(M m).set 4 (.va (.list ((listS v d2 m).1.map .int))), ?_, rfl⟩
    refine ss_cons (sd_set 2 (ED.is (ed_mod (m := numD d) (by decide) (ed_int1 (ed_callM (ms := encD d) (r := .int (numD d)) 0 D1.mono rfl ad_nil ⟨d, rfl, rfl, by omega, rfl⟩) B.int) ed_int) (congrArg PyData.int hv.symm)))
      (ss_cons (sd_set 3 (ED.is (ed_mod (m := numD (stepD d)) (n := (n : Int) + 1) (by omega) (ed_int1 (ed_callM (ms := encD (stepD d)) (r := .int (numD (stepD d))) 0 D1.mono rfl ad_nil ⟨_, rfl, rfl, by omega, rfl⟩) B.int) (ed_add (ed_var 1 rfl) ed_int)) (congrArg PyData.int e1.symm)))
      (ss_cons (sd_if (k := false) (CD.bd (CD.is (cd_eqI (ed_var 2 rfl) ed_int) (decide_eq_false h0))) (fun z => by cases z) fun _ => ss_nil)
      (ss_cons (SD.to (sd_new 4 (fd_lst ad_nil)) (L2' := M 0) (by rw [show M 0 = [.ow (encD d2), .va (.int (n : Int)), .va (.int v), .va (.int (m : Int)), .ow [], .no, .no] from rfl, hd2]; rfl))
      (ss_cons (SD.to (sd_forAll M (it_range1 (ed_var (L := M 0) 3 rfl) (by omega) B.range) (tg_name 5) (fun _ => rfl) fun i t hi => ⟨trivial, .inl ?body⟩) (L2' := M m) ?len)
      (ss_freeze 4 rfl (ss_one (sd_ret (ed_var 4 rfl))))))))
    case len => rw [List.length_map, List.length_range, Int.toNat_natCast]
    case body =>
      have hi' := (List.getElem?_eq_some_iff.mp hi).1
      rw [List.length_map, List.length_range, Int.toNat_natCast] at hi'
      obtain ⟨q1, q2⟩ := listS_inv v d2 i
      obtain ⟨s, hs⟩ : ∃ s, s = listS v d2 i := ⟨_, rfl⟩
      rw [← hs] at q1 q2
      obtain ⟨p, hp⟩ : ∃ p, p = numD s.2 := ⟨_, rfl⟩
      have eM : M i = [.ow (encD s.2), .va (.int (n : Int)), .va (.int v), .va (.int (m : Int)), .ow (s.1.map .int), .no, .no] := by rw [hs]
      have eM1 : M (i + 1) = [.ow (encD (stepD s.2)), .va (.int (n : Int)), .va (.int v), .va (.int (m : Int)), .ow (s.1.map .int ++ [.int (valN v p)]), .no, .no] := by
        rw [hp, hs]
        show [_, _, _, _, Sl.ow ((_ ++ [_]).map PyData.int), _, _] = _
        rw [List.map_append]
        rfl
      rw [eM, eM1]
      have g1 : (p % 5 - 2).natAbs < 2 ^ 200 := by omega
      have g2 : ((10 : Int) ^ 19 + p / 5 % 3).natAbs < 2 ^ 200 := by omega
      have hat : atI [PyData.int 0, .int (p % 4), .int (p % 30 - 9), .int ((p % 5 - 2) * (10 ^ 19 + p / 5 % 3))] v = some (.int (valN v p)) := by
        rcases hv0 with h | h | h | h
        · exact (h0 h).elim
        · rw [h]; rfl
        · rw [h]; rfl
        · rw [h]; rfl
      refine ss_nxwk (.keep (.keep (.keep (.keep (.keep (.drop (.drop .nil)))))))
        (ss_cons (sd_set 6 (ed_int1 (ed_callM (ms := encD s.2) (r := .int p) (ms' := encD (stepD s.2)) 0 D1.mono rfl ad_nil ⟨s.2, rfl, rfl, by omega, by rw [hp]⟩) B.int))
        (ss_one (sd_app 4 (ed_ixL (FD.ed (fd_lst (ad_cons ed_int (ad_cons (ed_mod (by decide) (ed_int1 (ed_var 6 rfl) B.int) ed_int) (ad_cons (ed_sub (ed_mod (by decide) (ed_int1 (ed_var 6 rfl) B.int) ed_int) ed_int)
          (ad_one (ed_mulW (mulW g1 g2) (ed_sub (ed_mod (by decide) (ed_int1 (ed_var 6 rfl) B.int) ed_int) ed_int) (ed_add (ED.is (ed_powW (m := 10) (n := 19) ⟨by decide, by decide +kernel⟩ ed_int ed_int) rfl) (ed_mod (by decide) (ed_int1 (ed_fdivW (m := p) ⟨by decide, by decide +kernel⟩ (ed_var 6 rfl) ed_int) B.int) ed_int))))))))) (ed_var 2 rfl) hat) rfl ?_)))
      rw [List.length_map]
      omega
end
end K2
namespace K2
open PySem PyProof.Rows L2 DL
/-! ### small data: compared and shown -/
structure Ds (w k : Nat) (d : PyData) : Prop where
  lay : d.canLay0 = true
  dep : d.depth ≤ k
  wt : d.weight ≤ w
  sh : d.showable = true
  ls : d.leavesShort 30 = true
structure DsA (w k : Nat) (ds : List PyData) : Prop where
  lay : PyData.canLayAll0 ds = true
  dep : PyData.depthAll ds ≤ k
  wt : PyData.weightAll ds ≤ w
  sh : PyData.showableAll ds = true
  ls : PyData.leavesShortAll 30 ds = true
theorem Ds.up {w k w' k' : Nat} {d : PyData} (h : Ds w k d) (hw : w ≤ w') (hk : k ≤ k') : Ds w' k' d := ⟨h.lay, Nat.le_trans h.dep hk, Nat.le_trans h.wt hw, h.sh, h.ls⟩
theorem Ds.nil {k : Nat} : DsA 0 k [] := ⟨rfl, Nat.zero_le _, Nat.le_refl _, rfl, rfl⟩
theorem Ds.cons {w k v : Nat} {d : PyData} {ds : List PyData} (h : Ds w k d) (h2 : DsA v k ds) : DsA (w + 1 + v) k (d :: ds) := by
  refine ⟨?_, ?_, ?_, ?_, ?_⟩
  · simp only [PyData.canLayAll0, h.lay, h2.lay, Bool.and_self]
  · simp only [PyData.depthAll]
    exact Nat.max_le.mpr ⟨h.dep, h2.dep⟩
  · simp only [PyData.weightAll]
    have := h.wt
    have := h2.wt
    omega
  · simp only [PyData.showableAll, h.sh, h2.sh, Bool.and_self]
  · simp only [PyData.leavesShortAll, h.ls, h2.ls, Bool.and_self]
theorem Ds.list {w k : Nat} {ds : List PyData} (h : DsA w k ds) : Ds w (k + 1) (.list ds) := ⟨by simpa only [PyData.canLay0] using h.lay, by simp only [PyData.depth]; exact Nat.succ_le_succ h.dep, by simpa only [PyData.weight] using h.wt, by simpa only [PyData.showable] using h.sh, by simpa only [PyData.leavesShort] using h.ls⟩
theorem Ds.tuple {w k : Nat} {ds : List PyData} (h : DsA w k ds) : Ds w (k + 1) (.tuple ds) := ⟨by simpa only [PyData.canLay0] using h.lay, by simp only [PyData.depth]; exact Nat.succ_le_succ h.dep, by simpa only [PyData.weight] using h.wt, by simpa only [PyData.showable] using h.sh, by simpa only [PyData.leavesShort] using h.ls⟩
theorem Ds.all {w k : Nat} : ∀ {ds : List PyData}, (∀ d ∈ ds, Ds w k d) → DsA ((w + 1) * ds.length) k ds
  | [], _ => Ds.nil
  | d :: ds, h => by
    have q := Ds.cons (h d (List.mem_cons_self ..)) (Ds.all fun x hx => h x (List.mem_cons_of_mem _ hx))
    have e : (w + 1) * (d :: ds).length = w + 1 + (w + 1) * ds.length := by
      rw [List.length_cons, Nat.mul_succ, Nat.add_comm]
    rw [e]
    exact q
theorem Ds.none {w k : Nat} : Ds w k .none := ⟨rfl, Nat.zero_le _, Nat.zero_le _, rfl, rfl⟩
theorem Ds.bool {w k : Nat} {b : Bool} : Ds w k (.bool b) := ⟨rfl, Nat.zero_le _, Nat.zero_le _, rfl, rfl⟩
theorem Ds.int {k : Nat} {n : Int} (h : n.natAbs < 10 ^ 29) : Ds 120 k (.int n) := by
  have h2 : n.natAbs < 2 ^ 100 := by omega
  have h3 := log2_lt h2 (by decide)
  refine ⟨rfl, Nat.zero_le _, ?_, ?_, ?_⟩
  · show (if n == 0 then 0 else n.natAbs.log2 + 1) ≤ 120
    split <;> omega
  · simp only [PyData.showable, decide_eq_true_eq]
    omega
  · simp only [PyData.leavesShort, decide_eq_true_eq]
    have e := int_text_length_le10 (k := 29) (by decide) h
    show (Str.ofString (toString n)).length ≤ 30
    rw [PySem.ofString_length]
    exact e
theorem Ds.shaped {w k : Nat} {d : PyData} (h : Ds w k d) (hk : k ≤ 64) : SeqAt.shaped d = true := by
  unfold SeqAt.shaped
  rw [h.lay, decide_eq_true (Nat.le_trans h.dep hk)]
  rfl
theorem Ds.reprOk {w k : Nat} {d : PyData} (h : Ds w k d) (hk : k ≤ 60) (hw : w ≤ 200000) (hd : isDisplay d = true) : ReprOk d :=
  ⟨h.sh, PyData.hasDict_of_canLay d h.lay, Nat.le_trans h.dep hk, hd, by
    have q := PyData.shown_le 30 (by decide) d h.ls
    have := h.wt
    have e : sizeLine = 16777216 := rfl
    rw [e]
    omega⟩
def sml (ns : List Int) : Prop := ∀ n ∈ ns, n.natAbs < 10 ^ 29
theorem ds_ints {ns : List Int} (h : sml ns) (hl : ns.length ≤ 60) : Ds 8000 1 (intsD ns) := by
  have q := Ds.all (w := 120) (k := 0) (ds := ns.map PyData.int) fun d hd => by
    obtain ⟨n, hn, rfl⟩ := List.mem_map.mp hd
    exact Ds.int (h n hn)
  rw [List.length_map] at q
  exact (Ds.list q).up (by omega) (Nat.le_refl _)
theorem ds_entry {e : Option Nat} {k : Nat} (h : okN 12 e) : Ds 120 k (encE e) := by
  cases e with
  | none => exact Ds.none
  | some n =>
    have := h n rfl
    exact Ds.int (by omega)
theorem okN_okE {pl : Plan} {e : Option Nat} (ok : okP pl) (h : okE pl e) : okN 12 e := fun n hn => Nat.lt_of_lt_of_le (h n hn) ok.1
theorem ds_plan {pl : Plan} (ok : okP pl) : Ds 4000 2 (encP pl) := by
  have q := Ds.all (w := 300) (k := 1) (ds := pl.map encT) fun d hd => by
    obtain ⟨t, ht, rfl⟩ := List.mem_map.mp hd
    obtain ⟨h1, h2⟩ := ok.2 t ht
    exact (Ds.tuple (Ds.cons (ds_entry (okN_okE ok h1)) (Ds.cons (ds_entry (okN_okE ok h2)) Ds.nil))).up (by decide) (Nat.le_refl _)
  rw [List.length_map] at q
  have := ok.1
  exact (Ds.list q).up (by omega) (Nat.le_refl _)
theorem eqvAll_ints : ∀ ns ms : List Int, PyData.eqvAll (ns.map PyData.int) (ms.map PyData.int) = decide (ns = ms)
  | [], [] => rfl
  | [], _ :: _ => rfl
  | _ :: _, [] => rfl
  | a :: r, b :: t => by
    simp only [List.map_cons, PyData.eqvAll, PyData.eqv, eqvAll_ints r t]
    by_cases h : a = b <;> by_cases h' : r = t <;> simp [h, h']
theorem eqv_ints (ns ms : List Int) : PyData.eqv (intsD ns) (intsD ms) = decide (ns = ms) := by
  unfold intsD
  simp only [PyData.eqv]
  exact eqvAll_ints ns ms
theorem eqv_nil {ds : List PyData} : PyData.eqv (.list ds) (.list []) = ds.isEmpty := by
  cases ds <;> simp [PyData.eqv, PyData.eqvAll]

/-! ### parted -/
def encQ (x : Int × Nat) : PyData := .tuple [.int x.1, .int (x.2 : Int)]
def pairsD (ps : List (Int × Nat)) : PyData := .list (ps.map encQ)
def onPair (t : Int → Bool) : PyData → Bool
  | .tuple [.int n, _] => t n
  | _ => false
theorem filter_pairs (t : Int → Bool) (ps : List (Int × Nat)) : ((ps.map encQ).filter (onPair t)).map (fun d => d) = (ps.filter fun x => t x.1).map encQ := by
  rw [List.map_id', List.filter_map]
  rfl
section
variable {P : Program} {w : World} {K : PySem.W.Frag} {mg : Str → Option Value} {base : Heap} {f : Addr} {fd : FuncData} {k : Nat}
theorem ds_pairs {ps : List (Int × Nat)} (h : ∀ p ∈ ps, p.1.natAbs < 10 ^ 29 ∧ p.2 < 100) (hl : ps.length ≤ 1000) : Ds 400000 2 (pairsD ps) := by
  have q := Ds.all (w := 300) (k := 1) (ds := ps.map encQ) fun d hd => by
    obtain ⟨t, ht, rfl⟩ := List.mem_map.mp hd
    obtain ⟨h1, h2⟩ := h t ht
    exact (Ds.tuple (Ds.cons (Ds.int h1) (Ds.cons (Ds.int (by omega)) Ds.nil))).up (by decide) (Nat.le_refl _)
  rw [List.length_map] at q
  exact (Ds.list q).up (by omega) (Nat.le_refl _)
theorem cutD_tail {d : PyData} {ds : List PyData} : DL.cutD (d :: ds) (some 1) none = ds := by
  have e1 : HT.sIx (d :: ds).length 0 (some 1) = 1 := by
    simp [HT.sIx]
  have e2 : HT.sIx (d :: ds).length (d :: ds).length none = (d :: ds).length := rfl
  unfold DL.cutD
  rw [e1, e2]
  simp
end
end K2
namespace K2
open PySem PyProof.Rows L2 DL
/-! ### rows of steps -/
def sgn (b : Bool) : Nat := if b then 108 else 114
def wS (w : List Bool) : Str := ⟨(w.map sgn).toArray⟩
theorem wS_len (w : List Bool) : (wS w).length = w.length := by
  show (w.map sgn).toArray.size = _
  simp
theorem wS_l (w : List Bool) : wS w ++ ("l" : Str) = wS (w ++ [true]) := by
  have e : ("l" : Str) = ⟨#[108]⟩ := by decide +kernel
  rw [e]
  show (⟨(w.map sgn).toArray ++ #[108]⟩ : Str) = _
  unfold wS
  simp [sgn]
theorem wS_r (w : List Bool) : wS w ++ ("r" : Str) = wS (w ++ [false]) := by
  have e : ("r" : Str) = ⟨#[114]⟩ := by decide +kernel
  rw [e]
  show (⟨(w.map sgn).toArray ++ #[114]⟩ : Str) = _
  unfold wS
  simp [sgn]
theorem wS_signs (w : List Bool) : signsD (wS w) = w.map fun b => PyData.str ⟨#[sgn b]⟩ := by
  unfold signsD wS
  simp
structure Wst where
  low : Option Int
  high : Option Int
  w : List Bool
def stepW (own : Int) (s : Wst) (v : Int) : Wst := if KM.outB s.low s.high v then s else if own < v then ⟨s.low, some v, s.w ++ [true]⟩ else ⟨some v, s.high, s.w ++ [false]⟩
theorem foldW (own : Int) : ∀ (r : List Int) (s : Wst), (r.foldl (stepW own) s).w = s.w ++ KM.wordF own s.low s.high r
  | [], s => by simp [KM.wordF]
  | v :: r, s => by
    rw [List.foldl_cons, foldW own r, KM.wordF]
    unfold stepW
    split
    · rfl
    · split
      · simp
      · simp
theorem foldW_len (own : Int) : ∀ (r : List Int) (s : Wst), (r.foldl (stepW own) s).w.length ≤ s.w.length + r.length
  | [], s => by simp
  | v :: r, s => by
    have h := foldW_len own r (stepW own s v)
    have h2 : (stepW own s v).w.length ≤ s.w.length + 1 := by
      unfold stepW
      split
      · omega
      · split <;> simp
    rw [List.foldl_cons, List.length_cons]
    omega
def encO : Option Int → PyData
  | none => .none
  | some n => .int n
def wordN (vs : List Int) (p : Nat) : List Bool := KM.wordF (vs.getD p 0) none none (vs.take p)
def entF (pl : Plan) (e : Option Nat) (b : Bool) : Option Nat := match e with
  | none => none
  | some q => if b then (atP pl q).1 else (atP pl q).2
theorem foldE_none (pl : Plan) : ∀ w : List Bool, w.foldl (entF pl) none = none
  | [] => rfl
  | b :: w => foldE_none pl w
theorem goes_fold (pl : Plan) : ∀ (w : List Bool) (e : Option Nat), KM.goesF pl e w = (w.foldl (entF pl) e).isSome
  | [], e => by cases e <;> rfl
  | b :: w, none => by
    rw [List.foldl_cons]
    show false = (w.foldl (entF pl) none).isSome
    rw [foldE_none]
    rfl
  | b :: w, some q => by
    rw [List.foldl_cons, KM.goesF, goes_fold pl w]
    rfl
theorem okE_fold {pl : Plan} (ok : okP pl) : ∀ (w : List Bool) (e : Option Nat), okE pl e → okE pl (w.foldl (entF pl) e)
  | [], e, h => h
  | b :: w, none, h => by
    rw [List.foldl_cons]
    exact okE_fold ok w none h
  | b :: w, some q, h => by
    rw [List.foldl_cons]
    obtain ⟨o1, o2⟩ := okP_at ok (h q rfl)
    refine okE_fold ok w _ ?_
    show okE pl (if b then (atP pl q).1 else (atP pl q).2)
    cases b
    · exact o2
    · exact o1
theorem cutD_take {ds : List PyData} {p : Nat} (h : p ≤ ds.length) : DL.cutD ds none (some (p : Int)) = ds.take p := by
  have e1 : HT.sIx ds.length 0 none = 0 := rfl
  have e2 : HT.sIx ds.length ds.length (some (p : Int)) = p := (HT.sIx_nat _ _ _).trans (Nat.min_eq_left h)
  unfold DL.cutD
  rw [e1, e2]
  simp
/-- the first place at which something holds -/
theorem firstAt (t : Nat → Bool) : ∀ n, ∃ m, m ≤ n ∧ (∀ i, i < m → t i = false) ∧ (m < n → t m = true)
  | 0 => ⟨0, Nat.le_refl _, fun i h => by omega, fun h => by omega⟩
  | n + 1 => by
    obtain ⟨m, h1, h2, h3⟩ := firstAt t n
    by_cases e : m < n
    · exact ⟨m, by omega, h2, fun _ => h3 e⟩
    · obtain rfl : m = n := by omega
      cases q : t m with
      | true => exact ⟨m, by omega, h2, fun _ => q⟩
      | false =>
        refine ⟨m + 1, Nat.le_refl _, fun i hi => ?_, fun h => by omega⟩
        by_cases e2 : i = m
        · rw [e2]
          exact q
        · exact h2 i (by omega)
section
variable {P : Program} {w : World} {K : PySem.W.Frag} {mg : Str → Option Value} {base : Heap} {f : Addr} {fd : FuncData} {k : Nat}
def wordIf : Expr := match (defBody s_word).getD 4 (.Pass ⟨0, 0, 0, 0⟩) with
  | .For _ _ (.If c _ _ _ :: _) _ _ => c
  | _ => .Constant .none 0 ⟨0, 0, 0, 0⟩
def lowB (low : Option Int) (v : Int) : Bool := match low with | none => false | some l => decide (v < l)
def highB (high : Option Int) (v : Int) : Bool := match high with | none => false | some h => decide (h ≤ v)
def lowE : Expr := match wordIf with
  | .BoolOp _ [a, _] _ => a
  | e => e
def highE : Expr := match wordIf with
  | .BoolOp _ [_, b] _ => b
  | e => e
def RWo : List PyData → PyData → Prop := fun ds r => ∃ vs, ∃ p : Nat, ds = [intsD vs, .int (p : Int)] ∧ vs.length ≤ 60 ∧ p < vs.length ∧ r = .str (wS (wordN vs p))
theorem f_word (Fn : Fun K "_word" "_word" s_word f fd) (B : Bt mg) : FnG P w K mg base 1 f fd ["values", "place"] (spD RWo) := by
  refine funD Fn c_word (fun ds r ⟨_, _, h, _⟩ => by rw [h]; rfl) ?_
  rintro ds r ⟨vs, p, rfl, hl, hp, rfl⟩
  let S : Nat → Wst := fun i => ((vs.take p).take i).foldl (stepW (vs.getD p 0)) ⟨none, none, []⟩
  let M : Nat → List Sl := fun i => [.va (intsD vs), .va (.int (p : Int)), .va (.int (vs.getD p 0)), .va (encO (S i).low), .va (encO (S i).high), .va (.str (wS (S i).w)), .no]
  have hlen : ((vs.take p).map PyData.int).length = p := by
    rw [List.length_map, List.length_take]
    omega
  apply Exists.intro
  refine ss_cons (sd_set 2 (ed_ixL (ed_var 0 rfl) (ed_var 1 rfl) (atI_ints hp)))
    (ss_cons (sd_set 3 ed_non) (ss_cons (sd_set 4 ed_non) (ss_cons (sd_set 5 ed_str)
    (ss_cons (SD.to (sd_forAll M (it_list (FD.ed (FD.is (ds2 := (vs.take p).map PyData.int) (fd_slice (ed_var 0 rfl) od_none (od_some (ed_var 1 rfl))) ?cut))) (tg_name 6) (fun _ => rfl) fun i t hi => ⟨trivial, ?turn⟩) (L2' := M p) ?len)
    (ss_one (sd_ret (ED.is (ed_var 5 rfl) ?fin)))))))
  case cut =>
    rw [cutD_take (by rw [List.length_map]; omega), List.map_take]
  case len => rw [hlen]
  case fin =>
    show PyData.str (wS (S p).w) = _
    have e : (S p).w = wordN vs p := by
      show (((vs.take p).take p).foldl (stepW (vs.getD p 0)) ⟨none, none, []⟩).w = _
      rw [List.take_take, Nat.min_self, foldW]
      rfl
    rw [e]
  case turn =>
    have hi' := (List.getElem?_eq_some_iff.mp hi).1
    rw [hlen] at hi'
    have hiv : i < vs.length := by omega
    obtain ⟨v, hv⟩ : ∃ v, v = vs[i] := ⟨_, rfl⟩
    have et : t = .int v := by
      rw [List.getElem?_map, List.getElem?_take_of_lt hi', List.getElem?_eq_getElem hiv] at hi
      rw [hv]
      exact (Option.some.inj hi).symm
    have eS : S (i + 1) = stepW (vs.getD p 0) (S i) v := by
      show ((vs.take p).take (i + 1)).foldl _ _ = _
      rw [List.take_succ, List.foldl_append, List.getElem?_take_of_lt hi', List.getElem?_eq_getElem hiv, hv]
      rfl
    have wl : (S i).w.length ≤ 60 := by
      have := foldW_len (vs.getD p 0) ((vs.take p).take i) ⟨none, none, []⟩
      rw [List.length_take, List.length_take] at this
      show (((vs.take p).take i).foldl (stepW (vs.getD p 0)) ⟨none, none, []⟩).w.length ≤ 60
      have z0 : (⟨none, none, []⟩ : Wst).w.length = 0 := rfl
      rw [z0] at this
      omega
    obtain ⟨s, hs⟩ : ∃ s, s = S i := ⟨_, rfl⟩
    rw [← hs] at eS wl
    obtain ⟨own, ho⟩ : ∃ own, own = vs.getD p 0 := ⟨_, rfl⟩
    have eM : M i = [.va (intsD vs), .va (.int (p : Int)), .va (.int own), .va (encO s.low), .va (encO s.high), .va (.str (wS s.w)), .no] := by rw [hs, ho]
    have eM1 : M (i + 1) = [.va (intsD vs), .va (.int (p : Int)), .va (.int own), .va (encO (stepW own s v).low), .va (encO (stepW own s v).high), .va (.str (wS (stepW own s v).w)), .no] := by rw [ho, ← eS]
    rw [eM, eM1, et]
    obtain ⟨low, high, ww⟩ := s
    dsimp only at wl
    let LI : List Sl := [.va (intsD vs), .va (.int (p : Int)), .va (.int own), .va (encO low), .va (encO high), .va (.str (wS ww)), .va (.int v)]
    show SsD [] _ _ LI _ ∨ SsD [] _ _ LI _
    have hlow : BD (famOf P w K mg base n_word "_word" (defScope s_word) f 0) lowE LI (lowB low v) LI := by
      cases low with
      | none => exact WD.bd (wd_andF (CD.bd (CD.is (cd_notN (ed_var 3 rfl)) rfl)))
      | some l => exact BD.is (bd_and2 (k := true) (l := decide (v < l)) (CD.bd (CD.is (cd_notN (ed_var 3 rfl)) rfl)) fun _ => CD.bd (cd_lt (ed_var 6 rfl) (ed_var (d := .int l) 3 rfl))) (Bool.true_and _)
    have hhigh : BD (famOf P w K mg base n_word "_word" (defScope s_word) f 0) highE LI (highB high v) LI := by
      cases high with
      | none => exact WD.bd (wd_andF (CD.bd (CD.is (cd_notN (ed_var 4 rfl)) rfl)))
      | some l => exact BD.is (bd_and2 (k := true) (l := decide (l ≤ v)) (CD.bd (CD.is (cd_notN (ed_var 4 rfl)) rfl)) fun _ => CD.bd (cd_ge (ed_var 6 rfl) (ed_var (d := .int l) 4 rfl))) (Bool.true_and _)
    cases hO : KM.outB low high v with
    | true =>
      have eT : stepW own ⟨low, high, ww⟩ v = ⟨low, high, ww⟩ := by
        unfold stepW
        rw [if_pos hO]
      rw [eT]
      refine .inr (ss_wk (L1 := LI) .refl (ss_end (sd_if (k := true) (BD.is (bd_or2 hlow fun _ => hhigh) hO) (fun _ => ?ct) fun z => by cases z)))
      case ct =>
        exact ss_wk (L1 := [.va (intsD vs), .va (.int (p : Int)), .va (.int own), .va (encO low), .va (encO high), .va (.str (wS ww)), .no]) (.keep (.keep (.keep (.keep (.keep (.keep (.drop .nil))))))) (ss_one sd_cont)
    | false =>
      by_cases hlt : own < v
      · have eT : stepW own ⟨low, high, ww⟩ v = ⟨low, some v, ww ++ [true]⟩ := by
          unfold stepW
          rw [if_neg (by rw [hO]; exact Bool.false_ne_true), if_pos hlt]
        rw [eT]
        refine .inl (ss_nxwk (L1 := [.va (intsD vs), .va (.int (p : Int)), .va (.int own), .va (encO low), .va (.int v), .va (.str (wS (ww ++ [true]))), .va (.int v)]) (.keep (.keep (.keep (.keep (.keep (.keep (.drop .nil)))))))
          (ss_cons (sd_if (k := false) (BD.is (bd_or2 hlow fun _ => hhigh) hO) (fun z => by cases z) fun _ => ss_nil)
          (ss_one (sd_if (k := true) (CD.bd (CD.is (cd_lt (ed_var 2 rfl) (ed_var 6 rfl)) (decide_eq_true hlt))) (fun _ => ss_cons (sd_set 4 (ed_var 6 rfl)) (ss_one (sd_set 5 (ED.is (ed_addS (ed_var 5 rfl) ed_str ?la) (congrArg PyData.str (wS_l ww)))))) fun z => by cases z))))
        case la =>
          rw [wS_len]
          show _ + 1 ≤ _
          omega
      · have eT : stepW own ⟨low, high, ww⟩ v = ⟨some v, high, ww ++ [false]⟩ := by
          unfold stepW
          rw [if_neg (by rw [hO]; exact Bool.false_ne_true), if_neg hlt]
        rw [eT]
        refine .inl (ss_nxwk (L1 := [.va (intsD vs), .va (.int (p : Int)), .va (.int own), .va (.int v), .va (encO high), .va (.str (wS (ww ++ [false]))), .va (.int v)]) (.keep (.keep (.keep (.keep (.keep (.keep (.drop .nil)))))))
          (ss_cons (sd_if (k := false) (BD.is (bd_or2 hlow fun _ => hhigh) hO) (fun z => by cases z) fun _ => ss_nil)
          (ss_one (sd_if (k := false) (CD.bd (CD.is (cd_lt (ed_var 2 rfl) (ed_var 6 rfl)) (decide_eq_false hlt))) (fun z => by cases z) fun _ => ss_cons (sd_set 3 (ed_var 6 rfl)) (ss_one (sd_set 5 (ED.is (ed_addS (ed_var 5 rfl) ed_str ?lb) (congrArg PyData.str (wS_r ww)))))))))
        case lb =>
          rw [wS_len]
          show _ + 1 ≤ _
          omega
end
end K2
namespace K2
open PySem PyProof.Rows L2 DL
def pivN (pl : Plan) (vs : List Int) : List Nat := (List.range vs.length).filter fun p => KM.goesF pl (fst0 pl) (wordN vs p)
theorem eqv_nats_mem (n : Nat) : ∀ ns : List Nat, (ns.map fun (n : Nat) => PyData.int (n : Int)).any (fun d => PyData.eqv d (.int (n : Int))) = decide (n ∈ ns)
  | [] => rfl
  | m :: ns => by
    rw [List.map_cons, List.any_cons, eqv_nats_mem n ns]
    simp only [PyData.eqv]
    by_cases h : m = n
    · simp [h]
    · have : ¬ n = m := fun e => h e.symm
      have h2 : ((m : Int) == (n : Int)) = false := by
        simp
        omega
      simp [this, h2]
theorem strL0 : ("l" : Str) = ⟨#[108]⟩ := by decide +kernel
theorem isL (b : Bool) : decide ((⟨#[sgn b]⟩ : Str) = ("l" : Str)) = b := by
  rw [strL0]
  cases b <;> decide
def entAt (pl : Plan) (w : List Bool) (i : Nat) : Option Nat := (w.take i).foldl (entF pl) (fst0 pl)
def untilF (pl : Plan) (w : List Bool) : Option Nat := (List.range (w.length + 1)).find? fun i => (entAt pl w i).isNone
theorem entAt_ok {pl : Plan} (ok : okP pl) (w : List Bool) (i : Nat) : okE pl (entAt pl w i) := okE_fold ok _ _ (okE_fst0 pl)
theorem entAt_succ {pl : Plan} {w : List Bool} {i : Nat} (hi : i < w.length) : entAt pl w (i + 1) = entF pl (entAt pl w i) (w.getD i false) := by
  unfold entAt
  rw [List.take_succ, List.foldl_append, List.getElem?_eq_getElem hi]
  simp [List.getD, List.getElem?_eq_getElem hi]
theorem find_range {t : Nat → Bool} {n m : Nat} (hm : m < n) (h1 : ∀ i, i < m → t i = false) (h2 : t m = true) : (List.range n).find? t = some m := by
  rw [List.find?_range_eq_some]
  exact ⟨h2, by simpa using hm, fun j hj => by rw [h1 j hj]; rfl⟩
theorem find_none {t : Nat → Bool} {n : Nat} (h : ∀ i, i < n → t i = false) : (List.range n).find? t = none := by
  rw [List.find?_eq_none]
  intro x hx
  rw [h x (List.mem_range.mp hx)]
  simp
theorem until_at {pl : Plan} {w : List Bool} {m : Nat} (hm : m < w.length) (h1 : ∀ i, i < m → (entAt pl w i).isNone = false) (h2 : (entAt pl w m).isNone = true) : untilF pl w = some m := find_range (by omega) h1 h2
theorem until_end {pl : Plan} {w : List Bool} (h1 : ∀ i, i < w.length → (entAt pl w i).isNone = false) : untilF pl w = if (entAt pl w w.length).isNone then some w.length else none := by
  cases h : (entAt pl w w.length).isNone with
  | true => exact find_range (by omega) h1 h
  | false =>
    refine find_none fun i hi => ?_
    by_cases e : i = w.length
    · rw [e]; exact h
    · exact h1 i (by omega)
theorem signs_at {w : List Bool} {i : Nat} {t : PyData} (h : (signsD (wS w))[i]? = some t) : t = .str ⟨#[sgn (w.getD i false)]⟩ ∧ i < w.length := by
  have hi := (List.getElem?_eq_some_iff.mp h).1
  rw [wS_signs, List.length_map] at hi
  rw [wS_signs, List.getElem?_map, List.getElem?_eq_getElem hi] at h
  refine ⟨?_, hi⟩
  simp only [List.getD, List.getElem?_eq_getElem hi, Option.getD_some]
  exact (Option.some.inj h).symm
theorem signs_get {w : List Bool} {i : Nat} (hi : i < w.length) : (signsD (wS w))[i]? = some (.str ⟨#[sgn (w.getD i false)]⟩) := by
  rw [wS_signs, List.getElem?_map, List.getElem?_eq_getElem hi]
  simp only [List.getD, List.getElem?_eq_getElem hi, Option.getD_some]
  rfl
theorem enumS_get {w : List Bool} {i : Nat} (hi : i < w.length) : (enumD (signsD (wS w)))[i]? = some (.tuple [.int (i : Int), .str ⟨#[sgn (w.getD i false)]⟩]) := by
  unfold enumD
  rw [List.getElem?_mapIdx, signs_get hi]
  rfl
theorem enumS_len (w : List Bool) : (enumD (signsD (wS w))).length = w.length := by
  unfold enumD
  rw [List.length_mapIdx, wS_signs, List.length_map]
theorem until_goes (pl : Plan) (w : List Bool) : isN (encE (untilF pl w)) = KM.goesF pl (fst0 pl) w := by
  have full : entAt pl w w.length = w.foldl (entF pl) (fst0 pl) := by
    unfold entAt
    rw [List.take_length]
  obtain ⟨m, hm, hne, hst⟩ := firstAt (fun i => (entAt pl w i).isNone) w.length
  rw [goes_fold, ← full]
  by_cases hlt : m < w.length
  · rw [until_at hlt hne (hst hlt)]
    have eN : entAt pl w m = none := by simpa using hst hlt
    have e : entAt pl w w.length = (w.drop m).foldl (entF pl) (entAt pl w m) := by
      rw [full]
      unfold entAt
      rw [← List.foldl_append, List.take_append_drop]
    rw [e, eN, foldE_none]
    rfl
  · obtain rfl : m = w.length := by omega
    rw [until_end hne]
    cases entAt pl w w.length <;> rfl
theorem wordN_le0 (vs : List Int) (p : Nat) : (wordN vs p).length ≤ p := by
  have h1 := foldW (vs.getD p 0) (vs.take p) ⟨none, none, []⟩
  have h2 := foldW_len (vs.getD p 0) (vs.take p) ⟨none, none, []⟩
  rw [h1] at h2
  have h3 : ([] ++ KM.wordF (vs.getD p 0) none none (vs.take p)).length ≤ 0 + (vs.take p).length := h2
  rw [List.nil_append, List.length_take] at h3
  unfold wordN
  omega
section
variable {P : Program} {w : World} {K : PySem.W.Frag} {mg : Str → Option Value} {base : Heap} {f : Addr} {fd : FuncData} {k : Nat}
def untB : List Stmt := match (defBody ssteps_until_stop).getD 1 (.Pass ⟨0, 0, 0, 0⟩) with
  | .For _ _ b _ _ => b
  | _ => []
def RUn : List PyData → PyData → Prop := fun ds r => ∃ pl ww, ds = [encP pl, .str (wS ww)] ∧ okP pl ∧ ww.length ≤ 60 ∧ r = encE (untilF pl ww)
theorem f_until (Fn : Fun K "steps_until_stop" "steps_until_stop" ssteps_until_stop f fd) (B : Bt mg) (D1 : Df P w K mg base "first_entry" 1 (spD RFst)) : FnG P w K mg base 2 f fd ["plan", "steps"] (spD RUn) := by
  refine funD Fn csteps_until_stop (fun ds r ⟨_, _, h, _⟩ => by rw [h]; rfl) ?_
  rintro ds r ⟨pl, ww, rfl, ok, h60, rfl⟩
  let M : Nat → List Sl := fun i => [.va (encP pl), .va (.str (wS ww)), .va (encE (entAt pl ww i)), .no, .no, .no, .no]
  obtain ⟨m, hm, hne, hst⟩ := firstAt (fun i => (entAt pl ww i).isNone) ww.length
  have step : ∀ i, i < ww.length → (entAt pl ww i).isNone = false → SsD [] (famOf P w K mg base nsteps_until_stop "steps_until_stop" (defScope ssteps_until_stop) f 1) untB (((M i).set 3 (.va (.int (i : Int)))).set 4 (.va (.str ⟨#[sgn (ww.getD i false)]⟩))) (.nx (M (i + 1))) := fun i hi he => by
    obtain ⟨q, hq⟩ : ∃ q, entAt pl ww i = some q := by
      cases h : entAt pl ww i with
      | none => rw [h] at he; cases he
      | some q => exact ⟨q, rfl⟩
    obtain ⟨b, hb⟩ : ∃ b, b = ww.getD i false := ⟨_, rfl⟩
    have eE : entAt pl ww (i + 1) = if b then (atP pl q).1 else (atP pl q).2 := by
      rw [entAt_succ hi, hq, ← hb]
      rfl
    have eM : ((M i).set 3 (.va (.int (i : Int)))).set 4 (.va (.str ⟨#[sgn (ww.getD i false)]⟩)) = [.va (encP pl), .va (.str (wS ww)), .va (encE (some q)), .va (.int (i : Int)), .va (.str ⟨#[sgn b]⟩), .no, .no] := by
      rw [← hb, ← hq]
      rfl
    have eM1 : M (i + 1) = [.va (encP pl), .va (.str (wS ww)), .va (encE (if b then (atP pl q).1 else (atP pl q).2)), .no, .no, .no, .no] := by rw [← eE]
    have hql : q < pl.length := entAt_ok ok ww i q hq
    rw [eM, eM1]
    refine ss_nxwk (L1 := [.va (encP pl), .va (.str (wS ww)), .va (encE (if b then (atP pl q).1 else (atP pl q).2)), .va (.int (i : Int)), .va (.str ⟨#[sgn b]⟩), .va (encE (atP pl q).1), .va (encE (atP pl q).2)]) (.keep (.keep (.keep (.drop (.drop (.drop (.drop .nil)))))))
      (ss_cons (sd_if (k := false) (CD.bd (CD.is (cd_isN (ed_var 2 rfl)) rfl)) (fun z => by cases z) fun _ => ss_nil)
      (ss_cons (sd_tup2 5 6 (ed_ixL (ed_var 0 rfl) (ed_var 2 rfl) (atI_plan hql)))
      (ss_one (sd_set 2 (ed_if (k := b) (CD.bd (CD.is (cd_eqS (ed_var 4 rfl) ed_str) (isL b))) (fun h => ED.is (ed_var 5 rfl) (by rw [h]; rfl)) fun h => ED.is (ed_var 6 rfl) (by rw [h]; rfl))))))
  have get : ∀ i t, (enumD (signsD (wS ww)))[i]? = some t → t = .tuple [.int (i : Int), .str ⟨#[sgn (ww.getD i false)]⟩] ∧ i < ww.length := fun i t h => by
    have hi := (List.getElem?_eq_some_iff.mp h).1
    rw [enumS_len] at hi
    rw [enumS_get hi] at h
    exact ⟨(Option.some.inj h).symm, hi⟩
  by_cases hlt : m < ww.length
  · have eN : entAt pl ww m = none := by simpa using hst hlt
    rw [until_at hlt hne (hst hlt)]
    refine ⟨((M m).set 3 (.va (.int (m : Int)))).set 4 (.va (.str ⟨#[sgn (ww.getD m false)]⟩)), ss_cons (sd_set 2 (ed_call (r := encE (fst0 pl)) D1.mono (ad_one (ed_var 0 rfl)) ⟨pl, rfl, rfl⟩)) (ss_end (sd_for M m (it_enumS (ed_var (L := M 0) 1 rfl) B.enumerate) (tg_tup2 3 4) (by decide) (fun _ => rfl) (by rw [enumS_len]; exact hm) (fun i t h1 h2 => ?a) ?b))⟩
    case a =>
      obtain ⟨rfl, h3⟩ := get i t h2
      exact ⟨⟨_, _, rfl⟩, .inl (step i h3 (hne i h1))⟩
    case b =>
      rw [enumS_get hlt]
      refine ⟨⟨_, _, rfl⟩, .inr ⟨?_, .inl ⟨_, _, rfl⟩⟩⟩
      have eM : ((M m).set 3 (.va (.int (m : Int)))).set 4 (.va (.str ⟨#[sgn (ww.getD m false)]⟩)) = [.va (encP pl), .va (.str (wS ww)), .va .none, .va (.int (m : Int)), .va (.str ⟨#[sgn (ww.getD m false)]⟩), .no, .no] := by
        show [_, _, Sl.va (encE (entAt pl ww m)), _, _, _, _] = _
        rw [eN]
        rfl
      show SsD [] _ untB (((M m).set 3 (.va (.int (m : Int)))).set 4 (.va (.str ⟨#[sgn (ww.getD m false)]⟩))) (.rt (.int (m : Int)) (((M m).set 3 (.va (.int (m : Int)))).set 4 (.va (.str ⟨#[sgn (ww.getD m false)]⟩))))
      rw [eM]
      exact ss_end (sd_if (k := true) (CD.bd (CD.is (cd_isN (ed_var 2 rfl)) rfl)) (fun _ => ss_one (sd_ret (ed_var 3 rfl))) fun z => by cases z)
  · obtain rfl : m = ww.length := by omega
    rw [until_end hne]
    refine ⟨M ww.length, ss_cons (sd_set 2 (ed_call (r := encE (fst0 pl)) D1.mono (ad_one (ed_var 0 rfl)) ⟨pl, rfl, rfl⟩)) (ss_cons (sd_for M ww.length (o := .nx (M ww.length)) (it_enumS (ed_var (L := M 0) 1 rfl) B.enumerate) (tg_tup2 3 4) (by decide) (fun _ => rfl) (by rw [enumS_len]; exact hm) (fun i t h1 h2 => ?a2) ?b2) (ss_one (sd_ret ?c2)))⟩
    case a2 =>
      obtain ⟨rfl, h3⟩ := get i t h2
      exact ⟨⟨_, _, rfl⟩, .inl (step i h3 (hne i h1))⟩
    case b2 =>
      rw [List.getElem?_eq_none (by rw [enumS_len]; exact Nat.le_refl _)]
    case c2 =>
      cases h : entAt pl ww ww.length with
      | none =>
        have eM : M ww.length = [.va (encP pl), .va (.str (wS ww)), .va .none, .no, .no, .no, .no] := by
          show [_, _, Sl.va (encE (entAt pl ww ww.length)), _, _, _, _] = _
          rw [h]
          rfl
        rw [eM]
        exact ed_if (k := true) (CD.bd (CD.is (cd_isN (ed_var 2 rfl)) rfl)) (fun _ => ED.is (ed_lenS (ed_var 1 rfl) (by rw [wS_len]; omega) B.len) (by rw [wS_len]; rfl)) fun z => by cases z
      | some q =>
        have eM : M ww.length = [.va (encP pl), .va (.str (wS ww)), .va (.int (q : Int)), .no, .no, .no, .no] := by
          show [_, _, Sl.va (encE (entAt pl ww ww.length)), _, _, _, _] = _
          rw [h]
          rfl
        rw [eM]
        exact ed_if (k := false) (CD.bd (CD.is (cd_isN (ed_var 2 rfl)) rfl)) (fun z => by cases z) fun _ => ed_non
def RPp : List PyData → PyData → Prop := fun ds r => ∃ pl vs, ds = [encP pl, intsD vs] ∧ okP pl ∧ vs.length ≤ 60 ∧ r = natsD (pivN pl vs)
theorem f_pivot_places (Fn : Fun K "_pivot_places" "_pivot_places" s_pivot_places f fd) (B : Bt mg) (D1 : Df P w K mg base "_word" 1 (spD RWo)) (D2 : Df P w K mg base "steps_until_stop" 2 (spD RUn)) : FnG P w K mg base 3 f fd ["plan", "values"] (spD RPp) := by
  refine funD Fn c_pivot_places (fun ds r ⟨_, _, h, _⟩ => by rw [h]; rfl) ?_
  rintro ds r ⟨pl, vs, rfl, ok, hl, rfl⟩
  apply Exists.intro
  refine ss_one (sd_ret (FD.ed (FD.is (CompD.fd (cd_filter (fun d => d) (onNat fun p => KM.goesF pl (fst0 pl) (wordN vs p)) (own := [("place", 2)]) (it_range1 (ed_len (ds := vs.map .int) (ED.ld (ed_var 1 rfl)) B.len) ?b1 B.range) (blkOk_by rfl) (tg_name 2) (by decide) rfl ⟨rfl, trivial⟩ (fun d hd => ?t) ?tl)) ?fin)))
  case b1 =>
    rw [List.length_map]
    omega
  case tl =>
    rw [List.length_map, List.length_range, List.length_map]
    omega
  case t =>
    obtain ⟨p, hp, rfl⟩ := List.mem_map.mp hd
    rw [List.mem_range, List.length_map] at hp
    have hp' : p < vs.length := by omega
    have hw := wordN_le0 vs p
    exact ⟨trivial, CD.bd (CD.is (cd_isN (ed_call (r := encE (untilF pl (wordN vs p))) D2.mono (ad_cons (ed_var 0 rfl) (ad_one (ed_call (r := .str (wS (wordN vs p))) D1.mono (ad_cons (ed_var 1 rfl) (ad_one (ed_var 2 rfl))) ⟨vs, p, rfl, hl, hp', rfl⟩))) ⟨pl, _, rfl, ok, by omega, rfl⟩)) (until_goes pl _)), fun _ => ed_var 2 rfl⟩
  case fin =>
    rw [List.length_map, Int.toNat_natCast]
    exact filter_nats (fun p => KM.goesF pl (fst0 pl) (wordN vs p)) (List.range vs.length)
def RPi : List PyData → List PyData → Prop := fun ds r => ∃ pl vs, ds = [encP pl, intsD vs] ∧ okP pl ∧ vs.length ≤ 60 ∧ r = (pivN pl vs).map fun (n : Nat) => PyData.int (n : Int)
end
end K2
namespace K2
open PySem PyProof.Rows L2 DL
theorem enumD_range (vs : List Int) : enumD (vs.map PyData.int) = (List.range vs.length).map fun (i : Nat) => PyData.tuple [.int (i : Int), .int (vs.getD i 0)] := by
  apply List.ext_getElem?
  intro i
  unfold enumD
  rw [List.getElem?_mapIdx, List.getElem?_map, List.getElem?_map]
  by_cases h : i < vs.length
  · rw [List.getElem?_eq_getElem h, List.getElem?_range h]
    simp [List.getD, List.getElem?_eq_getElem h]
  · rw [List.getElem?_eq_none (by omega), List.getElem?_eq_none (by simp; omega)]
    rfl
theorem eqv_ints_mem (n : Int) : ∀ ns : List Int, (ns.map PyData.int).any (fun d => PyData.eqv d (.int n)) = decide (n ∈ ns)
  | [] => rfl
  | m :: ns => by
    rw [List.map_cons, List.any_cons, eqv_ints_mem n ns]
    simp only [PyData.eqv]
    by_cases h : m = n
    · simp [h]
    · have : ¬ n = m := fun e => h e.symm
      simp [this, h]
theorem shp_ints (ns : List Int) : SeqAt.shaped (.list (ns.map PyData.int)) = true := PySem.W.ke_shaped_ints ns
theorem nats_ints (ns : List Nat) : (ns.map fun (n : Nat) => PyData.int (n : Int)) = (ns.map fun (n : Nat) => (n : Int)).map PyData.int := by
  rw [List.map_map]
  rfl
theorem shp_nats (ns : List Nat) : SeqAt.shaped (natsD ns) = true := by
  unfold natsD
  rw [nats_ints]
  exact shp_ints _
section
variable {P : Program} {w : World} {K : PySem.W.Frag} {mg : Str → Option Value} {base : Heap} {f : Addr} {fd : FuncData} {k : Nat}
theorem f_pivots (Fn : Fun K "pivots" "pivots" spivots f fd) (B : Bt mg) (D1 : Df P w K mg base "check_plan" 5 (spD RCkP)) (D2 : Df P w K mg base "check_values" 5 (spD RCkV)) (D4 : Df P w K mg base "_pivot_places" 3 (spD RPp)) : FnG P w K mg base 67 f fd ["plan", "values"] (spD RPp) := by
  refine funD Fn cpivots (fun ds r ⟨_, _, h, _⟩ => by rw [h]; rfl) ?_
  rintro ds r ⟨pl, vs, rfl, ok, hl, rfl⟩
  apply Exists.intro
  exact ss_cons (sd_expr (ed_call (r := .none) D1.mono (ad_one (ed_var 0 rfl)) ⟨pl, rfl, ok, rfl⟩))
    (ss_cons (sd_expr (ed_call (r := .none) D2.mono (ad_one (ed_var 1 rfl)) ⟨vs, rfl, hl, rfl⟩))
    (ss_one (sd_ret (ed_call (r := natsD (pivN pl vs)) D4.mono (ad_cons (ed_var 0 rfl) (ad_one (ed_var 1 rfl))) ⟨pl, vs, rfl, ok, hl, rfl⟩))))
def sndD : PyData → PyData
  | .tuple [_, b] => b
  | d => d
end
end K2
namespace K2
open PySem PyProof.Rows L2 DL
/-! ### data of any kind, asked -/
def plainD : PyData → Bool
  | .dict ((.str _, _) :: _) => false
  | _ => true
def wholeD : PyData → Bool
  | .int _ => true
  | _ => false
def listB : PyData → Bool
  | .list _ => true
  | _ => false
def kI : PyData → Bool
  | .int _ => true
  | .bool _ => true
  | _ => false
def kB : PyData → Bool
  | .bool _ => true
  | _ => false
theorem kit_dict {kvs : List (PyData × PyData)} {T : String} {b : Bool} (h : plainD (.dict kvs) = true) (e : kitB "dict" T = some b) : kitD (.dict kvs) T = some b := by
  unfold kitD
  split
  · rename_i q
    cases q
    cases h
  · exact e
theorem kit_int {d : PyData} (h : plainD d = true) : kitD d "int" = some (kI d) := by
  cases d with
  | none => exact (by decide +kernel : kitB "NoneType" "int" = some false)
  | bool b => exact (by decide +kernel : kitB "bool" "int" = some true)
  | int b => exact (by decide +kernel : kitB "int" "int" = some true)
  | str b => exact (by decide +kernel : kitB "str" "int" = some false)
  | list b => exact (by decide +kernel : kitB "list" "int" = some false)
  | tuple b => exact (by decide +kernel : kitB "tuple" "int" = some false)
  | dict b => exact kit_dict h (by decide +kernel : kitB "dict" "int" = some false)
theorem kit_bool {d : PyData} (h : plainD d = true) : kitD d "bool" = some (kB d) := by
  cases d with
  | none => exact (by decide +kernel : kitB "NoneType" "bool" = some false)
  | bool b => exact (by decide +kernel : kitB "bool" "bool" = some true)
  | int b => exact (by decide +kernel : kitB "int" "bool" = some false)
  | str b => exact (by decide +kernel : kitB "str" "bool" = some false)
  | list b => exact (by decide +kernel : kitB "list" "bool" = some false)
  | tuple b => exact (by decide +kernel : kitB "tuple" "bool" = some false)
  | dict b => exact kit_dict h (by decide +kernel : kitB "dict" "bool" = some false)
theorem kit_list {d : PyData} (h : plainD d = true) : kitD d "list" = some (listB d) := by
  cases d with
  | none => exact (by decide +kernel : kitB "NoneType" "list" = some false)
  | bool b => exact (by decide +kernel : kitB "bool" "list" = some false)
  | int b => exact (by decide +kernel : kitB "int" "list" = some false)
  | str b => exact (by decide +kernel : kitB "str" "list" = some false)
  | list b => exact (by decide +kernel : kitB "list" "list" = some true)
  | tuple b => exact (by decide +kernel : kitB "tuple" "list" = some false)
  | dict b => exact kit_dict h (by decide +kernel : kitB "dict" "list" = some false)
theorem whole_is (d : PyData) : (kI d && !kB d) = wholeD d := by cases d <;> rfl
/-- the first thing of a list that is no whole number -/
def oddAt : List PyData → Option Nat
  | [] => none
  | d :: ds => if wholeD d then (oddAt ds).map (· + 1) else some 0
/-- what is wrong with a list of values -/
def badV : PyData → Option PyData
  | .list ds => if 60 < ds.length then some .none else (oddAt ds).map fun (i : Nat) => PyData.int (i : Int)
  | _ => some .none
theorem oddAt_spec : ∀ {ds : List PyData} {m : Nat}, oddAt ds = some m → (∃ d, ds[m]? = some d ∧ wholeD d = false) ∧ ∀ i d, i < m → ds[i]? = some d → wholeD d = true
  | d :: ds, m, h => by
    unfold oddAt at h
    split at h
    · rename_i hw
      cases e : oddAt ds with
      | none => rw [e] at h; cases h
      | some k =>
        rw [e] at h
        cases h
        obtain ⟨⟨d2, h1, h2⟩, h3⟩ := oddAt_spec e
        refine ⟨⟨d2, by simpa using h1, h2⟩, fun i d3 hi h4 => ?_⟩
        cases i with
        | zero =>
          simp at h4
          rw [← h4]
          exact hw
        | succ i =>
          have hi' : i + 1 < k + 1 := hi
          exact h3 i d3 (by omega) (by simpa using h4)
    · rename_i hw
      cases h
      exact ⟨⟨d, rfl, by simpa using hw⟩, fun i d3 hi _ => by omega⟩
section
variable {P : Program} {w : World} {K : PySem.W.Frag} {mg : Str → Option Value} {base : Heap} {f : Addr} {fd : FuncData} {k : Nat} {CP CV : Addr}
def RWh : List PyData → PyData → Prop := fun ds r => ∃ d, ds = [d] ∧ plainD d = true ∧ r = .bool (wholeD d)
theorem f_is_wholeX (Fn : Fun K "is_whole" "is_whole" sis_whole f fd) (B : Bt mg) : FnG P w K mg base 1 f fd ["thing"] (spD RWh) := by
  refine funD Fn cis_whole (fun ds r ⟨n, h, _⟩ => by rw [h]; rfl) ?_
  rintro ds r ⟨d, rfl, hp, rfl⟩
  exact ⟨_, ss_one (sd_ret (ED.is (ed_and2 (k := kI d) (l := !kB d) (ed_isi (T := "int") (ed_var 0 rfl) B.isinstance B.int vI (kit_int hp)) fun _ => ed_not (k := kB d) (ed_isi (T := "bool") (ed_var 0 rfl) B.isinstance B.bool vB (kit_bool hp))) (congrArg PyData.bool (whole_is d))))⟩
def fromB (d : PyData) (m : Int) : Bool := match d with
  | .int n => decide (0 ≤ n) && decide (n ≤ m)
  | _ => false
def RFx : List PyData → PyData → Prop := fun ds r => ∃ d m, ds = [d, .int m] ∧ plainD d = true ∧ r = .bool (fromB d m)
theorem f_is_from_0_toX (Fn : Fun K "is_from_0_to" "is_from_0_to" sis_from_0_to f fd) (B : Bt mg) (D1 : Df P w K mg base "is_whole" 1 (spD RWh)) : FnG P w K mg base 2 f fd ["thing", "limit"] (spD RFx) := by
  refine funD Fn cis_from_0_to (fun ds r ⟨n, m, h, _⟩ => by rw [h]; rfl) ?_
  rintro ds r ⟨d, m, rfl, hp, rfl⟩
  refine ⟨_, ss_one (sd_ret (ED.is (ed_and2 (k := wholeD d) (l := fromB d m) (ed_call D1 (ad_one (ed_var 0 rfl)) ⟨d, rfl, hp, rfl⟩) fun hw => ?_) ?_))⟩
  · cases d with
    | int n => exact CD.ed (cd_leLe ed_int (ed_var 0 rfl) (ed_var 1 rfl))
    | _ => cases hw
  · cases d <;> rfl
def RCkL : List PyData → PyData → Prop := fun ds r => ∃ vs : List Int, ∃ p : Nat, ds = [.int (p : Int), intsD vs] ∧ vs.length ≤ 60 ∧ p < vs.length ∧ r = .none
theorem f_check_place (Fn : Fun K "check_place" "check_place" scheck_place f fd) (B : Bt mg) (D1 : Df P w K mg base "is_from_0_to" 2 (spD RFx)) : FnG P w K mg base 3 f fd ["place", "values"] (spD RCkL) := by
  refine funN Fn ccheck_place (fun ds r ⟨_, _, h, _, _, hr⟩ => ⟨by rw [h]; rfl, hr⟩) ?_
  rintro ds r ⟨vs, p, rfl, hl, hp, rfl⟩
  refine ⟨_, ss_one (sd_if (k := false) (bd_not (k := true) (bd_val (ED.is (ed_call D1.mono (ad_cons (ed_var 0 rfl) (ad_one (ed_sub (ed_len (ds := vs.map .int) (ED.ld (ed_var 1 rfl)) B.len) ed_int))) ⟨_, _, rfl, rfl, rfl⟩) ?_))) (fun z => by cases z) fun _ => ss_nil)⟩
  show PyData.bool (decide (0 ≤ (p : Int)) && decide ((p : Int) ≤ _)) = .bool true
  rw [decide_eq_true (by omega), decide_eq_true (by rw [List.length_map]; omega)]
  rfl
def RCkLe (CP : Addr) : List PyData → Er → Prop := fun ds er => ∃ d, ∃ vs : List Int, ds = [d, intsD vs] ∧ plainD d = true ∧ vs.length ≤ 60 ∧ fromB d ((vs.length : Int) - 1) = false ∧ er = ⟨CP, "place", d⟩
theorem e_check_place (Fn : Fun K "check_place" "check_place" scheck_place f fd) (B : Bt mg) (D1 : Df P w K mg base "is_from_0_to" 2 (spD RFx)) (E : ErI P w K mg base 1 "InvalidPlace" CP "place") : FnE P w K mg base 3 f fd ["place", "values"] (spE (RCkLe CP)) := by
  refine funE Fn ccheck_place (fun ds r ⟨_, _, h, _⟩ => by rw [h]; rfl) ?_
  rintro ds er ⟨d, vs, rfl, hp, hl, hf, rfl⟩
  refine ⟨_, xs_hd (x_if (k := true) (bd_not (k := false) (bd_val (ED.is (ed_call D1.mono (ad_cons (ed_var 0 rfl) (ad_one (ed_sub (ed_len (ds := vs.map .int) (ED.ld (ed_var 1 rfl)) B.len) ed_int))) ⟨_, _, rfl, hp, rfl⟩) ?_))) (fun _ => xs_hd (x_raise E (by exact Nat.le_of_ble_eq_true rfl) (ed_var 0 rfl))) fun z => by cases z)⟩
  rw [List.length_map, hf]
def RCkVe (CV : Addr) : List PyData → Er → Prop := fun ds er => ∃ d i, ds = [d] ∧ plainD d = true ∧ (∀ xs, d = .list xs → ∀ x ∈ xs, plainD x = true) ∧ badV d = some i ∧ er = ⟨CV, "index", i⟩
theorem e_check_values (Fn : Fun K "check_values" "check_values" scheck_values f fd) (B : Bt mg) (C : Cs mg) (D1 : Df P w K mg base "is_whole" 1 (spD RWh)) (E : ErI P w K mg base 1 "InvalidValues" CV "index") : FnE P w K mg base 5 f fd ["values"] (spE (RCkVe CV)) := by
  refine funE Fn ccheck_values (fun ds r ⟨_, _, h, _⟩ => by rw [h]; rfl) ?_
  rintro ds er ⟨d, i, rfl, hp, hxs, hb, rfl⟩
  obtain ⟨t, ht⟩ := C.values
  cases hl : listB d with
  | false =>
    have e : i = .none := by
      cases d <;> first | (cases hl; done) | exact (Option.some.inj hb).symm
    rw [e]
    refine ⟨_, xs_hd (x_if (k := true) (WD.bd (wd_orT (bd_not (k := false) (bd_val (ed_isi (T := "list") (ed_var 0 rfl) B.isinstance B.list vL (by rw [kit_list hp, hl])))))) (fun _ => xs_hd (x_raise E (by exact Nat.le_of_ble_eq_true rfl) ed_non)) fun z => by cases z)⟩
  | true =>
    obtain ⟨xs, rfl⟩ : ∃ xs, d = .list xs := by
      cases d with
      | list xs => exact ⟨xs, rfl⟩
      | _ => cases hl
    by_cases h60 : 60 < xs.length
    · have e : i = .none := by
        have hb : (if 60 < xs.length then some PyData.none else (oddAt xs).map fun (i : Nat) => PyData.int (i : Int)) = some i := hb
        rw [if_pos h60] at hb
        exact (Option.some.inj hb).symm
      rw [e]
      refine ⟨_, xs_hd (x_if (k := true) (bd_or2 (k := false) (l := true) (bd_not (k := true) (bd_val (ed_isi (T := "list") (ed_var 0 rfl) B.isinstance B.list vL kLL))) fun _ => CD.bd (CD.is (cd_gt (ed_len (ds := xs) (ED.ld (ed_var 0 rfl)) B.len) (ed_globI ht)) ?_)) (fun _ => xs_hd (x_raise E (by exact Nat.le_of_ble_eq_true rfl) ed_non)) fun z => by cases z)⟩
      exact decide_eq_true (by omega)
    · obtain ⟨m, hm, rfl⟩ : ∃ m, oddAt xs = some m ∧ i = .int (m : Int) := by
        have hb : (if 60 < xs.length then some PyData.none else (oddAt xs).map fun (i : Nat) => PyData.int (i : Int)) = some i := hb
        rw [if_neg h60] at hb
        cases e : oddAt xs with
        | none => rw [e] at hb; cases hb
        | some m =>
          rw [e] at hb
          exact ⟨m, rfl, (Option.some.inj hb).symm⟩
      obtain ⟨⟨dm, h1, h2⟩, h3⟩ := oddAt_spec hm
      let L0 : List Sl := startL ncheck_values [.list xs]
      have en : ∀ (i : Nat) d, (enumD xs)[i]? = some d → ∃ x, xs[i]? = some x ∧ d = PyData.tuple [.int (i : Int), x] := fun i d h => by
        unfold enumD at h
        rw [List.getElem?_mapIdx] at h
        cases e : xs[i]? with
        | none => rw [e] at h; cases h
        | some x =>
          rw [e] at h
          exact ⟨x, rfl, (Option.some.inj h).symm⟩
      have em : (enumD xs)[m]? = some (PyData.tuple [.int (m : Int), dm]) := by
        unfold enumD
        rw [List.getElem?_mapIdx, h1]
        rfl
      refine ⟨_, xs_tl (z := []) (L1 := L0) (sd_if (k := false) (bd_or2 (k := false) (l := false) (bd_not (k := true) (bd_val (ed_isi (T := "list") (ed_var 0 rfl) B.isinstance B.list vL kLL))) fun _ => CD.bd (CD.is (cd_gt (ed_len (ds := xs) (ED.ld (ed_var 0 rfl)) B.len) (ed_globI ht)) ?_)) (fun z => by cases z) fun _ => ss_nil)
        (xs_hd (x_for (L := L0) (fun _ => L0) m _ (it_enum (ed_var 0 rfl) B.enumerate) (tg_tup2 1 2) (fun _ => rfl) em (fun i d hi hd => ?_) ⟨⟨_, _, rfl⟩, xs_hd (x_if (k := true) (bd_not (k := false) (bd_val (ED.is (ed_call D1.mono (ad_one (ed_var 2 rfl)) ⟨dm, rfl, ?_, rfl⟩) ?_))) (fun _ => xs_hd (x_raise E (by exact Nat.le_of_ble_eq_true rfl) (ed_var 1 rfl))) fun z => by cases z)⟩))⟩
      · exact decide_eq_false (by omega)
      · obtain ⟨x, hx, rfl⟩ := en i d hd
        refine ⟨⟨_, _, rfl⟩, ss_nxwk (.keep (.drop (.drop .nil))) (ss_one (sd_if (k := false) (bd_not (k := true) (bd_val (ED.is (ed_call D1.mono (ad_one (ed_var 2 rfl)) ⟨x, rfl, hxs _ rfl x (List.mem_of_getElem? hx), rfl⟩) ?_))) (fun z => by cases z) fun _ => ss_nil))⟩
        rw [h3 i x hi hx]
      · exact hxs _ rfl dm (List.mem_of_getElem? h1)
      · rw [h2]
/-! ### word_of -/
theorem f_word_of (Fn : Fun K "word_of" "word_of" sword_of f fd) (D1 : Df P w K mg base "check_values" 5 (spD RCkV)) (D2 : Df P w K mg base "check_place" 3 (spD RCkL)) (D3 : Df P w K mg base "_word" 1 (spD RWo)) : FnG P w K mg base 6 f fd ["values", "place"] (spD RWo) := by
  refine funD Fn cword_of (fun ds r ⟨_, _, h, _⟩ => by rw [h]; rfl) ?_
  rintro ds r ⟨vs, p, rfl, hl, hp, rfl⟩
  exact ⟨_, ss_cons (sd_expr (ed_call (r := .none) D1.mono (ad_one (ed_var 0 rfl)) ⟨vs, rfl, hl, rfl⟩))
    (ss_cons (sd_expr (ed_call (r := .none) D2.mono (ad_cons (ed_var 1 rfl) (ad_one (ed_var 0 rfl))) ⟨vs, p, rfl, hl, hp, rfl⟩))
    (ss_one (sd_ret (ed_call D3.mono (ad_cons (ed_var 0 rfl) (ad_one (ed_var 1 rfl))) ⟨vs, p, rfl, hl, hp, rfl⟩))))⟩
def RWe (CP CV : Addr) : List PyData → Er → Prop := fun ds er => ∃ d s, ds = [d, s] ∧ (RCkVe CV [d] er ∨ ∃ vs : List Int, d = intsD vs ∧ RCkLe CP [s, d] er)
theorem e_word_of (Fn : Fun K "word_of" "word_of" sword_of f fd) (D1 : Df P w K mg base "check_values" 5 (spD RCkV)) (E1 : De P w K mg base "check_values" 5 (spE (RCkVe CV))) (E2 : De P w K mg base "check_place" 3 (spE (RCkLe CP))) : FnE P w K mg base 6 f fd ["values", "place"] (spE (RWe CP CV)) := by
  refine funE Fn cword_of (fun ds r ⟨_, _, h, _⟩ => by rw [h]; rfl) ?_
  rintro ds er ⟨d, s, rfl, h | ⟨vs, rfl, h⟩⟩
  · exact ⟨_, xs_hd (x_expr (xe_call E1.mono (ad_one (ed_var 0 rfl)) h))⟩
  · have hl : vs.length ≤ 60 := by
      obtain ⟨d, ws, e, _, h2, _⟩ := h
      rw [List.cons.injEq, List.cons.injEq] at e
      have := congrArg (fun d => match d with | PyData.list xs => xs.length | _ => 0) e.2.1
      simp only [intsD, List.length_map] at this
      omega
    exact ⟨_, xs_tl (z := []) (sd_expr (ed_call (r := .none) D1.mono (ad_one (ed_var 0 rfl)) ⟨vs, rfl, hl, rfl⟩))
      (xs_hd (x_expr (xe_call E2.mono (ad_cons (ed_var 1 rfl) (ad_one (ed_var 0 rfl))) h)))⟩
end
end K2
namespace K2
open PySem PyProof.Rows L2 DL
/-! ### what the law asks, told of lists -/
def pairsOf (vs : List Int) : List (Int × Nat) := (List.range vs.length).map fun i => (vs.getD i 0, i)
theorem pairs_len (vs : List Int) : (pairsOf vs).length = vs.length := by simp [pairsOf]
theorem pairs_get {vs : List Int} {i : Nat} {z : Int × Nat} (h : (pairsOf vs)[i]? = some z) : z = (vs.getD i 0, i) ∧ i < vs.length := by
  unfold pairsOf at h
  rw [List.getElem?_map] at h
  by_cases hi : i < vs.length
  · rw [List.getElem?_range hi] at h
    exact ⟨(Option.some.inj h).symm, hi⟩
  · rw [List.getElem?_eq_none (by simpa using hi)] at h
    cases h
theorem range_get (vs : List Int) : (List.range vs.length).map (fun i => vs.getD i 0) = vs := by
  apply List.ext_getElem?
  intro i
  rw [List.getElem?_map]
  by_cases h : i < vs.length
  · rw [List.getElem?_range h, List.getElem?_eq_getElem h]
    simp [List.getD, List.getElem?_eq_getElem h]
  · rw [List.getElem?_eq_none (by simpa using h), List.getElem?_eq_none (by omega)]
    rfl
theorem pairs_fst (vs : List Int) : (pairsOf vs).map (·.1) = vs := by
  unfold pairsOf
  rw [List.map_map]
  exact range_get vs
theorem split_at {vs : List Int} {p : Nat} (hp : p < vs.length) : pairsOf vs = (pairsOf vs).take p ++ (vs.getD p 0, p) :: (pairsOf vs).drop (p + 1) := by
  have hl : p < (pairsOf vs).length := by rw [pairs_len]; exact hp
  have e : (pairsOf vs)[p] = (vs.getD p 0, p) := (pairs_get (List.getElem?_eq_getElem hl)).1
  rw [← e, ← List.drop_eq_getElem_cons hl, List.take_append_drop]
theorem split_ne {vs : List Int} {p : Nat} : ∀ z ∈ (pairsOf vs).take p ++ (pairsOf vs).drop (p + 1), z.2 ≠ p := by
  intro z hz
  rcases List.mem_append.mp hz with h | h
  · obtain ⟨i, hi⟩ := List.getElem?_of_mem h
    rw [List.getElem?_take] at hi
    split at hi
    · rw [(pairs_get hi).1]
      show i ≠ p
      omega
    · cases hi
  · obtain ⟨i, hi⟩ := List.getElem?_of_mem h
    rw [List.getElem?_drop] at hi
    rw [(pairs_get hi).1]
    show p + 1 + i ≠ p
    omega
theorem goes_pairs (pl : Plan) {vs : List Int} {p : Nat} (hp : p < vs.length) (hl : vs.length ≤ 60) : KM.goesF pl (fst0 pl) (wordN vs p) = true ↔ (vs.getD p 0, p) ∈ KM.mk Prod.fst pl 64 (fst0 pl) (pairsOf vs) := by
  have all : ∀ l : List (Int × Nat), l.filter (KM.inB none none) = l := fun l => List.filter_eq_self.mpr fun z _ => rfl
  have h := KM.goes_mk pl (vs.getD p 0, p) ((pairsOf vs).take p) ((pairsOf vs).drop (p + 1)) none none 64 (fst0 pl) split_ne rfl (by
    rw [all, all, ← split_at hp, pairs_len]
    omega)
  rw [all, all, ← split_at hp] at h
  rw [h]
  have e : ((pairsOf vs).take p).map (·.1) = vs.take p := by rw [List.map_take, pairs_fst]
  rw [e]
  rfl
end K2
namespace K2
open PySem PyProof.Rows L2 DL
def encW (x : Nat × List Bool) : PyData := .tuple [.int (x.1 : Int), .str (wS x.2)]
theorem two_filters (a : Int) (ps : List (Int × Nat)) : (ps.filter fun x => decide (x.1 < a)).length + (ps.filter fun x => decide (a ≤ x.1)).length = ps.length := by
  have e : (fun x : Int × Nat => decide (a ≤ x.1)) = fun x => !decide (x.1 < a) := by
    funext x
    by_cases h : x.1 < a
    · simp [h]
    · simp [h]
      omega
  rw [e, ← List.length_append]
  exact (List.filter_append_perm _ _).length_eq
theorem mk_len (pl : Plan) : ∀ (n : Nat) (e : Option Nat) (ps : List (Int × Nat)), (KM.mk Prod.fst pl n e ps).length ≤ ps.length
  | 0, e, ps => by simp [KM.mk]
  | n + 1, none, ps => by simp
  | n + 1, some q, [] => by simp
  | n + 1, some q, p :: ps => by
    rw [KM.mk_cons, List.length_cons, List.length_append, List.length_cons]
    have h1 := mk_len pl n (KM.atP pl q).1 (ps.filter fun x => decide (x.1 < p.1))
    have h2 := mk_len pl n (KM.atP pl q).2 (ps.filter fun x => decide (p.1 ≤ x.1))
    have h3 := two_filters p.1 ps
    omega
section
variable {P : Program} {w : World} {K : PySem.W.Frag} {mg : Str → Option Value} {base : Heap} {f : Addr} {fd : FuncData} {k : Nat}
def RWd (n : Nat) : List PyData → PyData → Prop := fun ds r => ∃ ps s, ds = [pairsD ps, .str (wS s)] ∧ (∀ p ∈ ps, p.1.natAbs < 10 ^ 29 ∧ p.2 < 100) ∧ ps.length ≤ n ∧ ps.length ≤ 1000 ∧ s.length + n ≤ 1000 ∧ r = .list ((KM.wds n ps s).map encW)
theorem f_law_words (n : Nat) (Fn : Fun K "_law_words" "_law_words" s_law_words f fd) (B : Bt mg) (hD : ∀ m, n = m + 1 → Df P w K mg base "_law_words" n (spD (RWd m))) : FnG P w K mg base (n + 1) f fd ["_law_row", "_law_steps"] (spD (RWd n)) := by
  refine funD Fn c_law_words (fun ds r ⟨_, _, h, _⟩ => by rw [h]; rfl) ?_
  rintro ds r ⟨ps, s, rfl, op, hn, h60, hs, rfl⟩
  cases ps with
  | nil =>
    refine ⟨_, ss_end (sd_if (k := true) (CD.bd (CD.is (cd_eqD (d2 := .list []) (ed_var 0 rfl) (ED.hd (FD.ed (fd_lst ad_nil))) ((ds_pairs op h60).shaped (by decide)) rfl) rfl)) (fun _ => ss_one (sd_ret (ED.is (FD.ed (fd_lst ad_nil)) ?_))) fun z => by cases z)⟩
    cases n <;> rfl
  | cons p ps =>
    obtain ⟨m, rfl⟩ : ∃ m, n = m + 1 := ⟨n - 1, by simp only [List.length_cons] at hn; omega⟩
    have D := hD m rfl
    have ops : ∀ x ∈ ps, x.1.natAbs < 10 ^ 29 ∧ x.2 < 100 := fun x hx => op x (List.mem_cons_of_mem _ hx)
    have hl : ps.length ≤ 999 := by simp only [List.length_cons] at h60; omega
    have hln : ps.length ≤ m := by simp only [List.length_cons] at hn; omega
    have low : ∀ t, (ps.filter t).length ≤ m ∧ (ps.filter t).length ≤ 1000 := fun t => by
      have := List.length_filter_le t ps
      omega
    obtain ⟨lo, hlo⟩ : ∃ lo, lo = ps.filter fun x => decide (x.1 < p.1) := ⟨_, rfl⟩
    obtain ⟨hi, hhi⟩ : ∃ hi, hi = ps.filter fun x => decide (p.1 ≤ x.1) := ⟨_, rfl⟩
    have lolen : lo.length ≤ m ∧ lo.length ≤ 1000 := by rw [hlo]; exact low _
    have hilen : hi.length ≤ m ∧ hi.length ≤ 1000 := by rw [hhi]; exact low _
    have both : lo.length + hi.length = ps.length := by rw [hlo, hhi]; exact two_filters p.1 ps
    have eT := wS_l s
    have eF := wS_r s
    apply Exists.intro
    refine ss_cons (sd_if (k := false) (CD.bd (CD.is (cd_eqD (d2 := .list []) (ed_var 0 rfl) (ED.hd (FD.ed (fd_lst ad_nil))) ((ds_pairs op h60).shaped (by decide)) rfl) eqv_nil)) (fun z => by cases z) fun _ => ss_nil)
      (ss_cons (sd_set 2 (d := encQ p) (ed_ixL (ds := (p :: ps).map encQ) (n := 0) (ed_var 0 rfl) ed_int (show atI ((p :: ps).map encQ) ((0 : Nat) : Int) = some (encQ p) from atI_nat rfl)))
      (ss_cons (SD.to (CompD.set 4 (cd_filter (fun d => d) (onPair fun x => decide (x < p.1)) (own := [("_law_one", 3)]) (it_list (FD.ed (FD.is (ds2 := ps.map encQ) (fd_slice (ds := (p :: ps).map encQ) (ed_var 0 rfl) (od_some ed_int) od_none) cutD_tail))) (blkOk_by rfl) (tg_name 3) (by decide) rfl ⟨rfl, trivial⟩ (fun d hd => ?t1) (by rw [List.length_map]; omega))) (L2' := [.va (pairsD (p :: ps)), .va (.str (wS s)), .va (encQ p), .no, .ow (lo.map encQ), .no]) ?q1)
      (ss_freeze 4 (ds := lo.map encQ) rfl
      (ss_cons (SD.to (CompD.set 5 (cd_filter (fun d => d) (onPair fun x => decide (p.1 ≤ x)) (own := [("_law_one", 3)]) (it_list (FD.ed (FD.is (ds2 := ps.map encQ) (fd_slice (ds := (p :: ps).map encQ) (ed_var 0 rfl) (od_some ed_int) od_none) cutD_tail))) (blkOk_by rfl) (tg_name 3) (by decide) rfl ⟨rfl, trivial⟩ (fun d hd => ?t2) (by rw [List.length_map]; omega))) (L2' := [.va (pairsD (p :: ps)), .va (.str (wS s)), .va (encQ p), .no, .va (.list (lo.map encQ)), .ow (hi.map encQ)]) ?q2)
      (ss_freeze 5 (ds := hi.map encQ) rfl
      (ss_one (sd_ret (FD.ed (FD.is (fd_cat (FD.ed (fd_cat (FD.ed (fd_lst (ad_one (ed_tup (ad_cons (ed_ixT (n := 1) (ed_var 2 rfl) ed_int rfl) (ad_one (ed_var 1 rfl)))))))
        (ed_call (r := .list ((KM.wds m lo (s ++ [true])).map encW)) D (ad_cons (ed_var 4 rfl) (ad_one (ED.is (ed_addS (ed_var 1 rfl) ed_str ?la) (congrArg PyData.str eT)))) ?c1) ?l1)) (ed_call (r := .list ((KM.wds m hi (s ++ [false])).map encW)) D (ad_cons (ed_var 5 rfl) (ad_one (ED.is (ed_addS (ed_var 1 rfl) ed_str ?lb) (congrArg PyData.str eF)))) ?c2) ?l2) ?fin)))))))))
    case t1 =>
      obtain ⟨x, hx, rfl⟩ := List.mem_map.mp hd
      exact ⟨trivial, CD.bd (cd_lt (ed_ixT (n := 0) (ed_var 3 rfl) ed_int rfl) (ed_ixT (n := 0) (ed_var 2 rfl) ed_int rfl)), fun _ => ed_var 3 rfl⟩
    case t2 =>
      obtain ⟨x, hx, rfl⟩ := List.mem_map.mp hd
      exact ⟨trivial, CD.bd (cd_ge (ed_ixT (n := 0) (ed_var 3 rfl) ed_int rfl) (ed_ixT (n := 0) (ed_var 2 rfl) ed_int rfl)), fun _ => ed_var 3 rfl⟩
    case q1 =>
      rw [filter_pairs, hlo]
      rfl
    case q2 =>
      rw [filter_pairs, hhi]
      rfl
    case la =>
      rw [wS_len]
      show _ + 1 ≤ _
      omega
    case lb =>
      rw [wS_len]
      show _ + 1 ≤ _
      omega
    case c1 => exact ⟨lo, s ++ [true], rfl, fun x hx => ops x (by rw [hlo] at hx; exact (List.mem_filter.mp hx).1), lolen.1, lolen.2, by rw [List.length_append]; simp; omega, rfl⟩
    case c2 => exact ⟨hi, s ++ [false], rfl, fun x hx => ops x (by rw [hhi] at hx; exact (List.mem_filter.mp hx).1), hilen.1, hilen.2, by rw [List.length_append]; simp; omega, rfl⟩
    case l1 =>
      rw [List.length_map, KM.wds_len _ _ _ lolen.1]
      show 1 + _ ≤ _
      omega
    case l2 =>
      rw [List.length_append, List.length_map, List.length_map, KM.wds_len _ _ _ lolen.1, KM.wds_len _ _ _ hilen.1]
      show 1 + _ + _ ≤ _
      omega
    case fin =>
      rw [KM.wds]
      simp only [List.map_append, List.map_cons]
      rw [hlo, hhi, List.append_assoc]
      rfl
def RMk (n : Nat) : List PyData → PyData → Prop := fun ds r => ∃ pl e ps, ds = [encP pl, encE e, pairsD ps] ∧ okP pl ∧ okE pl e ∧ (∀ p ∈ ps, p.1.natAbs < 10 ^ 29 ∧ p.2 < 100) ∧ ps.length ≤ n ∧ ps.length ≤ 1000 ∧ r = natsD ((KM.mk Prod.fst pl n e ps).map (·.2))
theorem f_law_marked (n : Nat) (Fn : Fun K "_law_marked" "_law_marked" s_law_marked f fd) (B : Bt mg) (hD : ∀ m, n = m + 1 → Df P w K mg base "_law_marked" n (spD (RMk m))) : FnG P w K mg base (n + 1) f fd ["_law_a_plan", "_law_a_place", "_law_row"] (spD (RMk n)) := by
  refine funD Fn c_law_marked (fun ds r ⟨_, _, _, h, _⟩ => by rw [h]; rfl) ?_
  rintro ds r ⟨pl, e, ps, rfl, ok, oe, op, hn, h60, rfl⟩
  cases e with
  | none =>
    refine ⟨_, ss_end (sd_if (k := true) (WD.bd (wd_orT (CD.bd (CD.is (cd_isN (ed_var 1 rfl)) rfl)))) (fun _ => ss_one (sd_ret (ED.is (FD.ed (fd_lst ad_nil)) ?_))) fun z => by cases z)⟩
    rw [KM.mk_none]
    rfl
  | some q =>
    cases ps with
    | nil =>
      refine ⟨_, ss_end (sd_if (k := true) (bd_or2 (k := false) (l := true) (CD.bd (CD.is (cd_isN (ed_var 1 rfl)) rfl)) fun _ => CD.bd (CD.is (cd_eqD (d2 := .list []) (ed_var 2 rfl) (ED.hd (FD.ed (fd_lst ad_nil))) ((ds_pairs op h60).shaped (by decide)) rfl) rfl)) (fun _ => ss_one (sd_ret (ED.is (FD.ed (fd_lst ad_nil)) ?_))) fun z => by cases z)⟩
      rw [KM.mk_nil]
      rfl
    | cons p ps =>
      obtain ⟨m, rfl⟩ : ∃ m, n = m + 1 := ⟨n - 1, by simp only [List.length_cons] at hn; omega⟩
      have D := hD m rfl
      have hq : q < pl.length := oe q rfl
      obtain ⟨o1, o2⟩ := okP_at ok hq
      have ops : ∀ x ∈ ps, x.1.natAbs < 10 ^ 29 ∧ x.2 < 100 := fun x hx => op x (List.mem_cons_of_mem _ hx)
      have hl : ps.length ≤ 999 := by simp only [List.length_cons] at h60; omega
      have hln : ps.length ≤ m := by simp only [List.length_cons] at hn; omega
      have low : ∀ t, (ps.filter t).length ≤ m ∧ (ps.filter t).length ≤ 1000 := fun t => by
        have := List.length_filter_le t ps
        omega
      obtain ⟨lo, hlo⟩ : ∃ lo, lo = ps.filter fun x => decide (x.1 < p.1) := ⟨_, rfl⟩
      obtain ⟨hi, hhi⟩ : ∃ hi, hi = ps.filter fun x => decide (p.1 ≤ x.1) := ⟨_, rfl⟩
      have lolen : lo.length ≤ m ∧ lo.length ≤ 1000 := by rw [hlo]; exact low _
      have hilen : hi.length ≤ m ∧ hi.length ≤ 1000 := by rw [hhi]; exact low _
      have both : lo.length + hi.length = ps.length := by rw [hlo, hhi]; exact two_filters p.1 ps
      have ml := mk_len pl m (atP pl q).1 lo
      have mh := mk_len pl m (atP pl q).2 hi
      apply Exists.intro
      refine ss_cons (sd_if (k := false) (bd_or2 (k := false) (l := false) (CD.bd (CD.is (cd_isN (ed_var 1 rfl)) rfl)) fun _ => CD.bd (CD.is (cd_eqD (d2 := .list []) (ed_var 2 rfl) (ED.hd (FD.ed (fd_lst ad_nil))) ((ds_pairs op h60).shaped (by decide)) rfl) eqv_nil)) (fun z => by cases z) fun _ => ss_nil)
        (ss_cons (sd_set 3 (d := encQ p) (ed_ixL (ds := (p :: ps).map encQ) (n := 0) (ed_var 2 rfl) ed_int (show atI ((p :: ps).map encQ) ((0 : Nat) : Int) = some (encQ p) from atI_nat rfl)))
        (ss_cons (SD.to (CompD.set 5 (cd_filter (fun d => d) (onPair fun x => decide (x < p.1)) (own := [("_law_one", 4)]) (it_list (FD.ed (FD.is (ds2 := ps.map encQ) (fd_slice (ds := (p :: ps).map encQ) (ed_var 2 rfl) (od_some ed_int) od_none) cutD_tail))) (blkOk_by rfl) (tg_name 4) (by decide) rfl ⟨rfl, trivial⟩ (fun d hd => ?t1) (by rw [List.length_map]; omega))) (L2' := [.va (encP pl), .va (encE (some q)), .va (pairsD (p :: ps)), .va (encQ p), .no, .ow (lo.map encQ), .no]) ?q1)
        (ss_freeze 5 (ds := lo.map encQ) rfl
        (ss_cons (SD.to (CompD.set 6 (cd_filter (fun d => d) (onPair fun x => decide (p.1 ≤ x)) (own := [("_law_one", 4)]) (it_list (FD.ed (FD.is (ds2 := ps.map encQ) (fd_slice (ds := (p :: ps).map encQ) (ed_var 2 rfl) (od_some ed_int) od_none) cutD_tail))) (blkOk_by rfl) (tg_name 4) (by decide) rfl ⟨rfl, trivial⟩ (fun d hd => ?t2) (by rw [List.length_map]; omega))) (L2' := [.va (encP pl), .va (encE (some q)), .va (pairsD (p :: ps)), .va (encQ p), .no, .va (.list (lo.map encQ)), .ow (hi.map encQ)]) ?q2)
        (ss_freeze 6 (ds := hi.map encQ) rfl
        (ss_one (sd_ret (FD.ed (FD.is (fd_cat (FD.ed (fd_cat (FD.ed (fd_lst (ad_one (ed_ixT (n := 1) (ed_var 3 rfl) ed_int rfl)))) (ed_call (r := natsD ((KM.mk Prod.fst pl m (atP pl q).1 lo).map (·.2))) D (ad_cons (ed_var 0 rfl) (ad_cons (ed_ixT (ed_ixL (ed_var 0 rfl) (ed_var 1 rfl) (atI_plan hq)) (n := 0) ed_int rfl) (ad_one (ed_var 5 rfl)))) ?c1)
          ?l1)) (ed_call (r := natsD ((KM.mk Prod.fst pl m (atP pl q).2 hi).map (·.2))) D (ad_cons (ed_var 0 rfl) (ad_cons (ed_ixT (ed_ixL (ed_var 0 rfl) (ed_var 1 rfl) (atI_plan hq)) (n := 1) ed_int rfl) (ad_one (ed_var 6 rfl)))) ?c2) ?l2) ?fin)))))))))
      case t1 =>
        obtain ⟨x, hx, rfl⟩ := List.mem_map.mp hd
        exact ⟨trivial, CD.bd (cd_lt (ed_ixT (n := 0) (ed_var 4 rfl) ed_int rfl) (ed_ixT (n := 0) (ed_var 3 rfl) ed_int rfl)), fun _ => ed_var 4 rfl⟩
      case t2 =>
        obtain ⟨x, hx, rfl⟩ := List.mem_map.mp hd
        exact ⟨trivial, CD.bd (cd_ge (ed_ixT (n := 0) (ed_var 4 rfl) ed_int rfl) (ed_ixT (n := 0) (ed_var 3 rfl) ed_int rfl)), fun _ => ed_var 4 rfl⟩
      case q1 =>
        rw [filter_pairs, hlo]
        rfl
      case q2 =>
        rw [filter_pairs, hhi]
        rfl
      case c1 => exact ⟨pl, _, lo, rfl, ok, o1, fun x hx => ops x (by rw [hlo] at hx; exact (List.mem_filter.mp hx).1), lolen.1, lolen.2, rfl⟩
      case c2 => exact ⟨pl, _, hi, rfl, ok, o2, fun x hx => ops x (by rw [hhi] at hx; exact (List.mem_filter.mp hx).1), hilen.1, hilen.2, rfl⟩
      case l1 =>
        rw [natsD_len, List.length_map]
        show 1 + _ ≤ _
        omega
      case l2 =>
        rw [List.length_append, natsD_len, natsD_len, List.length_map, List.length_map]
        show 1 + _ + _ ≤ _
        omega
      case fin =>
        rw [KM.mk_cons]
        simp only [List.map_append, List.map_cons]
        rw [hlo, hhi]
        rfl
end
end K2
namespace K2
open PySem PyProof.Rows L2 DL
/-! ### odd lists -/
def oddA (vs : List Int) : List PyData := [.none, .tuple (vs.map .int), .dict [], .str "", .int 5, .list (List.replicate 61 (.int 0)), .list (List.replicate 61 .none)]
def oddB : List PyData := [.none, .bool true, .bool false, .str "1", .list [.int 1], .tuple [.int 2], .dict []]
def pairB (vs : List Int) (t : PyData) : List PyData := [.tuple [.list ((vs.take 50).map .int ++ [t, .none]), .int ((vs.take 50).length : Int)], .tuple [.list ((vs.take 59).map .int ++ [t]), .int ((vs.take 59).length : Int)]]
def oddN (vs : List Int) : List PyData := (oddA vs).map (fun d => PyData.tuple [d, .none]) ++ oddB.flatMap (pairB vs) ++ [.tuple [.list (List.replicate 59 (.int 0) ++ [.none]), .int 59]]
theorem cutD_upto {ds : List PyData} (p : Nat) : DL.cutD ds none (some (p : Int)) = ds.take p := by
  have e1 : HT.sIx ds.length 0 none = 0 := rfl
  have e2 : HT.sIx ds.length ds.length (some (p : Int)) = min p ds.length := HT.sIx_nat _ _ _
  unfold DL.cutD
  rw [e1, e2]
  simp [List.take_take, List.take_eq_take_iff]
theorem rep_none (n : Nat) (d : PyData) : (List.replicate ((n : Int)).toNat [d]).flatten = List.replicate n d := by
  rw [Int.toNat_natCast]
  induction n with
  | zero => rfl
  | succ n ih => rw [List.replicate_succ, List.flatten_cons, ih, List.replicate_succ]; rfl
section
variable {P : Program} {w : World} {K : PySem.W.Frag} {mg : Str → Option Value} {base : Heap} {f : Addr} {fd : FuncData} {k : Nat}
def ROd : List PyData → List PyData → Prop := fun ds r => ∃ vs, ds = [intsD vs] ∧ vs.length ≤ 60 ∧ r = oddN vs
theorem f_odd_lists (Fn : Fun K "_law_odd_lists" "_law_odd_lists" s_law_odd_lists f fd) (B : Bt mg) : FnG P w K mg base 1 f fd ["_law_row"] (spL ROd) := by
  refine funL Fn c_law_odd_lists (fun ds r ⟨_, h, _⟩ => by rw [h]; rfl) ?_
  rintro ds r ⟨vs, rfl, hl, rfl⟩
  let A : List PyData := (oddA vs).map (fun d => PyData.tuple [d, .none])
  let M : Nat → List Sl := fun i => [.va (intsD vs), .no, .ow (A ++ (oddB.take i).flatMap (pairB vs))]
  have t50 : (vs.take 50).length ≤ 60 := by rw [List.length_take]; omega
  have t59 : (vs.take 59).length ≤ 60 := by rw [List.length_take]; omega
  have lb : ∀ i, i ≤ 7 → ((oddB.take i).flatMap (pairB vs)).length = 2 * i := fun i hi => by
    have : ∀ l : List PyData, (l.flatMap (pairB vs)).length = 2 * l.length := fun l => by
      induction l with
      | nil => rfl
      | cons a l ih =>
        rw [List.flatMap_cons, List.length_append, ih, List.length_cons]
        show 2 + _ = _
        omega
    rw [this, List.length_take]
    have : oddB.length = 7 := rfl
    omega
  apply Exists.intro
  refine ss_cons (CompD.set 2 (cd_map (L1 := startL n_law_odd_lists [intsD vs]) (fun d => PyData.tuple [d, .none]) (own := [("_law_thing", 1)]) (it_list (its := oddA vs) (FD.ed (fd_lst ?items (by show 7 ≤ _; decide)))) (blkOk_by rfl) (tg_name 1) (by decide) rfl ⟨rfl, trivial⟩ (fun d hd => ⟨trivial, ed_tup (ad_cons (ed_var 1 rfl) (ad_one ed_non))⟩) (by show 7 ≤ _; decide)))
    (ss_cons (L1 := M 7) (SD.to (SD.from (L := M 7) (L1 := M 0) (sd_forAll (L := M 0) M (it_list (its := oddB) (FD.ed (fd_lst ?items2))) (tg_name 1) (fun _ => rfl) fun i t hi => ⟨trivial, .inl ?turn⟩) ?l0) rfl)
    (ss_cons (sd_app 2 (ed_tup (ad_cons (FD.ed (fd_cat (FD.ed (FD.is (fd_rep (n := ((59 : Nat) : Int)) (FD.ed (fd_lst (ad_one ed_int))) ed_int (by decide) (by decide)) (rep_none 59 _))) (FD.ed (fd_lst (ad_one ed_non))) (by decide))) (ad_one ed_int))) rfl ?ll)
    (ss_one (sd_retO 2 ?o))))
  case items =>
    exact ad_cons ed_non (ad_cons (ed_tupL (ED.ld (ed_var 0 rfl)) B.tuple) (ad_cons ed_dict0 (ad_cons ed_str (ad_cons ed_int
      (ad_cons (FD.ed (FD.is (fd_rep (n := ((61 : Nat) : Int)) (FD.ed (fd_lst (ad_one ed_int))) ed_int (by decide) (by decide)) (rep_none 61 _)))
      (ad_one (FD.ed (FD.is (fd_rep (n := ((61 : Nat) : Int)) (FD.ed (fd_lst (ad_one ed_non))) ed_int (by decide) (by decide)) (rep_none 61 _)))))))))
  case items2 =>
    exact ad_cons ed_non (ad_cons ed_bl (ad_cons ed_bl (ad_cons ed_str (ad_cons (FD.ed (fd_lst (ad_one ed_int))) (ad_cons (ed_tup (ad_one ed_int)) (ad_one ed_dict0))))))
  case l0 =>
    simp only [M, List.take_zero, List.flatMap_nil, List.append_nil]
    rfl
  case ll =>
    have := lb 7 (by decide)
    rw [List.length_append, this]
    show 7 + _ < _
    omega
  case o =>
    show some (Sl.ow _) = some (Sl.ow _)
    rfl
  case turn =>
    have hi7 := (List.getElem?_eq_some_iff.mp hi).1
    have h7 : i < 7 := hi7
    have eM1 : M (i + 1) = [.va (intsD vs), .no, .ow (A ++ (oddB.take i).flatMap (pairB vs) ++ pairB vs t)] := by
      show [_, _, Sl.ow (A ++ (oddB.take (i + 1)).flatMap (pairB vs))] = _
      rw [List.take_succ, hi]
      simp [List.flatMap_append]
    rw [eM1]
    have ll : (A ++ (oddB.take i).flatMap (pairB vs)).length ≤ 50 := by
      rw [List.length_append, lb i (by omega)]
      show 7 + _ ≤ _
      omega
    refine ss_nxwk (L1 := [.va (intsD vs), .va t, .ow (A ++ (oddB.take i).flatMap (pairB vs) ++ pairB vs t)]) (.keep (.drop (.keep .nil)))
      (ss_one (sd_new 2 (fd_catO 2 rfl (FD.ed (fd_lst (ad_cons (ed_tup (ad_cons (FD.ed (fd_cat (FD.ed (FD.is (ds2 := (vs.take 50).map .int) (fd_slice (ds := vs.map .int) (ed_var 0 rfl) od_none (od_some ed_int)) ?c1)) (FD.ed (fd_lst (ad_cons (ed_var 1 rfl) (ad_one ed_non)))) ?l1)) (ad_one (ED.is (d2 := .int ((vs.take 50).length : Int)) (ed_len (ds := (vs.take 50).map .int) (FD.ld (FD.is (fd_slice (ds := vs.map .int) (ed_var 0 rfl) od_none (od_some ed_int)) ?c2)) B.len) ?e1))))
        (ad_one (ed_tup (ad_cons (FD.ed (fd_cat (FD.ed (FD.is (ds2 := (vs.take 59).map .int) (fd_slice (ds := vs.map .int) (ed_var 0 rfl) od_none (od_some ed_int)) ?c3)) (FD.ed (fd_lst (ad_one (ed_var 1 rfl)))) ?l2)) (ad_one (ED.is (d2 := .int ((vs.take 59).length : Int)) (ed_len (ds := (vs.take 59).map .int) (FD.ld (FD.is (fd_slice (ds := vs.map .int) (ed_var 0 rfl) od_none (od_some ed_int)) ?c4)) B.len) ?e2)))))))) ?l3)))
    case c1 => rw [List.map_take]; exact cutD_upto 50
    case c2 => rw [List.map_take]; exact cutD_upto 50
    case c3 => rw [List.map_take]; exact cutD_upto 59
    case c4 => rw [List.map_take]; exact cutD_upto 59
    case e1 => rw [List.length_map]
    case e2 => rw [List.length_map]
    case l1 =>
      rw [List.length_map]
      show _ + 2 ≤ _
      omega
    case l2 =>
      rw [List.length_map]
      show _ + 1 ≤ _
      omega
    case l3 =>
      show _ + 2 ≤ _
      omega
end
end K2
namespace K2
open PySem PyProof.Rows L2 DL
theorem vVE : bootBuiltins (Str.ofString "ValueError") = some (.type "ValueError") := by decide +kernel
/-- what is known of the two classes -/
structure Et (P : Program) (w : World) (K : PySem.W.Frag) (mg : Str → Option Value) (base : Heap) (CP CV : Addr) : Prop where
  ep : ErI P w K mg base 1 "InvalidPlace" CP "place"
  ev : ErI P w K mg base 1 "InvalidValues" CV "index"
  ob : ObC K
  ve : mg "ValueError" = none
  pV : PySem.W.kitOne K (.ref CP) (.type "ValueError") = some true
  vV : PySem.W.kitOne K (.ref CV) (.type "ValueError") = some true
  pp : PySem.W.kitOne K (.ref CP) (.ref CP) = some true
  vp : PySem.W.kitOne K (.ref CV) (.ref CP) = some false
  xp : PySem.W.exmAny K (.ref CP) [.ref CP, .ref CV] = some true
  xv : PySem.W.exmAny K (.ref CV) [.ref CP, .ref CV] = some true
section
variable {P : Program} {w : World} {K : PySem.W.Frag} {mg : Str → Option Value} {base : Heap} {f : Addr} {fd : FuncData} {k : Nat} {CP CV : Addr}
def RTo : List PyData → PyData → Prop := fun ds r => ∃ d s, ds = [d, s] ∧
  ((∃ i, plainD d = true ∧ (∀ xs, d = .list xs → ∀ x ∈ xs, plainD x = true) ∧ badV d = some i ∧ ReprOk (.list [.str "values", i]) ∧ r = .str (PyData.list [.str "values", i]).shown) ∨
    ∃ vs : List Int, d = intsD vs ∧ plainD s = true ∧ vs.length ≤ 60 ∧ fromB s ((vs.length : Int) - 1) = false ∧ ReprOk (.list [.str "place", s]) ∧ r = .str (PyData.list [.str "place", s]).shown)
theorem f_law_told (Fn : Fun K "_law_told" "_law_told" s_law_told f fd) (B : Bt mg) (T : Et P w K mg base CP CV) (E : De P w K mg base "word_of" 6 (spE (RWe CP CV))) : FnG P w K mg base 8 f fd ["_law_row", "_law_spot"] (spD RTo) := by
  refine funD Fn c_law_told (fun ds r ⟨_, _, h, _⟩ => by rw [h]; rfl) ?_
  have n1 : ∀ j, Names ((famOf P w K mg base n_law_told "_law_told" (defScope s_law_told) f 7).x j) "InvalidPlace" (.ref CP) := fun j => ⟨rfl, by decide, .inl T.ep.c.gC⟩
  have n2 : ∀ j, Names ((famOf P w K mg base n_law_told "_law_told" (defScope s_law_told) f 7).x j) "InvalidValues" (.ref CV) := fun j => ⟨rfl, by decide, .inl T.ev.c.gC⟩
  rintro ds r ⟨d, s, rfl, ⟨i, h1, h2, h3, h4, rfl⟩ | ⟨vs, rfl, h1, h2, h3, h4, rfl⟩⟩
  · let L0 : List Sl := [.va d, .va s, .va .none, .no]
    let L1 : List Sl := [.va d, .va s, .va (excD CV "index" i), .no]
    refine ⟨_, ss_cons (L1 := L0) (sd_set 2 ed_non) (ss_cons (L1 := L1) (sd_try (L := L0) (L' := L0) 3 2 (fun _ => rfl) (fun _ => rfl) (fun _ => rfl) (xs_hd (x_expr (xe_call (er := ⟨CV, "index", i⟩) E.mono (ad_cons (ed_var 0 rfl) (ad_one (ed_var 1 rfl))) ⟨d, s, rfl, .inl ⟨d, i, rfl, h1, h2, h3, rfl⟩⟩))) (fun j => test2 (n1 j) (n2 j) T.xv))
      (ss_cons (sd_if (k := false) (bd_or2 (k := false) (l := false) (CD.bd (CD.is (cd_isN (ed_var 2 rfl)) rfl)) fun _ => bd_not (k := true) (bd_val (ed_isXB (T := "ValueError") (ed_var 2 rfl) T.ev.c T.ob B.isinstance T.ve vVE T.vV))) (fun z => by cases z) fun _ => ss_nil)
      (ss_one (sd_ret (ed_if (k := false) (bd_val (ed_isXO (ed_var 2 rfl) T.ev.c T.ob B.isinstance T.ep.c.gC T.vp)) (fun z => by cases z) fun _ => ed_repr (ED.hd (FD.ed (fd_lst (ad_cons ed_str (ad_one (ed_xf (ed_var 2 rfl) T.ev.c)))))) h4 B.repr)))))⟩
  · let L0 : List Sl := [.va (intsD vs), .va s, .va .none, .no]
    let L1 : List Sl := [.va (intsD vs), .va s, .va (excD CP "place" s), .no]
    refine ⟨_, ss_cons (L1 := L0) (sd_set 2 ed_non) (ss_cons (L1 := L1) (sd_try (L := L0) (L' := L0) 3 2 (fun _ => rfl) (fun _ => rfl) (fun _ => rfl) (xs_hd (x_expr (xe_call (er := ⟨CP, "place", s⟩) E.mono (ad_cons (ed_var 0 rfl) (ad_one (ed_var 1 rfl))) ⟨_, s, rfl, .inr ⟨vs, rfl, ⟨s, vs, rfl, h1, h2, h3, rfl⟩⟩⟩))) (fun j => test2 (n1 j) (n2 j) T.xp))
      (ss_cons (sd_if (k := false) (bd_or2 (k := false) (l := false) (CD.bd (CD.is (cd_isN (ed_var 2 rfl)) rfl)) fun _ => bd_not (k := true) (bd_val (ed_isXB (T := "ValueError") (ed_var 2 rfl) T.ep.c T.ob B.isinstance T.ve vVE T.pV))) (fun z => by cases z) fun _ => ss_nil)
      (ss_one (sd_ret (ed_if (k := true) (bd_val (ed_isXO (ed_var 2 rfl) T.ep.c T.ob B.isinstance T.ep.c.gC T.pp)) (fun _ => ed_repr (ED.hd (FD.ed (fd_lst (ad_cons ed_str (ad_one (ed_xf (ed_var 2 rfl) T.ep.c)))))) h4 B.repr) fun z => by cases z)))))⟩
end
end K2
namespace K2
open PySem PyProof.Rows L2 DL
/-! ### the errors' own __init__ -/
def initOf (i : Nat) : Stmt := match top i with
  | .ClassDef (body := b :: _) .. => b
  | s => s
abbrev sIPlace : Stmt := initOf 2
abbrev sIValues : Stmt := initOf 3
theorem cIPlace : FnScope ["self", "place"] ["self", "place"] (defScope sIPlace) := ⟨rfl, rfl, rfl, by decide +kernel, rfl, by decide +kernel, by decide +kernel⟩
theorem cIValues : FnScope ["self", "index"] ["self", "index"] (defScope sIValues) := ⟨rfl, rfl, rfl, by decide +kernel, rfl, by decide +kernel, by decide +kernel⟩
section
variable {P : Program} {w : World} {K : PySem.W.Frag} {mg : Str → Option Value} {base : Heap} {f : Addr} {fd : FuncData} {k : Nat} {C : Addr}
theorem ok_IPlace {qual : Str} (Fn : Fun K "__init__" qual sIPlace f fd) (T : OexC K C) (no : PySem.W.findIn K (.ref C) "place" = some none) (ve : mg "ValueError" = none) (vV : PySem.W.findCls K (.type "ValueError") (.type "type") "__init__" = some (.val (.builtin "ValueError.__init__"))) :
    FnOk P w K mg base CX0 1 f fd ["self", "place"] (spI C "place") := by
  refine Fn.ok cIPlace (fun vs H Q E ⟨a, v, h, _⟩ => by rw [h]; rfl) fun cdv A outer s H vs Q E hr h => ?_
  obtain ⟨a, v, rfl, h1, h2⟩ := h
  refine ⟨_, pss_cons (ps_expr (pe_veinit (by rfl) ve vV (pa_cons (pe_var (i := 0) rfl (.inl rfl) (by decide) (by decide)) (pa_cons pe_str pa_nil)))) (pss_cons (ps_ost (pe_var (i := 0) rfl (.inl rfl) (by decide) (by decide)) (pe_var (i := 1) rfl (.inl rfl) (by decide) (by decide))) pss_nil), ?_⟩
  refine ⟨.ref a, rfl, ⟨a, C, _, rfl, by simp, T, h1, ⟨v, rfl, .ref a, rfl, a, C, rfl, T, no, .inl ⟨h1, fun dx n ne => h2 dx n ne⟩⟩⟩⟩
theorem ok_IValues {qual : Str} (Fn : Fun K "__init__" qual sIValues f fd) (T : OexC K C) (no : PySem.W.findIn K (.ref C) "index" = some none) (ve : mg "ValueError" = none) (vV : PySem.W.findCls K (.type "ValueError") (.type "type") "__init__" = some (.val (.builtin "ValueError.__init__"))) :
    FnOk P w K mg base CX0 1 f fd ["self", "index"] (spI C "index") := by
  refine Fn.ok cIValues (fun vs H Q E ⟨a, v, h, _⟩ => by rw [h]; rfl) fun cdv A outer s H vs Q E hr h => ?_
  obtain ⟨a, v, rfl, h1, h2⟩ := h
  refine ⟨_, pss_cons (ps_expr (pe_veinit (by rfl) ve vV (pa_cons (pe_var (i := 0) rfl (.inl rfl) (by decide) (by decide)) (pa_cons pe_str pa_nil)))) (pss_cons (ps_ost (pe_var (i := 0) rfl (.inl rfl) (by decide) (by decide)) (pe_var (i := 1) rfl (.inl rfl) (by decide) (by decide))) pss_nil), ?_⟩
  refine ⟨.ref a, rfl, ⟨a, C, _, rfl, by simp, T, h1, ⟨v, rfl, .ref a, rfl, a, C, rfl, T, no, .inl ⟨h1, fun dx n ne => h2 dx n ne⟩⟩⟩⟩
end
end K2
namespace K2
open PySem PyProof.Rows L2 DL
def tiny (ns : List Int) : Prop := ∀ n ∈ ns, n.natAbs < 100
theorem orderS_tiny {n : Nat} (hn : n ≤ 60) (d : Dr) : ∀ i, tiny (orderS n d i).left ∧ tiny (orderS n d i).told
  | 0 => ⟨fun x hx => by
      obtain ⟨j, hj, rfl⟩ := List.mem_map.mp hx
      have : j < n := by simpa using hj
      omega, fun x hx => by cases hx⟩
  | i + 1 => by
    obtain ⟨h1, h2⟩ := orderS_tiny hn d i
    refine ⟨fun x hx => h1 x (List.mem_of_mem_eraseIdx hx), fun x hx => ?_⟩
    have hx' : x ∈ (orderS n d i).told ++ [(orderS n d i).left.getD (numD (orderS n d i).d % ((orderS n d i).left.length : Int)).toNat 0] := hx
    rcases List.mem_append.mp hx' with h | h
    · exact h2 x h
    · rw [List.mem_singleton.mp h]
      generalize (numD (orderS n d i).d % ((orderS n d i).left.length : Int)).toNat = j
      by_cases hl : j < (orderS n d i).left.length
      · simp only [List.getD, List.getElem?_eq_getElem hl, Option.getD_some]
        exact h1 _ (List.getElem_mem hl)
      · rw [List.getD, List.getElem?_eq_none (Nat.le_of_not_lt hl)]
        decide
theorem valN_sml (kind : Int) {p : Int} (h : 0 ≤ p) : (valN kind p).natAbs < 10 ^ 29 := by
  unfold valN
  split
  · omega
  split
  · omega
  have h1 : p % 5 = 0 ∨ p % 5 = 1 ∨ p % 5 = 2 ∨ p % 5 = 3 ∨ p % 5 = 4 := by omega
  rcases h1 with h1 | h1 | h1 | h1 | h1 <;> rw [h1] <;> omega
theorem listS_sml (kind : Int) (d : Dr) : ∀ i, sml (listS kind d i).1
  | 0 => fun x hx => by cases hx
  | i + 1 => fun x hx => by
    have hx' : x ∈ (listS kind d i).1 ++ [valN kind (numD (listS kind d i).2)] := hx
    rcases List.mem_append.mp hx' with h | h
    · exact listS_sml kind d i x h
    · rw [List.mem_singleton.mp h]
      exact valN_sml kind (numD_lt _).1
theorem listD_sml {most : Nat} (hm : most ≤ 60) (d : Dr) : sml (listD most d).1 := by
  unfold listD
  dsimp only
  split
  · intro x hx
    have := (orderS_tiny (Nat.le_trans (lenD_le (stepD d) most).2 hm) (stepD (stepD d)) _).2 x hx
    omega
  · exact listS_sml _ _ _
theorem rgGet {n : Int} {i : Nat} {t : PyData} (h : ((List.range n.toNat).map fun (i : Nat) => PyData.int (i : Int))[i]? = some t) : t = .int (i : Int) ∧ (i : Int) < n := by
  rw [List.getElem?_map] at h
  by_cases hi : i < n.toNat
  · rw [List.getElem?_range hi] at h
    exact ⟨(Option.some.inj h).symm, by omega⟩
  · rw [List.getElem?_eq_none (by simpa using hi)] at h
    cases h
def swapD : PyData → PyData
  | .tuple [a, b] => .tuple [b, a]
  | d => d
theorem enum_swap (vs : List Int) : (enumD (vs.map PyData.int)).map swapD = (pairsOf vs).map encQ := by
  apply List.ext_getElem?
  intro i
  unfold enumD pairsOf
  rw [List.getElem?_map, List.getElem?_mapIdx, List.getElem?_map, List.getElem?_map, List.getElem?_map]
  by_cases h : i < vs.length
  · rw [List.getElem?_eq_getElem h, List.getElem?_eq_getElem (by simpa using h)]
    simp [swapD, encQ, List.getElem?_eq_getElem h]
  · rw [List.getElem?_eq_none (by omega), List.getElem?_eq_none (by simp; omega)]
    rfl

theorem map_snd (ps : List (Int × Nat)) : (ps.map encQ).map sndD = (ps.map (·.2)).map fun (n : Nat) => PyData.int (n : Int) := by
  rw [List.map_map, List.map_map]
  rfl
theorem pairsOf_ok {vs : List Int} (h : sml vs) (hl : vs.length ≤ 60) : ∀ p ∈ pairsOf vs, p.1.natAbs < 10 ^ 29 ∧ p.2 < 100 := by
  intro p hp
  obtain ⟨i, hi⟩ := List.getElem?_of_mem hp
  obtain ⟨rfl, hi'⟩ := pairs_get hi
  refine ⟨h _ ?_, by show i < 100; omega⟩
  simp only [List.getD, List.getElem?_eq_getElem hi', Option.getD_some]
  exact List.getElem_mem hi'
/-! ### one turn -/
def mostD (d : Dr) : Nat := if numD d % 2 = 0 then 60 else 12
theorem mostD_le (d : Dr) : mostD d ≤ 60 := by
  unfold mostD
  split <;> omega
def turnP (d : Dr) : Plan := (planD d).1
def turn1 (d : Dr) : Dr := (planD d).2
section
variable {F : Fam} {e a b : Expr} {L L1 L2' : List Sl} {pos : Pos}
end
section
variable {P : Program} {w : World} {K : PySem.W.Frag} {mg : Str → Option Value} {base : Heap} {f : Addr} {fd : FuncData} {k : Nat}
theorem vals_rev {vs : List V} {us : List Value} (h : Vals vs us) : Vals vs.reverse us.reverse := by
  induction h with
  | nil => exact .nil
  | cons a t ih =>
    rw [List.reverse_cons, List.reverse_cons]
    exact ih.append (.cons a .nil)
end
end K2
namespace K2
open PySem PyProof.Rows L2 DL
/-! ### pivots as new lists, by name -/
def pivL (pl : Plan) (vs : List Int) : List PyData := (pivN pl vs).map fun (n : Nat) => PyData.int (n : Int)
section
variable {P : Program} {w : World} {K : PySem.W.Frag} {mg : Str → Option Value} {base : Heap} {f : Addr} {fd : FuncData} {k : Nat}
theorem f_pivot_placesL (Fn : Fun K "_pivot_places" "_pivot_places" s_pivot_places f fd) (B : Bt mg) (D1 : Df P w K mg base "_word" 1 (spD RWo)) (D2 : Df P w K mg base "steps_until_stop" 2 (spD RUn)) : FnG P w K mg base 3 f fd ["plan", "values"] (spL RPi) := by
  refine funL Fn c_pivot_places (fun ds r ⟨_, _, h, _⟩ => by rw [h]; rfl) ?_
  rintro ds r ⟨pl, vs, rfl, ok, hl, rfl⟩
  apply Exists.intro
  refine ss_one (sd_retL (FD.is (CompD.fd (cd_filter (fun d => d) (onNat fun p => KM.goesF pl (fst0 pl) (wordN vs p)) (own := [("place", 2)]) (it_range1 (ed_len (ds := vs.map .int) (ED.ld (ed_var 1 rfl)) B.len) ?b1 B.range) (blkOk_by rfl) (tg_name 2) (by decide) rfl ⟨rfl, trivial⟩ (fun d hd => ?t) ?tl)) ?fin))
  case b1 =>
    rw [List.length_map]
    omega
  case tl =>
    rw [List.length_map, List.length_range, List.length_map]
    omega
  case t =>
    obtain ⟨p, hp, rfl⟩ := List.mem_map.mp hd
    rw [List.mem_range, List.length_map] at hp
    have hp' : p < vs.length := by omega
    exact ⟨trivial, CD.bd (CD.is (cd_isN (ed_call (r := encE (untilF pl (wordN vs p))) D2.mono (ad_cons (ed_var 0 rfl) (ad_one (ed_call (r := .str (wS (wordN vs p))) D1.mono (ad_cons (ed_var 1 rfl) (ad_one (ed_var 2 rfl))) ⟨vs, p, rfl, hl, hp', rfl⟩))) ⟨pl, _, rfl, ok, by have := wordN_le0 vs p; omega, rfl⟩)) (until_goes pl _)), fun _ => ed_var 2 rfl⟩
  case fin =>
    rw [List.length_map, Int.toNat_natCast]
    exact filter_nats (fun p => KM.goesF pl (fst0 pl) (wordN vs p)) (List.range vs.length)
theorem f_pivotsL (Fn : Fun K "pivots" "pivots" spivots f fd) (B : Bt mg) (D1 : Df P w K mg base "check_plan" 5 (spD RCkP)) (D2 : Df P w K mg base "check_values" 5 (spD RCkV)) (D4 : Df P w K mg base "_pivot_places" 3 (spL RPi)) : FnG P w K mg base 6 f fd ["plan", "values"] (spL RPi) := by
  refine funL Fn cpivots (fun ds r ⟨_, _, h, _⟩ => by rw [h]; rfl) ?_
  rintro ds r ⟨pl, vs, rfl, ok, hl, rfl⟩
  apply Exists.intro
  exact ss_cons (sd_expr (ed_call (r := .none) D1.mono (ad_one (ed_var 0 rfl)) ⟨pl, rfl, ok, rfl⟩))
    (ss_cons (sd_expr (ed_call (r := .none) D2.mono (ad_one (ed_var 1 rfl)) ⟨vs, rfl, hl, rfl⟩))
    (ss_one (sd_retL (fd_call (rs := pivL pl vs) D4.mono (ad_cons (ed_var 0 rfl) (ad_one (ed_var 1 rfl))) ⟨pl, vs, rfl, ok, hl, rfl⟩))))
theorem dk_pivots {sp : Sp} (Fn : Fun K "pivots" "pivots" spivots f fd) (G : FnG P w K mg base k f fd ["plan", "values"] sp) (m : mg "pivots" = some (.ref f)) : Dk P w K mg base "pivots" k 0 ["values", "plan"] List.reverse List.reverse List.reverse sp := by
  refine ⟨⟨f, fd, _, G, m, Fn.kp, fun s us ws inK l1 l2 => ?_⟩, fun _ _ _ h => vals_rev h, fun _ _ _ _ h => h.rev⟩
  obtain ⟨oc, od, kV, doc, pm, an, cdv, ct, osl, rfl, lk, hcd⟩ := Fn.ex
  exact match us, l1, ws, l2 with | [], _, [_, _], _ => .of_eq rfl
theorem dk_word {sp : Sp} (Fn : Fun K "word_of" "word_of" sword_of f fd) (G : FnG P w K mg base k f fd ["values", "place"] sp) (m : mg "word_of" = some (.ref f)) : Dk P w K mg base "word_of" k 0 ["place", "values"] List.reverse List.reverse List.reverse sp := by
  refine ⟨⟨f, fd, _, G, m, Fn.kp, fun s us ws inK l1 l2 => ?_⟩, fun _ _ _ h => vals_rev h, fun _ _ _ _ h => h.rev⟩
  obtain ⟨oc, od, kV, doc, pm, an, cdv, ct, osl, rfl, lk, hcd⟩ := Fn.ex
  exact match us, l1, ws, l2 with | [], _, [_, _], _ => .of_eq rfl
end
/-! ### words and marks -/
def kvsW (vs : List Int) : List (Int × Str) := (KM.wds 64 (pairsOf vs) []).map fun x => ((x.1 : Int), wS x.2)
theorem kvsW_T (vs : List Int) : (KM.wds 64 (pairsOf vs) []).map encW = (kvsW vs).map kvST := by
  unfold kvsW
  rw [List.map_map]
  rfl
theorem pairs_snd (vs : List Int) : (pairsOf vs).map (·.2) = List.range vs.length := by
  unfold pairsOf
  rw [List.map_map]
  exact List.map_id _
theorem wds_places {vs : List Int} (hl : vs.length ≤ 60) : ((KM.wds 64 (pairsOf vs) []).map (·.1)).Perm (List.range vs.length) := by
  have h := KM.wds_perm 64 (pairsOf vs) [] (by rw [pairs_len]; omega)
  rw [pairs_snd] at h
  exact h
theorem nodup_map {α β : Type} {g : α → β} (hg : ∀ a b, g a = g b → a = b) : ∀ {l : List α}, l.Nodup → (l.map g).Nodup
  | [], _ => List.nodup_nil
  | a :: l, h => by
    obtain ⟨h1, h2⟩ := List.nodup_cons.mp h
    rw [List.map_cons, List.nodup_cons]
    refine ⟨fun hm => ?_, nodup_map hg h2⟩
    obtain ⟨b, hb, e⟩ := List.mem_map.mp hm
    rw [hg b a e] at hb
    exact h1 hb
theorem kvsW_nd {vs : List Int} (hl : vs.length ≤ 60) : ((kvsW vs).map (·.1)).Nodup := by
  have h := (wds_places hl).symm.nodup List.nodup_range
  have e : (kvsW vs).map (·.1) = ((KM.wds 64 (pairsOf vs) []).map (·.1)).map fun (n : Nat) => (n : Int) := by
    unfold kvsW
    rw [List.map_map, List.map_map]
    rfl
  rw [e]
  exact nodup_map (fun a b h => by omega) h
theorem kvsW_at {vs : List Int} {p : Nat} (hp : p < vs.length) (hl : vs.length ≤ 60) : ((p : Int), wS (wordN vs p)) ∈ kvsW vs := by
  have all : ∀ l : List (Int × Nat), l.filter (KM.inB none none) = l := fun l => List.filter_eq_self.mpr fun z _ => rfl
  have h := KM.wds_word (vs.getD p 0, p) ((pairsOf vs).take p) ((pairsOf vs).drop (p + 1)) none none 64 [] rfl (by
    rw [all, all, ← split_at hp, pairs_len]
    omega)
  rw [all, all, ← split_at hp, List.nil_append] at h
  have e : ((pairsOf vs).take p).map (·.1) = vs.take p := by rw [List.map_take, pairs_fst]
  rw [e] at h
  exact List.mem_map.mpr ⟨_, h, rfl⟩
theorem pairs_nd (vs : List Int) : (pairsOf vs).Nodup := by
  unfold pairsOf
  exact nodup_map (fun a b h => congrArg Prod.snd h) List.nodup_range
theorem piv_mem (pl : Plan) {vs : List Int} {p : Nat} (hl : vs.length ≤ 60) : p ∈ pivN pl vs ↔ p ∈ (KM.mk Prod.fst pl 64 (fst0 pl) (pairsOf vs)).map (·.2) := by
  unfold pivN
  rw [List.mem_filter, List.mem_range, List.mem_map]
  constructor
  · rintro ⟨h1, h2⟩
    exact ⟨_, (goes_pairs pl h1 hl).mp h2, rfl⟩
  · rintro ⟨x, hx, rfl⟩
    obtain ⟨i, hi⟩ := List.getElem?_of_mem (KM.mk_mem _ _ _ hx)
    obtain ⟨e, h1⟩ := pairs_get hi
    rw [e] at hx ⊢
    exact ⟨h1, (goes_pairs pl h1 hl).mpr hx⟩
theorem mk_places_nd (pl : Plan) (vs : List Int) : ((KM.mk Prod.fst pl 64 (fst0 pl) (pairsOf vs)).map (·.2)).Nodup := by
  have h := KM.mk_map (key := (Prod.fst : Int × Nat → Int)) (pl := pl) (fun i => (vs.getD i 0, i)) 64 (fst0 pl) (List.range vs.length)
  have e : pairsOf vs = (List.range vs.length).map fun i => (vs.getD i 0, i) := rfl
  rw [e, h, List.map_map]
  have e2 : ((fun x : Int × Nat => x.2) ∘ fun i => (vs.getD i 0, i)) = id := rfl
  rw [e2, List.map_id]
  exact KM.mk_nodup _ _ _ List.nodup_range
theorem piv_perm (pl : Plan) {vs : List Int} (hl : vs.length ≤ 60) : (pivN pl vs).Perm ((KM.mk Prod.fst pl 64 (fst0 pl) (pairsOf vs)).map (·.2)) := by
  refine (List.perm_ext_iff_of_nodup (List.Nodup.sublist List.filter_sublist List.nodup_range) (mk_places_nd pl vs)).mpr fun p => piv_mem pl hl
theorem piv_sorted (pl : Plan) (vs : List Int) : ((pivN pl vs).map fun (n : Nat) => (n : Int)).Pairwise (· ≤ ·) := by
  rw [List.pairwise_map]
  refine List.Pairwise.sublist List.filter_sublist ?_
  refine List.Pairwise.imp ?_ (List.pairwise_lt_range (n := vs.length))
  intro a b h
  omega
theorem eqvAll_strs : ∀ xs ys : List Str, PyData.eqvAll (xs.map PyData.str) (ys.map PyData.str) = decide (xs = ys)
  | [], [] => rfl
  | [], _ :: _ => rfl
  | _ :: _, [] => rfl
  | x :: xs, y :: ys => by
    rw [List.map_cons, List.map_cons]
    show (x == y && PyData.eqvAll (xs.map PyData.str) (ys.map PyData.str)) = _
    rw [eqvAll_strs xs ys]
    by_cases h : x = y
    · subst h
      simp
    · simp [h]
theorem Ds.str {n k : Nat} {x : Str} (h : ∀ c ∈ x.cps.toList, c < 200) (hw : x.cps.size ≤ n) : Ds n k (.str x) := by
  refine ⟨?_, Nat.zero_le _, hw, rfl, ?_⟩
  · show PyData.strOk x = true
    unfold PyData.strOk
    rw [← Array.all_toList, List.all_eq_true]
    intro c hc
    have := h c hc
    exact decide_eq_true (by omega)
  · show (x.cps.toList.all fun c => decide (c < 16 ^ 8)) = true
    rw [List.all_eq_true]
    intro c hc
    have := h c hc
    exact decide_eq_true (by omega)
theorem Ds.word {k : Nat} {w : List Bool} (h : w.length ≤ 60) : Ds 60 k (.str (wS w)) := by
  refine Ds.str (fun c hc => ?_) ?_
  · have hc : c ∈ (w.map sgn).toArray.toList := hc
    obtain ⟨b, _, rfl⟩ := List.mem_map.mp hc
    unfold sgn
    split <;> decide
  · show (wS w).length ≤ 60
    rw [wS_len]
    exact h
theorem wordN_len {vs : List Int} {p : Nat} (hp : p < vs.length) (hl : vs.length ≤ 60) : (wordN vs p).length ≤ 60 := by
  have h := foldW_len (vs.getD p 0) (vs.take p) ⟨none, none, []⟩
  have e := foldW (vs.getD p 0) (vs.take p) ⟨none, none, []⟩
  have e2 : ((vs.take p).foldl (stepW (vs.getD p 0)) ⟨none, none, []⟩).w = wordN vs p := e
  rw [e2] at h
  have z0 : (⟨none, none, []⟩ : Wst).w.length = 0 := rfl
  have z1 : (vs.take p).length = p := by rw [List.length_take]; omega
  omega
end K2
namespace K2
open PySem PyProof.Rows L2 DL
def turnV (d : Dr) : List Int := (listD (mostD (turn1 d)) (stepD (turn1 d))).1
def turnD (d : Dr) : Dr := (listD (mostD (turn1 d)) (stepD (turn1 d))).2
theorem turn_ok (d : Dr) : okP (turnP d) ∧ sml (turnV d) ∧ (turnV d).length ≤ 60 ∧ (turn1 d).k ≤ d.k + 26 ∧ (turnD d).k ≤ d.k + 90 := by
  obtain ⟨h1, h2⟩ := planD_ok d
  have hm := mostD_le (turn1 d)
  obtain ⟨h3, h4⟩ := listD_ok (mostD (turn1 d)) (stepD (turn1 d))
  have hk : (stepD (turn1 d)).k = (turn1 d).k + 1 := rfl
  have h2' : (turn1 d).k ≤ d.k + 26 := h2
  exact ⟨h1, listD_sml hm _, Nat.le_trans h3 hm, h2', by unfold turnD; omega⟩
def wordD (vs : List Int) : PyData → PyData
  | .int n => .str (wS (wordN vs n.toNat))
  | d => d
def badB (n : Nat) : List PyData := [.int (n : Int), .int (-1), .none, .bool true, .bool false, .str "0", .list [.int 0], .int (10 ^ 19)]
theorem badB_ok {n : Nat} (hn : n ≤ 60) {d : PyData} (h : d ∈ badB n) : plainD d = true ∧ fromB d ((n : Int) - 1) = false ∧ Ds 200 2 d := by
  unfold badB at h
  simp only [List.mem_cons, List.not_mem_nil, or_false] at h
  rcases h with rfl | rfl | rfl | rfl | rfl | rfl | rfl | rfl
  · refine ⟨rfl, ?_, (Ds.int (k := 2) (by omega)).up (by decide) (by decide)⟩
    show (decide ((0 : Int) ≤ (n : Int)) && decide ((n : Int) ≤ (n : Int) - 1)) = false
    rw [decide_eq_false (by omega : ¬ (n : Int) ≤ (n : Int) - 1), Bool.and_false]
  · exact ⟨rfl, rfl, (Ds.int (k := 2) (by decide)).up (by decide) (by decide)⟩
  · exact ⟨rfl, rfl, Ds.none⟩
  · exact ⟨rfl, rfl, Ds.bool⟩
  · exact ⟨rfl, rfl, Ds.bool⟩
  · exact ⟨rfl, rfl, Ds.str (by decide) (by decide)⟩
  · exact ⟨rfl, rfl, (Ds.list (Ds.cons (Ds.int (k := 1) (by decide)) Ds.nil)).up (by decide) (by decide)⟩
  · refine ⟨rfl, ?_, (Ds.int (k := 2) (by decide)).up (by decide) (by decide)⟩
    show (decide ((0 : Int) ≤ 10 ^ 19) && decide ((10 ^ 19 : Int) ≤ (n : Int) - 1)) = false
    rw [decide_eq_false (by omega : ¬ (10 ^ 19 : Int) ≤ (n : Int) - 1), Bool.and_false]
theorem whole_ints : ∀ ns : List Int, oddAt (ns.map PyData.int) = none
  | [] => rfl
  | n :: ns => by
    show (if true = true then (oddAt (ns.map PyData.int)).map (· + 1) else some 0) = none
    rw [whole_ints ns]
    rfl
theorem oddAt_app {t : PyData} {ds : List PyData} (h : wholeD t = false) : ∀ ns : List Int, oddAt (ns.map PyData.int ++ t :: ds) = some ns.length
  | [] => by
    show (if wholeD t = true then _ else some 0) = some 0
    rw [h]
    rfl
  | n :: ns => by
    show (if true = true then (oddAt (ns.map PyData.int ++ t :: ds)).map (· + 1) else some 0) = _
    rw [oddAt_app h ns]
    rfl
/-- every pair of odd lists: what is wrong, and how it shows -/
theorem oddN_ok {vs : List Int} (hl : vs.length ≤ 60) {d : PyData} (h : d ∈ oddN vs) : ∃ t i, d = .tuple [t, i] ∧ plainD t = true ∧ (∀ xs, t = .list xs → ∀ x ∈ xs, plainD x = true) ∧ badV t = some i ∧ Ds 200 0 i := by
  have pI : ∀ ns : List Int, ∀ x ∈ ns.map PyData.int, plainD x = true := fun ns x hx => by
    obtain ⟨n, _, rfl⟩ := List.mem_map.mp hx
    rfl
  have pR : ∀ (n : Nat) (t : PyData), plainD t = true → ∀ x ∈ List.replicate n t, plainD x = true := fun n t ht x hx => by
    rw [(List.mem_replicate.mp hx).2]
    exact ht
  have flat : ∀ (t : PyData), plainD t = true → (∀ xs, t ≠ .list xs) → ∀ xs, t = .list xs → ∀ x ∈ xs, plainD x = true := fun t _ hn xs e => absurd e (hn xs)
  unfold oddN at h
  rcases List.mem_append.mp h with h | h
  · rcases List.mem_append.mp h with h | h
    · obtain ⟨t, ht, rfl⟩ := List.mem_map.mp h
      refine ⟨t, .none, rfl, ?_⟩
      unfold oddA at ht
      simp only [List.mem_cons, List.not_mem_nil, or_false] at ht
      rcases ht with rfl | rfl | rfl | rfl | rfl | rfl | rfl
      · exact ⟨rfl, fun xs e => (nomatch e), rfl, Ds.none⟩
      · exact ⟨rfl, fun xs e => (nomatch e), rfl, Ds.none⟩
      · exact ⟨rfl, fun xs e => (nomatch e), rfl, Ds.none⟩
      · exact ⟨rfl, fun xs e => (nomatch e), rfl, Ds.none⟩
      · exact ⟨rfl, fun xs e => (nomatch e), rfl, Ds.none⟩
      · exact ⟨rfl, fun xs e => by cases e; exact pR _ _ rfl, rfl, Ds.none⟩
      · exact ⟨rfl, fun xs e => by cases e; exact pR _ _ rfl, rfl, Ds.none⟩
    · obtain ⟨t, ht, h2⟩ := List.mem_flatMap.mp h
      have tw : wholeD t = false ∧ plainD t = true := by
        unfold oddB at ht
        simp only [List.mem_cons, List.not_mem_nil, or_false] at ht
        rcases ht with rfl | rfl | rfl | rfl | rfl | rfl | rfl <;> exact ⟨rfl, rfl⟩
      unfold pairB at h2
      simp only [List.mem_cons, List.not_mem_nil, or_false] at h2
      rcases h2 with rfl | rfl
      · have l50 : (vs.take 50).length ≤ 50 := by rw [List.length_take]; omega
        refine ⟨_, _, rfl, rfl, fun xs e => ?_, ?_, (Ds.int (k := 0) (by omega)).up (by decide) (by decide)⟩
        · cases e
          intro x hx
          rcases List.mem_append.mp hx with hx | hx
          · exact pI _ x hx
          · simp only [List.mem_cons, List.not_mem_nil, or_false] at hx
            rcases hx with rfl | rfl
            · exact tw.2
            · rfl
        · show (if 60 < ((vs.take 50).map PyData.int ++ [t, .none]).length then _ else (oddAt _).map fun (i : Nat) => PyData.int (i : Int)) = _
          rw [if_neg (by rw [List.length_append, List.length_map]; show ¬ 60 < _ + 2; omega), oddAt_app tw.1]
          rfl
      · have l59 : (vs.take 59).length ≤ 59 := by rw [List.length_take]; omega
        refine ⟨_, _, rfl, rfl, fun xs e => ?_, ?_, (Ds.int (k := 0) (by omega)).up (by decide) (by decide)⟩
        · cases e
          intro x hx
          rcases List.mem_append.mp hx with hx | hx
          · exact pI _ x hx
          · rw [List.mem_singleton.mp hx]
            exact tw.2
        · show (if 60 < ((vs.take 59).map PyData.int ++ [t]).length then _ else (oddAt _).map fun (i : Nat) => PyData.int (i : Int)) = _
          rw [if_neg (by rw [List.length_append, List.length_map]; show ¬ 60 < _ + 1; omega), oddAt_app tw.1]
          rfl
  · rw [List.mem_singleton.mp h]
    refine ⟨_, _, rfl, rfl, fun xs e => ?_, rfl, (Ds.int (k := 0) (by decide)).up (by decide) (by decide)⟩
    cases e
    intro x hx
    rcases List.mem_append.mp hx with hx | hx
    · exact pR _ _ rfl x hx
    · rw [List.mem_singleton.mp hx]
      rfl
theorem oddN_len (vs : List Int) : (oddN vs).length = 22 := rfl
end K2
namespace K2
open PySem PyProof.Rows L2 DL
theorem rg_at {n : Nat} {t : PyData} (h : t ∈ ((List.range ((n : Int)).toNat).map fun (i : Nat) => PyData.int (i : Int))) : ∃ p, p < n ∧ t = .int (p : Int) := by
  obtain ⟨p, hp, rfl⟩ := List.mem_map.mp h
  rw [List.mem_range, Int.toNat_natCast] at hp
  exact ⟨p, hp, rfl⟩
section
variable {P : Program} {w : World} {K : PySem.W.Frag} {mg : Str → Option Value} {base : Heap} {f : Addr} {fd : FuncData} {k : Nat}
def RRi : List PyData → List PyData → PyData × List PyData → Prop := fun ms ds r => ∃ d, ms = encD d ∧ ds = [] ∧ d.k < 8000 ∧ r = (.bool true, encD (turnD d))
theorem f_law_right (Fn : Fun K "_law_right" "_law_right" s_law_right f fd) (B : Bt mg) (hsorted : mg "sorted" = none) (hdict : mg "dict" = none) (D1 : Df P w K mg base "_law_next" 1 (spM RNext)) (D2 : Df P w K mg base "_law_plan" 3 (spM RPl)) (D3 : Df P w K mg base "_law_list" 3 (spM RLi))
    (D4 : Df P w K mg base "_law_words" 65 (spD (RWd 64))) (D5 : Df P w K mg base "_law_marked" 65 (spD (RMk 64))) (D6 : Df P w K mg base "_law_odd_lists" 1 (spL ROd)) (D7 : Df P w K mg base "_law_told" 8 (spD RTo))
    (W1 : Df P w K mg base "word_of" 6 (spD RWo)) (W2 : Dk P w K mg base "word_of" 6 0 ["place", "values"] List.reverse List.reverse List.reverse (spD RWo))
    (S1 : Df P w K mg base "pivots" 6 (spL RPi)) (S2 : Dk P w K mg base "pivots" 6 0 ["values", "plan"] List.reverse List.reverse List.reverse (spL RPi)) :
    FnG P w K mg base 68 f fd ["_law_draws_here"] (spM RRi) := by
  refine funM Fn c_law_right (fun ms ds r ⟨_, _, h, _⟩ => by rw [h]; rfl) ?_
  rintro ms ds r ms' ⟨d, rfl, rfl, hk, e⟩
  cases e
  obtain ⟨ok, sv, hl, k1, k3⟩ := turn_ok d
  obtain ⟨pl, hpl⟩ : ∃ pl, pl = turnP d := ⟨_, rfl⟩
  obtain ⟨vs, hvs⟩ : ∃ vs, vs = turnV d := ⟨_, rfl⟩
  obtain ⟨d1, hd1⟩ : ∃ d1, d1 = turn1 d := ⟨_, rfl⟩
  obtain ⟨d3, hd3⟩ : ∃ d3, d3 = turnD d := ⟨_, rfl⟩
  obtain ⟨mo, hmo⟩ : ∃ mo, mo = mostD d1 := ⟨_, rfl⟩
  have hm60 : mo ≤ 60 := by rw [hmo]; exact mostD_le _
  have eP : planD d = (pl, d1) := by rw [hpl, hd1]; rfl
  have eL : listD mo (stepD d1) = (vs, d3) := by rw [hvs, hd3, hmo, hd1]; rfl
  rw [← hpl] at ok
  rw [← hvs] at sv hl
  rw [← hd1] at k1
  rw [← hd3] at k3 ⊢
  have k1' : (stepD d1).k = d1.k + 1 := rfl
  obtain ⟨n, hn⟩ : ∃ n, n = vs.length := ⟨_, rfl⟩
  have hn60 : n ≤ 60 := by rw [hn]; exact hl
  have plen := pairs_len vs
  have dv : Ds 8000 1 (intsD vs) := ds_ints sv hl
  have r2 : ReprOk (.list [encP pl, intsD vs]) := (Ds.list (Ds.cons (ds_plan ok) (Ds.cons (dv.up (w' := 8000) (by decide) (by decide : 1 ≤ 2)) Ds.nil))).reprOk (by decide) (by decide) rfl
  obtain ⟨pv, hpv⟩ : ∃ pv, pv = pivN pl vs := ⟨_, rfl⟩
  have pvl : pv.length ≤ 60 := by
    rw [hpv]
    unfold pivN
    have := List.length_filter_le (fun p => KM.goesF pl (fst0 pl) (wordN vs p)) (List.range vs.length)
    rw [List.length_range] at this
    omega
  have dsp : Ds 8000 1 (natsD pv) := by
    have q := Ds.all (w := 120) (k := 0) (ds := pv.map fun (n : Nat) => PyData.int (n : Int)) fun d hd => by
      obtain ⟨n, hn, rfl⟩ := List.mem_map.mp hd
      rw [hpv] at hn
      have := List.mem_range.mp (List.mem_filter.mp hn).1
      exact Ds.int (by omega)
    rw [List.length_map] at q
    exact (Ds.list q).up (by omega) (Nat.le_refl _)
  have r3 : ReprOk (.list [natsD pv, natsD pv]) := (Ds.list (Ds.cons dsp (Ds.cons dsp Ds.nil))).reprOk (by decide) (by decide) rfl
  have dne : ∀ s : Str, (!decide (s = s)) = false := fun s => by simp
  obtain ⟨tl, htl⟩ : ∃ tl : List PyData, tl = (List.range n).map fun p => PyData.str (wS (wordN vs p)) := ⟨_, rfl⟩
  have tll : tl.length = n := by rw [htl, List.length_map, List.length_range]
  have dtl : Ds 8000 1 (.list tl) := by
    have q := Ds.all (w := 60) (k := 0) (ds := tl) fun d hd => by
      rw [htl] at hd
      obtain ⟨p, hp, rfl⟩ := List.mem_map.mp hd
      have := List.mem_range.mp hp
      exact Ds.word (wordN_len (by omega) hl)
    exact (Ds.list q).up (by omega) (Nat.le_refl _)
  have tls : PyData.eqvAll tl tl = true := by
    rw [htl]
    have e : ((List.range n).map fun p => PyData.str (wS (wordN vs p))) = ((List.range n).map fun p => wS (wordN vs p)).map PyData.str := by
      rw [List.map_map]
      rfl
    rw [e, eqvAll_strs]
    exact decide_eq_true rfl
  let kv := kvsW vs
  have knd := kvsW_nd hl
  let bef : Str := (PyData.list [encP pl, intsD vs]).shown
  let A : List Sl := [.ow (encD d3), .va (encP pl), .va (intsD vs), .va (.str bef), .no, .no, .va (pairsD (pairsOf vs)), .va (.dict (kvSD kv)), .no, .no, .no, .no, .no, .no, .no]
  let A9 : List Sl := [.ow (encD d3), .va (encP pl), .va (intsD vs), .va (.str bef), .no, .no, .va (pairsD (pairsOf vs)), .va (.dict (kvSD kv)), .no, .va (.list tl), .no, .no, .no, .no, .no]
  let C : List Sl := [.ow (encD d3), .va (encP pl), .va (intsD vs), .va (.str bef), .no, .no, .va (pairsD (pairsOf vs)), .va (.dict (kvSD kv)), .no, .va (.list tl), .va (natsD pv), .no, .no, .no, .no]
  let CS : List Sl := [.no, .va (encP pl), .va (intsD vs), .va (.str bef), .no, .no, .va (pairsD (pairsOf vs)), .va (.dict (kvSD kv)), .no, .va (.list tl), .va (natsD pv), .va (.list [natsD pv, natsD pv]), .no, .no, .no]
  refine ⟨C, ?_, rfl⟩
  refine ss_cons (sd_set 1 (ed_callM (ms := encD d) (r := encP pl) (ms' := encD d1) 0 D2.mono rfl ad_nil ⟨d, rfl, rfl, by omega, by rw [eP]⟩))
    (ss_cons (sd_set 2 (ed_callM (ms := encD (stepD d1)) (r := intsD vs) (ms' := encD d3) 0 D3.mono rfl (ad_one (ED.is (d2 := .int (mo : Int)) (ed_ixL (d := .int (mo : Int)) (n := numD d1 % 2) (FD.ed (fd_lst (ad_cons ed_int (ad_one ed_int)))) (ed_mod (m := numD d1) (by decide) (ed_int1 (ed_callM (ms := encD d1) (r := .int (numD d1)) (ms' := encD (stepD d1)) 0 D1.mono rfl ad_nil ⟨d1, rfl, rfl, by omega, rfl⟩) B.int) ed_int) ?ix) rfl)) ⟨stepD d1, mo, rfl, rfl, by omega, hm60, by rw [eL]⟩))
    (ss_cons (sd_set 3 (ed_repr (ED.hd (FD.ed (fd_lst (ad_cons (ed_var 1 rfl) (ad_one (ed_var 2 rfl)))))) r2 B.repr))
    (ss_cons (CompD.set 6 (CompD.at (cd_map swapD (own := [("_law_at", 4), ("_law_value", 5)]) (it_enum (ed_var 2 rfl) B.enumerate) (blkOk_by rfl) (tg_tup2 4 5) (by decide) rfl ⟨rfl, rfl, trivial⟩ (fun t ht => ?t1) ?l1) (enum_swap vs) rfl))
    (ss_freeze 6 rfl
    (ss_cons (sd_set 7 (ed_dictS (kvs := kv) (ED.is (ed_call (r := .list ((KM.wds 64 (pairsOf vs) []).map encW)) D4.mono (ad_cons (ed_var 6 rfl) (ad_one (ED.is ed_str ?e0))) ⟨pairsOf vs, [], rfl, pairsOf_ok sv hl, by omega, by omega, by decide, rfl⟩) (congrArg PyData.list (kvsW_T vs))) knd hdict))
    (ss_wk (L1 := A) .refl
    (ss_cons (CompD.set 9 (CompD.at (cd_map (wordD vs) (own := [("_law_spot", 8)]) (it_range1 (n := (n : Int)) (ED.is (ed_len (ds := vs.map .int) (ED.ld (ed_var 2 rfl)) B.len) ?e1) (by omega) B.range) (blkOk_by rfl) (tg_name 8) (by decide) rfl ⟨rfl, trivial⟩ (fun t ht => ?t2) ?l2) ?e2 rfl))
    (ss_freeze 9 (ds := tl) rfl
    (ss_cons (sd_if (k := false) (CD.bd (CD.is (cd_neD (d1 := .list tl) (d2 := .list tl) (ed_var 9 rfl) (ED.hd (FD.ed (FD.is (ds2 := tl) (CompD.fd (cd_map (wordD vs) (own := [("_law_spot", 8)]) (it_range1 (n := (n : Int)) (ED.is (ed_len (ds := vs.map .int) (ED.ld (ed_var 2 rfl)) B.len) ?e3) (by omega) B.range) (blkOk_by rfl) (tg_name 8) (by decide) rfl ⟨rfl, trivial⟩ (fun t ht => ?t3) ?l3)) ?e4))) (dtl.shaped (by decide)) (dtl.shaped (by decide))) ?ne1)) (fun z => by cases z) fun _ => ss_nil)
    (ss_wk (L1 := A9) ?wkA (ss_cons (L1 := A9) (sd_if (L := A9) (k := false) ?second (fun z => by cases z) fun _ => ss_nil)
    (ss_cons (sd_new 10 (FD.is (ds2 := pv.map fun (n : Nat) => PyData.int (n : Int)) (fd_sorted (rs := pv.map fun (n : Nat) => (n : Int)) (ED.ld (ED.is (d2 := .list (((KM.mk Prod.fst pl 64 (fst0 pl) (pairsOf vs)).map (·.2)).map (fun (n : Nat) => (n : Int)) |>.map .int)) (ed_call (r := natsD ((KM.mk Prod.fst pl 64 (fst0 pl) (pairsOf vs)).map (·.2))) D5.mono (ad_cons (ed_var 1 rfl) (ad_cons (ED.is (d2 := encE (fst0 pl)) (ed_ixL (d := encE (fst0 pl)) (n := if (pl.map encT).isEmpty then 1 else 0) (FD.ed (fd_lst (ad_cons ed_int (ad_one ed_non)))) (ed_intB (CD.ed (CD.is (cd_eqD (d2 := .list []) (ed_var 1 rfl) (ED.hd (FD.ed (fd_lst ad_nil))) ((ds_plan ok).shaped (by decide)) rfl) eqv_nil)) B.int) ?idx) rfl) (ad_one (ed_var 6 rfl)))) ⟨pl, _, pairsOf vs, rfl, ok, okE_fst0 pl, pairsOf_ok sv hl, by omega, by omega, rfl⟩) ?e5)) ?srt hsorted) ?e6))
    (ss_freeze 10 rfl
    (ss_wk (L1 := C) ?wkC
    (ss_scratch1 11 (ds := pv.map fun (n : Nat) => PyData.int (n : Int)) (us := pv.map fun (n : Nat) => PyData.int (n : Int))
      (fd_call (F := famOf P w K mg base n_law_right "_law_right" (defScope s_law_right) f 67) S1.mono (ad_cons (ed_var 1 rfl) (ad_one (ed_var 2 rfl))) ⟨pl, vs, rfl, ok, hl, by rw [hpv]⟩)
      (fd_callK0 S2.mono (kd_cons (ed_var 2 rfl) (kd_cons (ed_var 1 rfl) kd_nil)) ⟨pl, vs, rfl, ok, hl, by rw [hpv]⟩)
      (show SD allZ _ _ CS (.nx CS) from ?m1) (show SsD [0] _ _ C _ from ?rest) ?ml)))))))))))))))
  case ix =>
    rw [hmo]
    unfold mostD
    have : numD d1 % 2 = 0 ∨ numD d1 % 2 = 1 := by omega
    rcases this with h | h <;> rw [h] <;> rfl
  case t1 =>
    obtain ⟨i, e, he, rfl⟩ := enumD_mem ht
    exact ⟨⟨_, _, rfl⟩, ed_tup (ad_cons (ed_var 5 rfl) (ad_one (ed_var 4 rfl)))⟩
  case l1 =>
    unfold enumD
    rw [List.length_mapIdx, List.length_map]
    omega
  case e0 => rfl
  case e1 => rw [List.length_map, hn]
  case e3 => rw [List.length_map, hn]
  case t2 =>
    obtain ⟨p, hp, rfl⟩ := rg_at ht
    exact ⟨trivial, ed_call W1.mono (ad_cons (ed_var 2 rfl) (ad_one (ed_var 8 rfl))) ⟨vs, p, rfl, hl, by omega, rfl⟩⟩
  case l2 =>
    rw [List.length_map, List.length_range]
    omega
  case e2 =>
    rw [htl, List.map_map, Int.toNat_natCast]
    rfl
  case t3 =>
    obtain ⟨p, hp, rfl⟩ := rg_at ht
    exact ⟨trivial, ed_ixS (kvs := kv) (ed_var 7 rfl) (ed_var 8 rfl) knd (kvsW_at (by omega) hl)⟩
  case l3 =>
    rw [List.length_map, List.length_range]
    omega
  case e4 =>
    rw [htl, List.map_map, Int.toNat_natCast]
    rfl
  case ne1 =>
    show (!PyData.eqvAll tl tl) = false
    rw [tls]
    rfl
  case wkA => exact .refl
  case idx => cases pl <;> rfl
  case e5 =>
    unfold natsD
    rw [nats_ints]
  case srt =>
    rw [hpv]
    exact ⟨(piv_perm pl hl).map _, piv_sorted pl vs⟩
  case e6 =>
    rw [List.map_map]
    rfl
  case wkC => exact .refl
  case ml =>
    rw [List.length_map]
    omega
  case second =>
    by_cases h0 : vs = []
    · exact WD.bd (wd_andF (CD.bd (CD.is (cd_neD (d2 := .list []) (ed_var 2 rfl) (ED.hd (FD.ed (fd_lst ad_nil))) (dv.shaped (by decide)) rfl) (by rw [h0]; rfl))))
    · have hp : n - 1 < vs.length := by
        have : 0 < vs.length := by
          cases vs with
          | nil => exact absurd rfl h0
          | cons a l => exact Nat.succ_pos _
        omega
      have e : (n : Int) - 1 = ((n - 1 : Nat) : Int) := by omega
      refine BD.is (bd_and2 (k := true) (l := false) (CD.bd (CD.is (cd_neD (d2 := .list []) (ed_var 2 rfl) (ED.hd (FD.ed (fd_lst ad_nil))) (dv.shaped (by decide)) rfl) ?_)) fun _ => CD.bd (CD.is (cd_neS (ed_callK0 (r := .str (wS (wordN vs (n - 1)))) W2.mono (kd_cons (ED.is (d2 := .int ((n - 1 : Nat) : Int)) (ed_sub (m := (n : Int)) (ED.is (ed_len (ds := vs.map .int) (ED.ld (ed_var 2 rfl)) B.len) ?_) ed_int) ?_) (kd_cons (ed_var 2 rfl) kd_nil)) ⟨vs, n - 1, rfl, hl, hp, rfl⟩)
        (ed_ixS (kvs := kv) (ed_var 7 rfl) (ED.is (d2 := .int ((n - 1 : Nat) : Int)) (ed_sub (m := (n : Int)) (ED.is (ed_len (ds := vs.map .int) (ED.ld (ed_var 2 rfl)) B.len) ?_) ed_int) ?_) knd (kvsW_at hp hl))) (dne _))) rfl
      · cases vs with
        | nil => exact absurd rfl h0
        | cons a l => rfl
      · rw [List.length_map, hn]
      · exact congrArg PyData.int e
      · rw [List.length_map, hn]
      · exact congrArg PyData.int e
  case m1 =>
    exact sd_if (k := false) (bd_or2 (k := false) (l := false) (CD.bd (CD.is (cd_neS (ed_repr (ED.hd (ed_var 11 rfl)) r3 B.repr) (ed_repr (ED.hd (FD.ed (fd_lst (ad_cons (ed_var 10 rfl) (ad_one (ed_var 10 rfl)))))) r3 B.repr)) (dne _)))
      fun _ => CD.bd (CD.is (cd_neS (ed_repr (ED.hd (FD.ed (fd_lst (ad_cons (ed_var 1 rfl) (ad_one (ed_var 2 rfl)))))) r2 B.repr) (ed_var 3 rfl)) (dne _))) (fun z => by cases z) fun _ => ss_nil
  case rest =>
    have pp : PyData.eqv (natsD pv) (natsD pv) = true := by
      unfold natsD
      rw [nats_ints]
      exact (eqv_ints _ _).trans (decide_eq_true rfl)
    refine ss_cons (sd_if (k := false) (CD.bd (CD.is (cd_neD (d1 := natsD pv) (d2 := natsD pv) (FD.ed (fd_call (rs := pv.map fun (n : Nat) => PyData.int (n : Int)) S1.mono (ad_cons (ed_var 1 rfl) (ad_one (ed_var 2 rfl))) ⟨pl, vs, rfl, ok, hl, by rw [hpv]⟩)) (ED.hd (ed_var 10 rfl)) (shp_nats _) (shp_nats _)) ?np)) (fun z => by cases z) fun _ => ss_nil)
      (ss_cons (sd_forC (L1 := C) (it_list (its := badB n) (FD.ed (fd_lst ?items (by show 8 ≤ _; decide)))) (tg_name 12) rfl fun t ht => ?b1)
      (ss_cons (sd_forC (L1 := C) (it_list (its := oddN vs) (FD.ed (fd_call D6.mono (ad_one (ed_var 2 rfl)) ⟨vs, rfl, hl, rfl⟩))) (tg_tup2 12 13) rfl fun t ht => ?b2)
      (ss_one (sd_ret (ED.is (CD.ed (cd_eqS (ed_repr (ED.hd (FD.ed (fd_lst (ad_cons (ed_var 1 rfl) (ad_one (ed_var 2 rfl)))))) r2 B.repr) (ed_var 3 rfl))) ?fin)))))
    case np =>
      rw [pp]
      rfl
    case items =>
      exact ad_cons (ED.is (ed_len (ds := vs.map .int) (ED.ld (ed_var 2 rfl)) B.len) (by rw [List.length_map, hn])) (ad_cons (ed_neg ed_int) (ad_cons ed_non (ad_cons ed_bl (ad_cons ed_bl (ad_cons ed_str (ad_cons (FD.ed (fd_lst (ad_one ed_int))) (ad_one (ED.is (ed_powW (m := 10) (n := 19) ⟨by decide, by decide +kernel⟩ ed_int ed_int) rfl))))))))
    case fin => exact congrArg PyData.bool (decide_eq_true rfl)
    case b1 =>
      obtain ⟨q1, q2, q3⟩ := badB_ok hn60 ht
      have ro : ReprOk (.list [.str "place", t]) := (Ds.list (Ds.cons (Ds.str (n := 10) (k := 2) (x := "place") (by decide) (by decide)) (Ds.cons q3 Ds.nil))).reprOk (by decide) (by decide) rfl
      refine ⟨trivial, ss_nxwk (L1 := C.set 12 (.va t)) (.keep (.keep (.keep (.keep (.keep (.keep (.keep (.keep (.keep (.keep (.keep (.keep (.drop (.keep (.keep .nil)))))))))))))))
        (ss_one (sd_if (k := false) (CD.bd (CD.is (cd_neS (ed_call (r := .str (PyData.list [.str "place", t]).shown) D7.mono (ad_cons (ed_var 2 rfl) (ad_one (ed_var 12 rfl))) ⟨_, t, rfl, .inr ⟨vs, rfl, q1, hl, by rw [← hn]; exact q2, ro, rfl⟩⟩) (ed_repr (ED.hd (FD.ed (fd_lst (ad_cons ed_str (ad_one (ed_var 12 rfl)))))) ro B.repr)) (dne _))) (fun z => by cases z) fun _ => ss_nil))⟩
    case b2 =>
      obtain ⟨t, i, rfl, q1, q2, q3, q4⟩ := oddN_ok hl ht
      have ro : ReprOk (.list [.str "values", i]) := (Ds.list (Ds.cons (Ds.str (n := 10) (k := 0) (x := "values") (by decide) (by decide)) (Ds.cons q4 Ds.nil))).reprOk (by decide) (by decide) rfl
      refine ⟨⟨_, _, rfl⟩, ss_nxwk (L1 := (C.set 12 (.va t)).set 13 (.va i)) (.keep (.keep (.keep (.keep (.keep (.keep (.keep (.keep (.keep (.keep (.keep (.keep (.drop (.drop (.keep .nil)))))))))))))))
        (ss_one (sd_if (k := false) (CD.bd (CD.is (cd_neD (d1 := .list []) (d2 := .list []) (FD.ed (FD.is (ds2 := []) (CompD.fd (cd_filter (fun d => d) (fun _ => false) (own := [("_law_thing", 14)]) (it_list (its := [.none, .int 0]) (FD.ed (fd_lst (ad_cons ed_non (ad_one ed_int))))) (blkOk_by rfl) (tg_name 14) (by decide) rfl ⟨rfl, trivial⟩ (fun d hd => ?tt) (by decide))) ?ff)) (ED.hd (FD.ed (fd_lst ad_nil))) rfl rfl) rfl)) (fun z => by cases z) fun _ => ss_nil))⟩
      case tt =>
        exact ⟨trivial, CD.bd (CD.is (cd_neS (ed_call (r := .str (PyData.list [.str "values", i]).shown) D7.mono (ad_cons (ed_var 12 rfl) (ad_one (ed_var 14 rfl))) ⟨t, d, rfl, .inl ⟨i, q1, q2, q3, ro, rfl⟩⟩) (ed_repr (ED.hd (FD.ed (fd_lst (ad_cons ed_str (ad_one (ed_var 13 rfl)))))) ro B.repr)) (dne _)), fun z => by cases z⟩
      case ff => rfl
end
end K2
namespace K2
open PySem PyProof.Rows L2 DL
/-! ### the whole -/
def cellsD (ns : List Int) : List PyData := DL.cutD (ns.map PyData.int) none (some 6) ++ [.int 0]
theorem cells_int {ns : List Int} {d : PyData} (h : d ∈ cellsD ns) : ∃ c, d = .int c := by
  rcases List.mem_append.mp h with h | h
  · have h1 := List.mem_of_mem_drop (List.mem_of_mem_take h)
    obtain ⟨c, _, rfl⟩ := List.mem_map.mp h1
    exact ⟨c, rfl⟩
  · exact ⟨0, List.mem_singleton.mp h⟩
theorem cells_len {ns : List Int} (h : ns.length ≤ 63) : (cellsD ns).length ≤ 64 := by
  unfold cellsD DL.cutD
  rw [List.length_append, List.length_take, List.length_drop, List.length_map]
  show min _ _ + 1 ≤ 64
  omega
def scrC (K : PySem.W.Frag) (i : Nat) (ns : List Int) (σ : L2.St) (H : Hp) : Prop := ∃ a, σ[i]? = some (some (.ref a)) ∧ SqL K H a (ns.map V.int)
theorem itc_script {F : Fam} {tg : Expr} {n : Nat} {ns : List Int} {p1 p3 p4 p5 p6 c1 c2 : Pos} {j1 j2 : Nat} {x : Str} (hl : ns.length ≤ 63) (hN : F.N[0]? = some x) (hv : Vis F.sc x) (hd : (x == ("__debug__" : Str)) = false) (hcd : (x == ("__classdict__" : Str)) = false) :
    ItC (scrC F.K 0 ns) F tg (.BinOp (.Subscript (.Name x p1) (.Slice none (some (.Constant (.int 6) j1 c1)) none p3) p4) .Add (.List [.Constant (.int 0) j2 c2] p5) p6) (noL n) (cellsD ns) := by
  obtain ⟨tb, qb, rb⟩ := fd_lst (F := F) (L := noL n) (pos := p5) (ad_one (ed_int (F := F) (L := noL n) (n := 0) (j := j2) (pos := c2)))
  refine ⟨_, plf F (fun j => pe_op op_cat (pe_slice (slLf F j) (pvF F 0 hN hv hd hcd j) po_none (po_some pe_int)) (qb j)), fun σ G H S cH R q => ?_⟩
  obtain ⟨a, e1, sq⟩ := cH
  have rp0 : ∀ G : Hp, RpA G (cutV (ns.map V.int) none (some 6)) (DL.cutD (ns.map PyData.int) none (some 6)) := fun G => RpA.cut (RpA.ints ns) none (some 6)
  refine ⟨.ref a, e1, 6, rfl, a, _, rfl, sq, fun p hp => ?_⟩
  obtain ⟨S1, T1⟩ := S.new (o := .lst (cutV (ns.map V.int) none (some 6))) hp
  refine rb σ G _ S1 _ fun p2 xs2 G3 H3 S3 T3 hp2 hp2' gp2 rp2 => ?_
  obtain ⟨k1, k2⟩ := T3.fr p _ upd_same (S.gn hp) noL_own pl_lst
  have hlen : (cutV (ns.map V.int) none (some 6)).length + xs2.length ≤ sizeLine := by
    rw [(rp0 G).len, rp2.len]
    have := cells_len hl
    unfold cellsD at this
    rw [List.length_append] at this
    exact Nat.le_trans this (by decide)
  refine ⟨p, p2, _, xs2, rfl, rfl, k1, hp2', hlen, fun p3 hp3 => ?_⟩
  obtain ⟨S4, T4⟩ := S3.new (o := .lst (cutV (ns.map V.int) none (some 6) ++ xs2)) hp3
  have TT := (T1.trans T3).trans T4
  obtain ⟨S5, g5⟩ := S4.freeze (p := p3) upd_same (S3.gn hp3) noL_own
  have T5 : Te (noL n) σ G H (noL n) (upd G3 p3 (.lst (cutV (ns.map V.int) none (some 6) ++ xs2))) (upd H3 p3 (.lst (cutV (ns.map V.int) none (some 6) ++ xs2))) := by
    refine ⟨TT.g.trans g5, fun b o h g nn t => ?_, TT.ow, TT.th.trans (.frz nt_lst)⟩
    obtain ⟨f1, f2⟩ := TT.fr b o h g nn t
    refine ⟨f1, ?_⟩
    rw [upd_ne (ne_of_none h ((T1.trans T3).back hp3))]
    exact f2
  have rr : RpA (upd G3 p3 (.lst (cutV (ns.map V.int) none (some 6) ++ xs2))) (cutV (ns.map V.int) none (some 6) ++ xs2) (cellsD ns) := ((rp0 _).app (rp2.up g5))
  have sq2 : ∀ {G2 H2 : Hp}, Same (upd G3 p3 (.lst (cutV (ns.map V.int) none (some 6) ++ xs2))) G2 → Same G2 H2 → H2 p3 = some (.lst (cutV (ns.map V.int) none (some 6) ++ xs2)) := fun g gh => gh _ _ (g _ _ upd_same)
  refine ⟨p3, rfl, ⟨_, SqL.of upd_same⟩, q _ _ _ S5 T5 fun i G2 H2 g gh => ⟨fun hi => ⟨_, SqL.of (sq2 g gh), by rw [rr.len]; exact hi⟩, fun d hd => ?_⟩⟩
  obtain ⟨v, hv, rv⟩ := rr.get hd
  refine ⟨⟨_, v, SqL.of (sq2 g gh), hv⟩, fun x H3 hy => .inl ⟨hy.1, ?_⟩⟩
  have e1 := hy.2 _ (SqL.of (sq2 g gh))
  rw [hv] at e1
  cases e1
  exact rv.up g
def frD : PyData → List PyData
  | .int c => encD (draw0 c)
  | _ => []
theorem turns_k (d : Dr) : ∀ j, (itr turnD j d).k ≤ d.k + 91 * j
  | 0 => Nat.le_refl _
  | j + 1 => by
    have h1 := turns_k d j
    have h2 := (turn_ok (itr turnD j d)).2.2.2.2
    show (turnD (itr turnD j d)).k ≤ _
    omega
section
variable {P : Program} {w : World} {K : PySem.W.Frag} {mg : Str → Option Value} {base : Heap} {f : Addr} {fd : FuncData} {k : Nat}
def forB : List Stmt := match (defBody slaw).getD 0 (.Pass ⟨0, 0, 0, 0⟩) with
  | .For _ _ b _ _ => b
  | _ => []
def forE : Expr := match (defBody slaw).getD 0 (.Pass ⟨0, 0, 0, 0⟩) with
  | .For _ e _ _ _ => e
  | _ => .Constant .none 0 ⟨0, 0, 0, 0⟩
def forS : Scope := match forE with
  | .ListComp _ _ s _ => s
  | _ => defScope slaw
def forP : Pos := match (defBody slaw).getD 0 (.Pass ⟨0, 0, 0, 0⟩) with
  | .For (.Name _ p) _ _ _ _ => p
  | _ => ⟨0, 0, 0, 0⟩
def forQ : Pos := match (defBody slaw).getD 0 (.Pass ⟨0, 0, 0, 0⟩) with
  | .For _ _ _ _ p => p
  | _ => ⟨0, 0, 0, 0⟩
def spLaw (K : PySem.W.Frag) : Sp := fun vs H Q _ => ∃ (a : Addr) (ns : List Int), vs = [.ref a] ∧ ns.length ≤ 63 ∧ SqL K H a (ns.map V.int) ∧ ∀ H', Q (.bl true) H'
def farN : Int := 10 ^ 20 - 1
theorem f_law (Fn : Fun K "law" "law" slaw f fd) (B : Bt mg) (D1 : Df P w K mg base "_law_draws" 1 (spL RDr)) (D2 : Df P w K mg base "_law_right" 68 (spM RRi))
    (W1 : Df P w K mg base "word_of" 6 (spD RWo)) (S1 : Df P w K mg base "pivots" 6 (spL RPi)) :
    FnG P w K mg base 69 f fd ["_law_script"] (spLaw K) := by
  obtain ⟨oc, od, kV, doc, pm, an, cdv, ct, osl, rfl, lk, hcd⟩ := Fn.ex
  refine fnBody lk hcd claw (fun vs H Q E h => ?_) fun vs H Q h => ?_
  · obtain ⟨a, ns, rfl, _⟩ := h
    rfl
  obtain ⟨a, ns, rfl, hl, sq, hQ⟩ := h
  let F := famOf P w K mg base nlaw "law" (defScope slaw) f 68
  have loop := for_fresh (F := F) (C := scrC K 0 ns) (n := 6) (its := cellsD ns) (body := forB) (le := forE) (x := "_law_draws_here") (px := forP) (fp := forQ) 2 frD rfl ?row (fun d hd => ?body) (fun _ _ => rfl)
  have rest : SsD [] F ((defBody slaw).drop 1) (noL 6) (.rt (.bool true) ((noL 6).set 4 (.va (.int farN)))) := ?rest
  · obtain ⟨t1, q1, r1⟩ := loop
    obtain ⟨t2, q2, r2⟩ := rest
    refine ⟨_, fun j => pss_cons (q1 j) (q2 j), ?_⟩
    have S0 : Sta (noL 6) (L2.start nlaw [V.ref a]) (fun _ => none) H := staNo rfl fun b o h => by cases h
    refine r1 _ _ H S0 ⟨a, rfl, sq⟩ _ fun σ' G' H' S' T' A' => ?_
    refine r2 σ' G' H' S' _ fun v σ2 G2 H2 S2 T2 A2 rv => ?_
    cases rv
    exact hQ H2
  case row =>
    exact comp_fresh (own := [("_law_cell", 1)]) (T := [1]) frD rfl (itc_script hl rfl (by first | exact Or.inl rfl | exact Or.inr (Or.inl rfl) | exact Or.inr (Or.inr rfl)) (by decide) (by decide)) (blkOk_by rfl) (tg_name 1) (by decide)
      (fun d hd => by
        obtain ⟨c, rfl⟩ := cells_int hd
        refine ⟨trivial, fun k ds h => ?_, fd_call (F := F.blk forS) D1.mono (ad_one (ed_var 1 rfl)) ⟨c, rfl, rfl⟩⟩
        match k, h with
        | 0, h => cases h
        | 1, h => cases h
        | 2, h => cases h
        | 3, h => cases h
        | 4, h => cases h
        | 5, h => cases h)
      (Nat.le_trans (cells_len hl) (by decide)) (by exact of_decide_eq_true rfl) (fun _ _ => rfl)
  case body =>
    obtain ⟨c, rfl⟩ := cells_int hd
    let M : Nat → List Sl := fun j => [.no, .no, .ow (encD (itr turnD j (draw0 c))), .no, .no, .no]
    refine ss_nxwk (L1 := M 3) (.keep (.keep (.drop (.keep (.keep (.keep .nil)))))) (ss_one (SD.to (sd_forAll M (it_range1 (n := 3) ed_int (by decide) B.range) (tg_name 3) (fun _ => rfl) fun j t hj => ⟨trivial, .inl ?turn⟩) (L2' := M 3) rfl))
    case turn =>
      obtain ⟨rfl, hj3⟩ := rgGet hj
      have hk := turns_k (draw0 c) j
      have h0 : (draw0 c).k = 0 := rfl
      refine ss_nxwk (L1 := [.no, .no, .ow (encD (itr turnD (j + 1) (draw0 c))), .va (.int (j : Int)), .no, .no]) (.keep (.keep (.keep (.drop (.keep (.keep .nil))))))
        (ss_one (sd_if (k := false) (bd_not (k := true) (bd_val (ed_callM (L' := [.no, .no, .ow (encD (itr turnD j (draw0 c))), .va (.int (j : Int)), .no, .no]) (ms := encD (itr turnD j (draw0 c))) (r := .bool true) (ms' := encD (itr turnD (j + 1) (draw0 c))) 2 D2 rfl ad_nil ⟨itr turnD j (draw0 c), rfl, rfl, by omega, rfl⟩))) (fun z => by cases z) fun _ => ss_nil))
  case rest =>
    let L : List Sl := (noL 6).set 4 (.va (.int farN))
    have c0 : okP [(some 0, some 0)] := ⟨by decide, fun t ht => by
      rw [List.mem_singleton.mp ht]
      exact ⟨fun n e => by cases e; decide, fun n e => by cases e; decide⟩⟩
    have c1 : okP [] := ⟨by decide, fun t ht => by cases ht⟩
    have c2 : okP [(none, some 0)] := ⟨by decide, fun t ht => by
      rw [List.mem_singleton.mp ht]
      exact ⟨fun n e => (nomatch e), fun n e => by cases e; decide⟩⟩
    have w0 : wordN [farN, 0, -farN] 0 = [] := by decide +kernel
    have w1 : wordN [farN, 0, -farN] 1 = [true] := by decide +kernel
    have w2 : wordN [farN, 0, -farN] 2 = [true, true] := by decide +kernel
    have w3 : wordN [-farN, farN] 1 = [false] := by decide +kernel
    have p1 : pivN [(none, some 0)] [farN, 0] = [0] := by decide +kernel
    have p2 : pivN [] [1, 2] = [] := by decide +kernel
    have p3 : pivN [(some 0, some 0)] [] = [] := by decide +kernel
    have s0 : ("" : Str) = wS [] := by decide +kernel
    have s1 : ("l" : Str) = wS [true] := by decide +kernel
    have s2 : ("ll" : Str) = wS [true, true] := by decide +kernel
    have s3 : ("r" : Str) = wS [false] := by decide +kernel
    have sq : ∀ ns : List Int, SeqAt.shaped (.list (ns.map PyData.int)) = true := fun ns => PySem.W.ke_shaped_ints ns
    have ss : SeqAt.shaped (.list [.str "", .str "l", .str "ll"]) = true := (Ds.list (Ds.cons (Ds.str (n := 5) (k := 0) (x := "") (by decide) (by decide)) (Ds.cons (Ds.str (n := 5) (x := "l") (by decide) (by decide)) (Ds.cons (Ds.str (n := 5) (x := "ll") (by decide) (by decide)) Ds.nil)))).shaped (by decide)
    refine ss_cons (L1 := L) (sd_set 4 (ED.is (d2 := .int farN) (ed_sub (m := 10 ^ 20) (n := 1) (ED.is (ed_powW (m := 10) (n := 20) ⟨by decide, by decide +kernel⟩ ed_int ed_int) rfl) ed_int) rfl))
      (ss_cons (sd_if (k := false) (CD.bd (CD.is (cd_neD (d1 := .list [.str "", .str "l", .str "ll"]) (d2 := .list [.str "", .str "l", .str "ll"]) (FD.ed (FD.is (CompD.fd (cd_map (L1 := L) (wordD [farN, 0, -farN]) (own := [("_law_at", 5)]) (it_range1 (n := ((3 : Nat) : Int)) ed_int (by decide) B.range) (blkOk_by rfl) (tg_name 5) (by decide) rfl ⟨rfl, trivial⟩ (fun t ht => ?tw) (by decide))) ?ew)) (ED.hd (FD.ed (fd_lst (ad_cons ed_str (ad_cons ed_str (ad_one ed_str)))))) ss ss) ?n1)) (fun z => by cases z) fun _ => ss_nil)
      (ss_cons (sd_if (k := false) (bd_or2 (k := false) (l := false)
          (CD.bd (CD.is (cd_neD (d1 := .list ([0].map .int)) (d2 := .list ([0].map .int)) (FD.ed (FD.is (fd_call (rs := pivL [(none, some 0)] [farN, 0]) S1.mono (ad_cons (FD.ed (fd_lst (ds := [encT (none, some 0)]) (ad_one (ed_tup (ad_cons ed_non (ad_one ed_int)))))) (ad_one (FD.ed (fd_lst (ds := [farN, 0].map PyData.int) (ad_cons (ed_var 4 rfl) (ad_one ed_int)))))) ⟨_, [farN, 0], rfl, c2, by decide, rfl⟩) ?ep1)) (ED.hd (FD.ed (fd_lst (ds := [0].map PyData.int) (ad_one ed_int)))) (sq _) (sq _)) ?n2))
          fun _ => CD.bd (CD.is (cd_neS (ed_call (r := .str (wS (wordN [-farN, farN] 1))) W1.mono (ad_cons (FD.ed (fd_lst (ds := [-farN, farN].map PyData.int) (ad_cons (ed_neg (ed_var 4 rfl)) (ad_one (ed_var 4 rfl))))) (ad_one ed_int)) ⟨[-farN, farN], 1, rfl, by decide, by decide, rfl⟩) ed_str) ?n3)) (fun z => by cases z) fun _ => ss_nil)
      (ss_one (sd_ret (ED.is (ed_and2 (k := true) (l := true) (ED.is (CD.ed (cd_eqD (d1 := .list []) (d2 := .list []) (FD.ed (FD.is (fd_call (rs := pivL [] [1, 2]) S1.mono (ad_cons (FD.ed (fd_lst ad_nil)) (ad_one (FD.ed (fd_lst (ds := [1, 2].map PyData.int) (ad_cons ed_int (ad_one ed_int)))))) ⟨[], [1, 2], rfl, c1, by decide, rfl⟩) ?ep2)) (ED.hd (FD.ed (fd_lst ad_nil))) rfl rfl)) rfl)
          fun _ => ED.is (CD.ed (cd_eqD (d1 := .list []) (d2 := .list []) (FD.ed (FD.is (fd_call (rs := pivL [(some 0, some 0)] []) S1.mono (ad_cons (FD.ed (fd_lst (ds := [encT (some 0, some 0)]) (ad_one (ed_tup (ad_cons ed_int (ad_one ed_int)))))) (ad_one (FD.ed (fd_lst ad_nil)))) ⟨_, [], rfl, c0, by decide, rfl⟩) ?ep3)) (ED.hd (FD.ed (fd_lst ad_nil))) rfl rfl)) rfl) rfl)))))
    case tw =>
      obtain ⟨p, hp, rfl⟩ := rg_at ht
      exact ⟨trivial, ed_call W1.mono (ad_cons (FD.ed (fd_lst (ds := [farN, 0, -farN].map PyData.int) (ad_cons (ed_var 4 rfl) (ad_cons ed_int (ad_one (ed_neg (ed_var 4 rfl))))))) (ad_one (ed_var 5 rfl))) ⟨[farN, 0, -farN], p, rfl, by decide, hp, rfl⟩⟩
    case ew =>
      show [PyData.str (wS (wordN [farN, 0, -farN] 0)), .str (wS (wordN [farN, 0, -farN] 1)), .str (wS (wordN [farN, 0, -farN] 2))] = _
      rw [w0, w1, w2, s0, s1, s2]
    case n1 => decide +kernel
    case ep1 =>
      unfold pivL
      rw [p1]
      rfl
    case n2 => decide +kernel
    case n3 =>
      rw [w3, s3]
      simp
    case ep2 =>
      unfold pivL
      rw [p2]
      rfl
    case ep3 =>
      unfold pivL
      rw [p3]
      rfl
end
end K2
namespace K2
open PySem PyProof.Rows L2 DL
theorem all_mk {l : PySem.W.OpenLaw} {w : World} {K : PySem.W.Frag} {h : Heap} {mg : Str → Option Value} {fa : Addr} (X : K.In h) (G : h.Ns mainGlobals mg) (hfa : mg "law" = some (.ref fa))
    {f0 f1 f2 f3 f4 f5 f6 f7 f8 f9 f10 f11 f12 f13 f14 f15 f16 f17 f18 f19 f20 f21 f22 f23 f24 : Addr}
    {od0 an0 od1 an1 od2 an2 od3 an3 od4 an4 od5 an5 od6 an6 od7 an7 od8 an8 od9 an9 od10 an10 od11 an11 od12 an12 od13 an13 od14 an14 od15 an15 od16 an16 od17 an17 od18 an18 od19 an19 od20 an20 od21 an21 od22 an22 od23 an23 od24 an24 : Option Addr} {sl0 sl1 sl2 sl3 sl4 sl5 sl6 sl7 sl8 sl9 sl10 sl11 sl12 sl13 sl14 sl15 sl16 sl17 sl18 sl19 sl20 sl21 sl22 sl23 sl24 : Array (Option Value)}
    {oc0 kV0 dc0 pm0 cd0 ct0 oc1 kV1 dc1 pm1 cd1 ct1 oc2 kV2 dc2 pm2 cd2 ct2 oc3 kV3 dc3 pm3 cd3 ct3 oc4 kV4 dc4 pm4 cd4 ct4 oc5 kV5 dc5 pm5 cd5 ct5 oc6 kV6 dc6 pm6 cd6 ct6 oc7 kV7 dc7 pm7 cd7 ct7 oc8 kV8 dc8 pm8 cd8 ct8 oc9 kV9 dc9 pm9 cd9 ct9 oc10 kV10 dc10 pm10 cd10 ct10 oc11 kV11 dc11 pm11 cd11 ct11 oc12 kV12 dc12 pm12 cd12 ct12 oc13 kV13 dc13 pm13 cd13 ct13 oc14 kV14 dc14 pm14 cd14 ct14 oc15 kV15 dc15 pm15 cd15 ct15 oc16 kV16 dc16 pm16 cd16 ct16 oc17 kV17 dc17 pm17 cd17 ct17 oc18 kV18 dc18 pm18 cd18 ct18 oc19 kV19 dc19 pm19 cd19 ct19 oc20 kV20 dc20 pm20 cd20 ct20 oc21 kV21 dc21 pm21 cd21 ct21 oc22 kV22 dc22 pm22 cd22 ct22 oc23 kV23 dc23 pm23 cd23 ct23 oc24 kV24 dc24 pm24 cd24 ct24 : Value}
    {u0 u1 : Tok}
    {EC0 EI0 EN0 : Addr} {enm0 eq0 : Str} {ebs0 : List Value} {esn0 : List Str} {esu0 : List Value} {eab0 : Bool} {eco0 : Option Bool} {edd0 : Option Addr} {em00 em10 em20 em30 em50 : Option Value} {eod0 ean0 : Option Addr} {esl0 : Array (Option Value)} {eoc0 ekV0 edc0 epm0 ecd0 ect0 : Value}
    {EC1 EI1 EN1 : Addr} {enm1 eq1 : Str} {ebs1 : List Value} {esn1 : List Str} {esu1 : List Value} {eab1 : Bool} {eco1 : Option Bool} {edd1 : Option Addr} {em01 em11 em21 em31 em51 : Option Value} {eod1 ean1 : Option Addr} {esl1 : Array (Option Value)} {eoc1 ekV1 edc1 epm1 ecd1 ect1 : Value}
    (a0 : PySem.W.nsIn K mainGlobals "is_whole" = some (some (.ref f0))) (l0 : K.lookup f0 = some ⟨oc0, od0, .func (PySem.W.fnOf "is_whole" "is_whole" (defArgs sis_whole) (defBody sis_whole) (defScope sis_whole) .none kV0 dc0 pm0 an0 cd0 ct0), sl0⟩) (c0 : PySem.W.codeIn K cd0 "is_whole" = true) (k0 : PySem.W.keepIn K (.ref f0) = true)
    (a1 : PySem.W.nsIn K mainGlobals "is_from_0_to" = some (some (.ref f1))) (l1 : K.lookup f1 = some ⟨oc1, od1, .func (PySem.W.fnOf "is_from_0_to" "is_from_0_to" (defArgs sis_from_0_to) (defBody sis_from_0_to) (defScope sis_from_0_to) .none kV1 dc1 pm1 an1 cd1 ct1), sl1⟩) (c1 : PySem.W.codeIn K cd1 "is_from_0_to" = true) (k1 : PySem.W.keepIn K (.ref f1) = true)
    (a2 : PySem.W.nsIn K mainGlobals "is_entry" = some (some (.ref f2))) (l2 : K.lookup f2 = some ⟨oc2, od2, .func (PySem.W.fnOf "is_entry" "is_entry" (defArgs sis_entry) (defBody sis_entry) (defScope sis_entry) .none kV2 dc2 pm2 an2 cd2 ct2), sl2⟩) (c2 : PySem.W.codeIn K cd2 "is_entry" = true) (k2 : PySem.W.keepIn K (.ref f2) = true)
    (a3 : PySem.W.nsIn K mainGlobals "is_pair_of_entries" = some (some (.ref f3))) (l3 : K.lookup f3 = some ⟨oc3, od3, .func (PySem.W.fnOf "is_pair_of_entries" "is_pair_of_entries" (defArgs sis_pair_of_entries) (defBody sis_pair_of_entries) (defScope sis_pair_of_entries) .none kV3 dc3 pm3 an3 cd3 ct3), sl3⟩) (c3 : PySem.W.codeIn K cd3 "is_pair_of_entries" = true) (k3 : PySem.W.keepIn K (.ref f3) = true)
    (a4 : PySem.W.nsIn K mainGlobals "check_plan" = some (some (.ref f4))) (l4 : K.lookup f4 = some ⟨oc4, od4, .func (PySem.W.fnOf "check_plan" "check_plan" (defArgs scheck_plan) (defBody scheck_plan) (defScope scheck_plan) .none kV4 dc4 pm4 an4 cd4 ct4), sl4⟩) (c4 : PySem.W.codeIn K cd4 "check_plan" = true) (k4 : PySem.W.keepIn K (.ref f4) = true)
    (a5 : PySem.W.nsIn K mainGlobals "check_values" = some (some (.ref f5))) (l5 : K.lookup f5 = some ⟨oc5, od5, .func (PySem.W.fnOf "check_values" "check_values" (defArgs scheck_values) (defBody scheck_values) (defScope scheck_values) .none kV5 dc5 pm5 an5 cd5 ct5), sl5⟩) (c5 : PySem.W.codeIn K cd5 "check_values" = true) (k5 : PySem.W.keepIn K (.ref f5) = true)
    (a6 : PySem.W.nsIn K mainGlobals "check_place" = some (some (.ref f6))) (l6 : K.lookup f6 = some ⟨oc6, od6, .func (PySem.W.fnOf "check_place" "check_place" (defArgs scheck_place) (defBody scheck_place) (defScope scheck_place) .none kV6 dc6 pm6 an6 cd6 ct6), sl6⟩) (c6 : PySem.W.codeIn K cd6 "check_place" = true) (k6 : PySem.W.keepIn K (.ref f6) = true)
    (a7 : PySem.W.nsIn K mainGlobals "first_entry" = some (some (.ref f7))) (l7 : K.lookup f7 = some ⟨oc7, od7, .func (PySem.W.fnOf "first_entry" "first_entry" (defArgs sfirst_entry) (defBody sfirst_entry) (defScope sfirst_entry) .none kV7 dc7 pm7 an7 cd7 ct7), sl7⟩) (c7 : PySem.W.codeIn K cd7 "first_entry" = true) (k7 : PySem.W.keepIn K (.ref f7) = true)
    (a8 : PySem.W.nsIn K mainGlobals "steps_until_stop" = some (some (.ref f8))) (l8 : K.lookup f8 = some ⟨oc8, od8, .func (PySem.W.fnOf "steps_until_stop" "steps_until_stop" (defArgs ssteps_until_stop) (defBody ssteps_until_stop) (defScope ssteps_until_stop) .none kV8 dc8 pm8 an8 cd8 ct8), sl8⟩) (c8 : PySem.W.codeIn K cd8 "steps_until_stop" = true) (k8 : PySem.W.keepIn K (.ref f8) = true)
    (a9 : PySem.W.nsIn K mainGlobals "word_of" = some (some (.ref f9))) (l9 : K.lookup f9 = some ⟨oc9, od9, .func (PySem.W.fnOf "word_of" "word_of" (defArgs sword_of) (defBody sword_of) (defScope sword_of) .none kV9 dc9 pm9 an9 cd9 ct9), sl9⟩) (c9 : PySem.W.codeIn K cd9 "word_of" = true) (k9 : PySem.W.keepIn K (.ref f9) = true)
    (a10 : PySem.W.nsIn K mainGlobals "pivots" = some (some (.ref f10))) (l10 : K.lookup f10 = some ⟨oc10, od10, .func (PySem.W.fnOf "pivots" "pivots" (defArgs spivots) (defBody spivots) (defScope spivots) .none kV10 dc10 pm10 an10 cd10 ct10), sl10⟩) (c10 : PySem.W.codeIn K cd10 "pivots" = true) (k10 : PySem.W.keepIn K (.ref f10) = true)
    (a11 : PySem.W.nsIn K mainGlobals "_word" = some (some (.ref f11))) (l11 : K.lookup f11 = some ⟨oc11, od11, .func (PySem.W.fnOf "_word" "_word" (defArgs s_word) (defBody s_word) (defScope s_word) .none kV11 dc11 pm11 an11 cd11 ct11), sl11⟩) (c11 : PySem.W.codeIn K cd11 "_word" = true) (k11 : PySem.W.keepIn K (.ref f11) = true)
    (a12 : PySem.W.nsIn K mainGlobals "_pivot_places" = some (some (.ref f12))) (l12 : K.lookup f12 = some ⟨oc12, od12, .func (PySem.W.fnOf "_pivot_places" "_pivot_places" (defArgs s_pivot_places) (defBody s_pivot_places) (defScope s_pivot_places) .none kV12 dc12 pm12 an12 cd12 ct12), sl12⟩) (c12 : PySem.W.codeIn K cd12 "_pivot_places" = true) (k12 : PySem.W.keepIn K (.ref f12) = true)
    (a13 : PySem.W.nsIn K mainGlobals "_law_draws" = some (some (.ref f13))) (l13 : K.lookup f13 = some ⟨oc13, od13, .func (PySem.W.fnOf "_law_draws" "_law_draws" (defArgs s_law_draws) (defBody s_law_draws) (defScope s_law_draws) .none kV13 dc13 pm13 an13 cd13 ct13), sl13⟩) (c13 : PySem.W.codeIn K cd13 "_law_draws" = true) (k13 : PySem.W.keepIn K (.ref f13) = true)
    (a14 : PySem.W.nsIn K mainGlobals "_law_next" = some (some (.ref f14))) (l14 : K.lookup f14 = some ⟨oc14, od14, .func (PySem.W.fnOf "_law_next" "_law_next" (defArgs s_law_next) (defBody s_law_next) (defScope s_law_next) .none kV14 dc14 pm14 an14 cd14 ct14), sl14⟩) (c14 : PySem.W.codeIn K cd14 "_law_next" = true) (k14 : PySem.W.keepIn K (.ref f14) = true)
    (a15 : PySem.W.nsIn K mainGlobals "_law_entry" = some (some (.ref f15))) (l15 : K.lookup f15 = some ⟨oc15, od15, .func (PySem.W.fnOf "_law_entry" "_law_entry" (defArgs s_law_entry) (defBody s_law_entry) (defScope s_law_entry) .none kV15 dc15 pm15 an15 cd15 ct15), sl15⟩) (c15 : PySem.W.codeIn K cd15 "_law_entry" = true) (k15 : PySem.W.keepIn K (.ref f15) = true)
    (a16 : PySem.W.nsIn K mainGlobals "_law_plan" = some (some (.ref f16))) (l16 : K.lookup f16 = some ⟨oc16, od16, .func (PySem.W.fnOf "_law_plan" "_law_plan" (defArgs s_law_plan) (defBody s_law_plan) (defScope s_law_plan) .none kV16 dc16 pm16 an16 cd16 ct16), sl16⟩) (c16 : PySem.W.codeIn K cd16 "_law_plan" = true) (k16 : PySem.W.keepIn K (.ref f16) = true)
    (a17 : PySem.W.nsIn K mainGlobals "_law_order" = some (some (.ref f17))) (l17 : K.lookup f17 = some ⟨oc17, od17, .func (PySem.W.fnOf "_law_order" "_law_order" (defArgs s_law_order) (defBody s_law_order) (defScope s_law_order) .none kV17 dc17 pm17 an17 cd17 ct17), sl17⟩) (c17 : PySem.W.codeIn K cd17 "_law_order" = true) (k17 : PySem.W.keepIn K (.ref f17) = true)
    (a18 : PySem.W.nsIn K mainGlobals "_law_list" = some (some (.ref f18))) (l18 : K.lookup f18 = some ⟨oc18, od18, .func (PySem.W.fnOf "_law_list" "_law_list" (defArgs s_law_list) (defBody s_law_list) (defScope s_law_list) .none kV18 dc18 pm18 an18 cd18 ct18), sl18⟩) (c18 : PySem.W.codeIn K cd18 "_law_list" = true) (k18 : PySem.W.keepIn K (.ref f18) = true)
    (a19 : PySem.W.nsIn K mainGlobals "_law_odd_lists" = some (some (.ref f19))) (l19 : K.lookup f19 = some ⟨oc19, od19, .func (PySem.W.fnOf "_law_odd_lists" "_law_odd_lists" (defArgs s_law_odd_lists) (defBody s_law_odd_lists) (defScope s_law_odd_lists) .none kV19 dc19 pm19 an19 cd19 ct19), sl19⟩) (c19 : PySem.W.codeIn K cd19 "_law_odd_lists" = true) (k19 : PySem.W.keepIn K (.ref f19) = true)
    (a20 : PySem.W.nsIn K mainGlobals "_law_words" = some (some (.ref f20))) (l20 : K.lookup f20 = some ⟨oc20, od20, .func (PySem.W.fnOf "_law_words" "_law_words" (defArgs s_law_words) (defBody s_law_words) (defScope s_law_words) .none kV20 dc20 pm20 an20 cd20 ct20), sl20⟩) (c20 : PySem.W.codeIn K cd20 "_law_words" = true) (k20 : PySem.W.keepIn K (.ref f20) = true)
    (a21 : PySem.W.nsIn K mainGlobals "_law_marked" = some (some (.ref f21))) (l21 : K.lookup f21 = some ⟨oc21, od21, .func (PySem.W.fnOf "_law_marked" "_law_marked" (defArgs s_law_marked) (defBody s_law_marked) (defScope s_law_marked) .none kV21 dc21 pm21 an21 cd21 ct21), sl21⟩) (c21 : PySem.W.codeIn K cd21 "_law_marked" = true) (k21 : PySem.W.keepIn K (.ref f21) = true)
    (a22 : PySem.W.nsIn K mainGlobals "_law_told" = some (some (.ref f22))) (l22 : K.lookup f22 = some ⟨oc22, od22, .func (PySem.W.fnOf "_law_told" "_law_told" (defArgs s_law_told) (defBody s_law_told) (defScope s_law_told) .none kV22 dc22 pm22 an22 cd22 ct22), sl22⟩) (c22 : PySem.W.codeIn K cd22 "_law_told" = true) (k22 : PySem.W.keepIn K (.ref f22) = true)
    (a23 : PySem.W.nsIn K mainGlobals "_law_right" = some (some (.ref f23))) (l23 : K.lookup f23 = some ⟨oc23, od23, .func (PySem.W.fnOf "_law_right" "_law_right" (defArgs s_law_right) (defBody s_law_right) (defScope s_law_right) .none kV23 dc23 pm23 an23 cd23 ct23), sl23⟩) (c23 : PySem.W.codeIn K cd23 "_law_right" = true) (k23 : PySem.W.keepIn K (.ref f23) = true)
    (a24 : PySem.W.nsIn K mainGlobals "law" = some (some (.ref f24))) (l24 : K.lookup f24 = some ⟨oc24, od24, .func (PySem.W.fnOf "law" "law" (defArgs slaw) (defBody slaw) (defScope slaw) .none kV24 dc24 pm24 an24 cd24 ct24), sl24⟩) (c24 : PySem.W.codeIn K cd24 "law" = true) (k24 : PySem.W.keepIn K (.ref f24) = true)
    (m0 : PySem.W.nsIn K mainGlobals "MOST_PLACES" = some (some (.int 12 u0)))
    (m1 : PySem.W.nsIn K mainGlobals "MOST_VALUES" = some (some (.int 60 u1)))
    (z0 : PySem.W.nsIn K mainGlobals "isinstance" = some none)
    (z1 : PySem.W.nsIn K mainGlobals "int" = some none)
    (z2 : PySem.W.nsIn K mainGlobals "bool" = some none)
    (z3 : PySem.W.nsIn K mainGlobals "tuple" = some none)
    (z4 : PySem.W.nsIn K mainGlobals "list" = some none)
    (z5 : PySem.W.nsIn K mainGlobals "len" = some none)
    (z6 : PySem.W.nsIn K mainGlobals "enumerate" = some none)
    (z7 : PySem.W.nsIn K mainGlobals "range" = some none)
    (z8 : PySem.W.nsIn K mainGlobals "repr" = some none)
    (z9 : PySem.W.nsIn K mainGlobals "sorted" = some none)
    (z10 : PySem.W.nsIn K mainGlobals "dict" = some none)
    (ea0 : PySem.W.nsIn K mainGlobals "InvalidPlace" = some (some (.ref EC0)))
    (ex0 : K.lookup EC0 = some (excClassObj enm0 eq0 EC0 EN0 ebs0 [.type "ValueError", .type "Exception", .type "BaseException", .type "object"] true esn0 esu0 eab0 eco0 edd0 em00 em10 em20 em30 em50 "ValueError.__new__"))
    (esa0 : PySem.W.findIn K (.ref EC0) "__setattr__" = some (some (.builtin "object.__setattr__")))
    (ega0 : PySem.W.findIn K (.ref EC0) "__getattribute__" = some (some (.builtin "BaseException.__getattribute__")))
    (egg0 : PySem.W.findIn K (.ref EC0) "__getattr__" = some none)
    (eno0 : PySem.W.findIn K (.ref EC0) "place" = some none)
    (eii0 : PySem.W.findIn K (.ref EC0) "__init__" = some (some (.ref EI0)))
    (eti0 : PySem.W.typeIn K (.ref EI0) = some (.type "function"))
    (eli0 : K.lookup EI0 = some ⟨eoc0, eod0, .func (PySem.W.fnOf "__init__" "InvalidPlace.__init__" (defArgs sIPlace) (defBody sIPlace) (defScope sIPlace) .none ekV0 edc0 epm0 ean0 ecd0 ect0), esl0⟩)
    (eci0 : PySem.W.codeIn K ecd0 "InvalidPlace.__init__" = true)
    (eki0 : PySem.W.keepIn K (.ref EI0) = true)
    (ekc0 : PySem.W.keepIn K (.ref EC0) = true)
    (esb0 : PySem.W.subIn K (.ref EC0) (.type "BaseException") = some true)
    (ety0 : PySem.W.typeIn K (.ref EC0) = some (.type "type"))
    (ehd0 : PySem.W.hasDictIn K EC0 = true)
    (ecl0 : PySem.W.findIn K (.ref EC0) "__class__" = some (some (.builtin "object.__class__")))
    (emo0 : PySem.W.mroIn K EC0 (.type "object") = some true)
    (eve0 : PySem.W.subIn K (.ref EC0) (.type "ValueError") = some true)
    (ea1 : PySem.W.nsIn K mainGlobals "InvalidValues" = some (some (.ref EC1)))
    (ex1 : K.lookup EC1 = some (excClassObj enm1 eq1 EC1 EN1 ebs1 [.type "ValueError", .type "Exception", .type "BaseException", .type "object"] true esn1 esu1 eab1 eco1 edd1 em01 em11 em21 em31 em51 "ValueError.__new__"))
    (esa1 : PySem.W.findIn K (.ref EC1) "__setattr__" = some (some (.builtin "object.__setattr__")))
    (ega1 : PySem.W.findIn K (.ref EC1) "__getattribute__" = some (some (.builtin "BaseException.__getattribute__")))
    (egg1 : PySem.W.findIn K (.ref EC1) "__getattr__" = some none)
    (eno1 : PySem.W.findIn K (.ref EC1) "index" = some none)
    (eii1 : PySem.W.findIn K (.ref EC1) "__init__" = some (some (.ref EI1)))
    (eti1 : PySem.W.typeIn K (.ref EI1) = some (.type "function"))
    (eli1 : K.lookup EI1 = some ⟨eoc1, eod1, .func (PySem.W.fnOf "__init__" "InvalidValues.__init__" (defArgs sIValues) (defBody sIValues) (defScope sIValues) .none ekV1 edc1 epm1 ean1 ecd1 ect1), esl1⟩)
    (eci1 : PySem.W.codeIn K ecd1 "InvalidValues.__init__" = true)
    (eki1 : PySem.W.keepIn K (.ref EI1) = true)
    (ekc1 : PySem.W.keepIn K (.ref EC1) = true)
    (esb1 : PySem.W.subIn K (.ref EC1) (.type "BaseException") = some true)
    (ety1 : PySem.W.typeIn K (.ref EC1) = some (.type "type"))
    (ehd1 : PySem.W.hasDictIn K EC1 = true)
    (ecl1 : PySem.W.findIn K (.ref EC1) "__class__" = some (some (.builtin "object.__class__")))
    (emo1 : PySem.W.mroIn K EC1 (.type "object") = some true)
    (eve1 : PySem.W.subIn K (.ref EC1) (.type "ValueError") = some true)
    (ep0_0 : PySem.W.subIn K (.ref EC0) (.ref EC0) = some true)
    (ep0_1 : PySem.W.subIn K (.ref EC0) (.ref EC1) = some false)
    (ep1_0 : PySem.W.subIn K (.ref EC1) (.ref EC0) = some false)
    (ep1_1 : PySem.W.subIn K (.ref EC1) (.ref EC1) = some true)
    (eob1 : PySem.W.specialIn K (.builtin "object.__class__") "__get__" = some (some (.builtin "getset_descriptor.__get__")))
    (eob2 : PySem.W.takesIn K (.builtin "object.__class__") = some true)
    (evv : PySem.W.findCls K (.type "ValueError") (.type "type") "__init__" = some (.val (.builtin "ValueError.__init__")))
    (ezv : PySem.W.nsIn K mainGlobals "ValueError" = some none)
    : ∃ fd : FuncData, (∀ (s : Shared) (v : Value), BindsTo s fd ⟨[v], []⟩ [("_law_script", v)]) ∧ ∀ base : Heap, K.In base → base.Ns mainGlobals mg → FnG l.prog w K mg base 69 fa fd ["_law_script"] (spLaw K) := by
  have e := hfa.symm.trans (PySem.W.mg_of X G a24)
  cases e
  have F0 := fun_mk (st := sis_whole) l0 c0 k0
  have b0 := F0.binds (ps := ["thing"]) fun _ _ _ _ _ _ us hl => match us, hl with | [_], _ => rfl
  have F1 := fun_mk (st := sis_from_0_to) l1 c1 k1
  have b1 := F1.binds (ps := ["thing", "limit"]) fun _ _ _ _ _ _ us hl => match us, hl with | [_, _], _ => rfl
  have F2 := fun_mk (st := sis_entry) l2 c2 k2
  have b2 := F2.binds (ps := ["thing", "places"]) fun _ _ _ _ _ _ us hl => match us, hl with | [_, _], _ => rfl
  have F3 := fun_mk (st := sis_pair_of_entries) l3 c3 k3
  have b3 := F3.binds (ps := ["thing", "places"]) fun _ _ _ _ _ _ us hl => match us, hl with | [_, _], _ => rfl
  have F4 := fun_mk (st := scheck_plan) l4 c4 k4
  have b4 := F4.binds (ps := ["plan"]) fun _ _ _ _ _ _ us hl => match us, hl with | [_], _ => rfl
  have F5 := fun_mk (st := scheck_values) l5 c5 k5
  have b5 := F5.binds (ps := ["values"]) fun _ _ _ _ _ _ us hl => match us, hl with | [_], _ => rfl
  have F6 := fun_mk (st := scheck_place) l6 c6 k6
  have b6 := F6.binds (ps := ["place", "values"]) fun _ _ _ _ _ _ us hl => match us, hl with | [_, _], _ => rfl
  have F7 := fun_mk (st := sfirst_entry) l7 c7 k7
  have b7 := F7.binds (ps := ["plan"]) fun _ _ _ _ _ _ us hl => match us, hl with | [_], _ => rfl
  have F8 := fun_mk (st := ssteps_until_stop) l8 c8 k8
  have b8 := F8.binds (ps := ["plan", "steps"]) fun _ _ _ _ _ _ us hl => match us, hl with | [_, _], _ => rfl
  have F9 := fun_mk (st := sword_of) l9 c9 k9
  have b9 := F9.binds (ps := ["values", "place"]) fun _ _ _ _ _ _ us hl => match us, hl with | [_, _], _ => rfl
  have F10 := fun_mk (st := spivots) l10 c10 k10
  have b10 := F10.binds (ps := ["plan", "values"]) fun _ _ _ _ _ _ us hl => match us, hl with | [_, _], _ => rfl
  have F11 := fun_mk (st := s_word) l11 c11 k11
  have b11 := F11.binds (ps := ["values", "place"]) fun _ _ _ _ _ _ us hl => match us, hl with | [_, _], _ => rfl
  have F12 := fun_mk (st := s_pivot_places) l12 c12 k12
  have b12 := F12.binds (ps := ["plan", "values"]) fun _ _ _ _ _ _ us hl => match us, hl with | [_, _], _ => rfl
  have F13 := fun_mk (st := s_law_draws) l13 c13 k13
  have b13 := F13.binds (ps := ["_law_cell"]) fun _ _ _ _ _ _ us hl => match us, hl with | [_], _ => rfl
  have F14 := fun_mk (st := s_law_next) l14 c14 k14
  have b14 := F14.binds (ps := ["_law_draws_here"]) fun _ _ _ _ _ _ us hl => match us, hl with | [_], _ => rfl
  have F15 := fun_mk (st := s_law_entry) l15 c15 k15
  have b15 := F15.binds (ps := ["_law_draws_here", "_law_size"]) fun _ _ _ _ _ _ us hl => match us, hl with | [_, _], _ => rfl
  have F16 := fun_mk (st := s_law_plan) l16 c16 k16
  have b16 := F16.binds (ps := ["_law_draws_here"]) fun _ _ _ _ _ _ us hl => match us, hl with | [_], _ => rfl
  have F17 := fun_mk (st := s_law_order) l17 c17 k17
  have b17 := F17.binds (ps := ["_law_draws_here", "_law_size"]) fun _ _ _ _ _ _ us hl => match us, hl with | [_, _], _ => rfl
  have F18 := fun_mk (st := s_law_list) l18 c18 k18
  have b18 := F18.binds (ps := ["_law_draws_here", "_law_most"]) fun _ _ _ _ _ _ us hl => match us, hl with | [_, _], _ => rfl
  have F19 := fun_mk (st := s_law_odd_lists) l19 c19 k19
  have b19 := F19.binds (ps := ["_law_row"]) fun _ _ _ _ _ _ us hl => match us, hl with | [_], _ => rfl
  have F20 := fun_mk (st := s_law_words) l20 c20 k20
  have b20 := F20.binds (ps := ["_law_row", "_law_steps"]) fun _ _ _ _ _ _ us hl => match us, hl with | [_, _], _ => rfl
  have F21 := fun_mk (st := s_law_marked) l21 c21 k21
  have b21 := F21.binds (ps := ["_law_a_plan", "_law_a_place", "_law_row"]) fun _ _ _ _ _ _ us hl => match us, hl with | [_, _, _], _ => rfl
  have F22 := fun_mk (st := s_law_told) l22 c22 k22
  have b22 := F22.binds (ps := ["_law_row", "_law_spot"]) fun _ _ _ _ _ _ us hl => match us, hl with | [_, _], _ => rfl
  have F23 := fun_mk (st := s_law_right) l23 c23 k23
  have b23 := F23.binds (ps := ["_law_draws_here"]) fun _ _ _ _ _ _ us hl => match us, hl with | [_], _ => rfl
  have F24 := fun_mk (st := slaw) l24 c24 k24
  have B : Bt mg := ⟨PySem.W.mg_none_of X G z0, PySem.W.mg_none_of X G z1, PySem.W.mg_none_of X G z2, PySem.W.mg_none_of X G z3, PySem.W.mg_none_of X G z4, PySem.W.mg_none_of X G z5, PySem.W.mg_none_of X G z6, PySem.W.mg_none_of X G z7, PySem.W.mg_none_of X G z8⟩
  have hsorted := PySem.W.mg_none_of X G z9
  have hdict := PySem.W.mg_none_of X G z10
  have C : Cs mg := ⟨⟨_, PySem.W.mg_of X G m0⟩, ⟨_, PySem.W.mg_of X G m1⟩⟩
  have hVE := PySem.W.mg_none_of X G ezv
  have OB : ObC K := ⟨eob1, eob2⟩
  have ET0 : OexC K EC0 := ⟨⟨_, _, _, _, _, _, _, _, _, _, _, _, _, _, _, ex0, by decide +kernel⟩, esa0, esb0, ety0, ekc0⟩
  have ER0 : ErC K mg "InvalidPlace" EC0 "place" := ⟨PySem.W.mg_of X G ea0, ET0, eno0, ega0, egg0, ehd0, ecl0, emo0⟩
  have EF0 := fun_mk (st := sIPlace) eli0 eci0 eki0
  have EB0 := EF0.binds (ps := ["self", "place"]) fun _ _ _ _ _ _ us hl => match us, hl with | [_, _], _ => rfl
  have EV0 := kit_type (C := EC0) kmVE eve0
  have ET1 : OexC K EC1 := ⟨⟨_, _, _, _, _, _, _, _, _, _, _, _, _, _, _, ex1, by decide +kernel⟩, esa1, esb1, ety1, ekc1⟩
  have ER1 : ErC K mg "InvalidValues" EC1 "index" := ⟨PySem.W.mg_of X G ea1, ET1, eno1, ega1, egg1, ehd1, ecl1, emo1⟩
  have EF1 := fun_mk (st := sIValues) eli1 eci1 eki1
  have EB1 := EF1.binds (ps := ["self", "index"]) fun _ _ _ _ _ _ us hl => match us, hl with | [_, _], _ => rfl
  have EV1 := kit_type (C := EC1) kmVE eve1
  have EK0_0 := kit_ref (C := EC0) (D := EC0) ehd0 ety0 ep0_0 ep0_0
  have EX0_0 := PySem.W.exm_ref (C := EC0) (cls := .ref EC0) esb0 ehd0 ety0 ep0_0
  have EK0_1 := kit_ref (C := EC0) (D := EC1) ehd1 ety1 ep0_1 ep0_0
  have EX0_1 := PySem.W.exm_ref (C := EC1) (cls := .ref EC0) esb1 ehd1 ety1 ep0_1
  have EK1_0 := kit_ref (C := EC1) (D := EC0) ehd0 ety0 ep1_0 ep1_1
  have EX1_0 := PySem.W.exm_ref (C := EC0) (cls := .ref EC1) esb0 ehd0 ety0 ep1_0
  have EK1_1 := kit_ref (C := EC1) (D := EC1) ehd1 ety1 ep1_1 ep1_1
  have EX1_1 := PySem.W.exm_ref (C := EC1) (cls := .ref EC1) esb1 ehd1 ety1 ep1_1
  refine ⟨PySem.W.fnOf "law" "law" (defArgs slaw) (defBody slaw) (defScope slaw) .none kV24 dc24 pm24 an24 cd24 ct24, fun s v => .of_eq rfl, fun base _ _ => ?_⟩
  have EE0 : ErI l.prog w K mg base 1 "InvalidPlace" EC0 "place" := ⟨ER0, EI0, _, _, eii0, eti0, ok_IPlace EF0 ET0 eno0 hVE evv, EB0⟩
  have EE1 : ErI l.prog w K mg base 1 "InvalidValues" EC1 "index" := ⟨ER1, EI1, _, _, eii1, eti1, ok_IValues EF1 ET1 eno1 hVE evv, EB1⟩
  have D0 : Df l.prog w K mg base "is_whole" 1 (spD RWhole) := df_of F0 (f_is_whole F0 B) (PySem.W.mg_of X G a0) b0
  have D1 : Df l.prog w K mg base "is_from_0_to" 2 (spD RFrom) := df_of F1 (f_is_from_0_to F1 B D0) (PySem.W.mg_of X G a1) b1
  have D2 : Df l.prog w K mg base "is_entry" 3 (spD REnt) := df_of F2 (f_is_entry F2 B D1) (PySem.W.mg_of X G a2) b2
  have D3 : Df l.prog w K mg base "is_pair_of_entries" 4 (spD RPair) := df_of F3 (f_is_pair F3 B D2) (PySem.W.mg_of X G a3) b3
  have D4 : Df l.prog w K mg base "check_plan" 5 (spD RCkP) := df_of F4 (f_check_plan F4 B C D3) (PySem.W.mg_of X G a4) b4
  have D5 : Df l.prog w K mg base "check_values" 5 (spD RCkV) := df_of F5 (f_check_values F5 B C D0) (PySem.W.mg_of X G a5) b5
  have D7 : Df l.prog w K mg base "first_entry" 1 (spD RFst) := df_of F7 (f_first_entry F7) (PySem.W.mg_of X G a7) b7
  have X0 : Df l.prog w K mg base "is_whole" 1 (spD RWh) := df_of F0 (f_is_wholeX F0 B) (PySem.W.mg_of X G a0) b0
  have X1 : Df l.prog w K mg base "is_from_0_to" 2 (spD RFx) := df_of F1 (f_is_from_0_toX F1 B X0) (PySem.W.mg_of X G a1) b1
  have D6 : Df l.prog w K mg base "check_place" 3 (spD RCkL) := df_of F6 (f_check_place F6 B X1) (PySem.W.mg_of X G a6) b6
  have E6 : De l.prog w K mg base "check_place" 3 (spE (RCkLe EC0)) := de_of F6 (e_check_place F6 B X1 EE0) (PySem.W.mg_of X G a6) b6
  have E5 : De l.prog w K mg base "check_values" 5 (spE (RCkVe EC1)) := de_of F5 (e_check_values F5 B C X0 EE1) (PySem.W.mg_of X G a5) b5
  have D11 : Df l.prog w K mg base "_word" 1 (spD RWo) := df_of F11 (f_word F11 B) (PySem.W.mg_of X G a11) b11
  have D9 : Df l.prog w K mg base "word_of" 6 (spD RWo) := df_of F9 (f_word_of F9 D5 D6 D11) (PySem.W.mg_of X G a9) b9
  have E9 : De l.prog w K mg base "word_of" 6 (spE (RWe EC0 EC1)) := de_of F9 (e_word_of F9 D5 E5 E6) (PySem.W.mg_of X G a9) b9
  have W2 := dk_word F9 (f_word_of (P := l.prog) (w := w) (base := base) F9 D5 D6 D11) (PySem.W.mg_of X G a9)
  have D8 : Df l.prog w K mg base "steps_until_stop" 2 (spD RUn) := df_of F8 (f_until F8 B D7) (PySem.W.mg_of X G a8) b8
  have D12 : Df l.prog w K mg base "_pivot_places" 3 (spL RPi) := df_of F12 (f_pivot_placesL F12 B D11 D8) (PySem.W.mg_of X G a12) b12
  have D10 : Df l.prog w K mg base "pivots" 6 (spL RPi) := df_of F10 (f_pivotsL F10 B D4 D5 D12) (PySem.W.mg_of X G a10) b10
  have S2 := dk_pivots F10 (f_pivotsL (P := l.prog) (w := w) (base := base) F10 B D4 D5 D12) (PySem.W.mg_of X G a10)
  have D13 : Df l.prog w K mg base "_law_draws" 1 (spL RDr) := df_of F13 (f_law_draws F13 B) (PySem.W.mg_of X G a13) b13
  have D14 : Df l.prog w K mg base "_law_next" 1 (spM RNext) := df_of F14 (f_law_next F14 B) (PySem.W.mg_of X G a14) b14
  have D15 : Df l.prog w K mg base "_law_entry" 2 (spM REn) := df_of F15 (f_law_entry F15 B D14) (PySem.W.mg_of X G a15) b15
  have D16 : Df l.prog w K mg base "_law_plan" 3 (spM RPl) := df_of F16 (f_law_plan F16 B D14 D15) (PySem.W.mg_of X G a16) b16
  have D17 : Df l.prog w K mg base "_law_order" 2 (spM ROr) := df_of F17 (f_law_order F17 B D14) (PySem.W.mg_of X G a17) b17
  have D18 : Df l.prog w K mg base "_law_list" 3 (spM RLi) := df_of F18 (f_law_list F18 B D14 D17) (PySem.W.mg_of X G a18) b18
  have D19 : Df l.prog w K mg base "_law_odd_lists" 1 (spL ROd) := df_of F19 (f_odd_lists F19 B) (PySem.W.mg_of X G a19) b19
  have wor : ∀ n, Df l.prog w K mg base "_law_words" (n + 1) (spD (RWd n)) := fun n => by
    induction n with
    | zero => exact df_of F20 (f_law_words 0 F20 B fun m e => by omega) (PySem.W.mg_of X G a20) b20
    | succ n ih =>
      refine df_of F20 (f_law_words (n + 1) F20 B fun m e => ?_) (PySem.W.mg_of X G a20) b20
      obtain rfl : m = n := by omega
      exact ih
  have mar : ∀ n, Df l.prog w K mg base "_law_marked" (n + 1) (spD (RMk n)) := fun n => by
    induction n with
    | zero => exact df_of F21 (f_law_marked 0 F21 B fun m e => by omega) (PySem.W.mg_of X G a21) b21
    | succ n ih =>
      refine df_of F21 (f_law_marked (n + 1) F21 B fun m e => ?_) (PySem.W.mg_of X G a21) b21
      obtain rfl : m = n := by omega
      exact ih
  have T : Et l.prog w K mg base EC0 EC1 := ⟨EE0, EE1, OB, hVE, EV0, EV1, EK0_0, EK1_0, exmAny_cons' EX0_0 (exmAny_cons' EX0_1 exmAny_nil), exmAny_cons' EX1_0 (exmAny_cons' EX1_1 exmAny_nil)⟩
  have D22 : Df l.prog w K mg base "_law_told" 8 (spD RTo) := df_of F22 (f_law_told F22 B T E9) (PySem.W.mg_of X G a22) b22
  have D23 : Df l.prog w K mg base "_law_right" 68 (spM RRi) := df_of F23 (f_law_right F23 B hsorted hdict D14 D16 D18 (wor 64) (mar 64) D19 D22 D9 W2 D10 S2) (PySem.W.mg_of X G a23) b23
  exact f_law F24 B D13 D23 D9 D10

end K2
open PySem PySem.W PyProof.Rows
set_option maxRecDepth 100000 in
set_option maxHeartbeats 0 in
theorem PySem.Challenge.cw_halfquick_k02_words_and_pivots_holds : PySem.Challenge.rw_halfquick_k02_words_and_pivots.Holds := by
  w_on; o_law; k_head; (case hw => w_witness2)
  k_fill
  refine DL.walkG (l := PySem.Challenge.rw_halfquick_k02_words_and_pivots) (n := 63) (k := 69) (x := "_law_script") (sp := fun w => K2.spLaw _) rfl (by decide) rfl ⟨rfl, by decide, by decide⟩ (fun w h Y => PySem.W.kIn_of Y) ?F (fun w H a ns hl _ sq => ⟨a, ns, rfl, hl, sq, fun _ => rfl⟩)
  case F =>
    intro w mg fa h KX G hmg
    refine' K2.all_mk KX G hmg ?a0 ?l0 ?c0 ?k0 ?a1 ?l1 ?c1 ?k1 ?a2 ?l2 ?c2 ?k2 ?a3 ?l3 ?c3 ?k3 ?a4 ?l4 ?c4 ?k4 ?a5 ?l5 ?c5 ?k5 ?a6 ?l6 ?c6 ?k6 ?a7 ?l7 ?c7 ?k7 ?a8 ?l8 ?c8 ?k8 ?a9 ?l9 ?c9 ?k9 ?a10 ?l10 ?c10 ?k10 ?a11 ?l11 ?c11 ?k11 ?a12 ?l12 ?c12 ?k12 ?a13 ?l13 ?c13 ?k13 ?a14 ?l14 ?c14 ?k14 ?a15 ?l15 ?c15 ?k15 ?a16 ?l16 ?c16 ?k16 ?a17 ?l17 ?c17 ?k17 ?a18 ?l18 ?c18 ?k18 ?a19 ?l19 ?c19 ?k19 ?a20 ?l20 ?c20 ?k20 ?a21 ?l21 ?c21 ?k21 ?a22 ?l22 ?c22 ?k22 ?a23 ?l23 ?c23 ?k23 ?a24 ?l24 ?c24 ?k24 ?m0 ?m1 ?z0 ?z1 ?z2 ?z3 ?z4 ?z5 ?z6 ?z7 ?z8 ?z9 ?z10 ?ea0 ?ex0 ?esa0 ?ega0 ?egg0 ?eno0 ?eii0 ?eti0 ?eli0 ?eci0 ?eki0 ?ekc0 ?esb0 ?ety0 ?ehd0 ?ecl0 ?emo0 ?eve0 ?ea1 ?ex1 ?esa1 ?ega1 ?egg1 ?eno1 ?eii1 ?eti1 ?eli1 ?eci1 ?eki1 ?ekc1 ?esb1 ?ety1 ?ehd1 ?ecl1 ?emo1 ?eve1 ?ep0_0 ?ep0_1 ?ep1_0 ?ep1_1 ?eob1 ?eob2 ?evv ?ezv
    (case a0 => k_is); (case l0 => k_is); (case c0 => k_is); (case k0 => k_is)
    (case a1 => k_is); (case l1 => k_is); (case c1 => k_is); (case k1 => k_is)
    (case a2 => k_is); (case l2 => k_is); (case c2 => k_is); (case k2 => k_is)
    (case a3 => k_is); (case l3 => k_is); (case c3 => k_is); (case k3 => k_is)
    (case a4 => k_is); (case l4 => k_is); (case c4 => k_is); (case k4 => k_is)
    (case a5 => k_is); (case l5 => k_is); (case c5 => k_is); (case k5 => k_is)
    (case a6 => k_is); (case l6 => k_is); (case c6 => k_is); (case k6 => k_is)
    (case a7 => k_is); (case l7 => k_is); (case c7 => k_is); (case k7 => k_is)
    (case a8 => k_is); (case l8 => k_is); (case c8 => k_is); (case k8 => k_is)
    (case a9 => k_is); (case l9 => k_is); (case c9 => k_is); (case k9 => k_is)
    (case a10 => k_is); (case l10 => k_is); (case c10 => k_is); (case k10 => k_is)
    (case a11 => k_is); (case l11 => k_is); (case c11 => k_is); (case k11 => k_is)
    (case a12 => k_is); (case l12 => k_is); (case c12 => k_is); (case k12 => k_is)
    (case a13 => k_is); (case l13 => k_is); (case c13 => k_is); (case k13 => k_is)
    (case a14 => k_is); (case l14 => k_is); (case c14 => k_is); (case k14 => k_is)
    (case a15 => k_is); (case l15 => k_is); (case c15 => k_is); (case k15 => k_is)
    (case a16 => k_is); (case l16 => k_is); (case c16 => k_is); (case k16 => k_is)
    (case a17 => k_is); (case l17 => k_is); (case c17 => k_is); (case k17 => k_is)
    (case a18 => k_is); (case l18 => k_is); (case c18 => k_is); (case k18 => k_is)
    (case a19 => k_is); (case l19 => k_is); (case c19 => k_is); (case k19 => k_is)
    (case a20 => k_is); (case l20 => k_is); (case c20 => k_is); (case k20 => k_is)
    (case a21 => k_is); (case l21 => k_is); (case c21 => k_is); (case k21 => k_is)
    (case a22 => k_is); (case l22 => k_is); (case c22 => k_is); (case k22 => k_is)
    (case a23 => k_is); (case l23 => k_is); (case c23 => k_is); (case k23 => k_is)
    (case a24 => k_is); (case l24 => k_is); (case c24 => k_is); (case k24 => k_is)
    (case m0 => k_is); (case m1 => k_is); (case z0 => k_is); (case z1 => k_is)
    (case z2 => k_is); (case z3 => k_is); (case z4 => k_is); (case z5 => k_is)
    (case z6 => k_is); (case z7 => k_is); (case z8 => k_is); (case z9 => k_is)
    (case z10 => k_is); (case ea0 => k_is); (case ex0 => k_is); (case esa0 => k_is)
    (case ega0 => k_is); (case egg0 => k_is); (case eno0 => k_is); (case eii0 => k_is)
    (case eti0 => k_is); (case eli0 => k_is); (case eci0 => k_is); (case eki0 => k_is)
    (case ekc0 => k_is); (case esb0 => k_is); (case ety0 => k_is); (case ehd0 => k_is)
    (case ecl0 => k_is); (case emo0 => k_is); (case eve0 => k_is); (case ea1 => k_is)
    (case ex1 => k_is); (case esa1 => k_is); (case ega1 => k_is); (case egg1 => k_is)
    (case eno1 => k_is); (case eii1 => k_is); (case eti1 => k_is); (case eli1 => k_is)
    (case eci1 => k_is); (case eki1 => k_is); (case ekc1 => k_is); (case esb1 => k_is)
    (case ety1 => k_is); (case ehd1 => k_is); (case ecl1 => k_is); (case emo1 => k_is)
    (case eve1 => k_is); (case ep0_0 => k_is); (case ep0_1 => k_is); (case ep1_0 => k_is)
    (case ep1_1 => k_is); (case eob1 => k_is); (case eob2 => k_is); (case evv => k_is)
    (case ezv => k_is)
