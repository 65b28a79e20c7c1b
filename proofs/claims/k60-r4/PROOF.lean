import PyProof.Rows.All
import Wide.All
import OpenK.AllK
import Wide.FinOn
import HandS.ForMost
import HandS.Lambda
import HandS.Style
import HandS.Zip
import HandS.IsInst
import KE.KUnpackStar
import HandS.Conv
import HandS.Wide
import HandS.Defaults
import HandS.Iter
import HandS.Deep
import HandS.SortInts
import KE.KExcIs
import HandS.ExcIs
import HandS.ExcField
import HandS.ExcInit
import HandS.ExcOwn
import HandS.WordsExc
import PyProof.Draws
import PyProof.StrOps2
import HandS.Text
import HandS.StrMore
import HandS.DictComp
import HandS.TryOnly
import HandS.SortKw
import HandS.Steps
import KE.IntTextLaws
import KE.KIntText
import PyProof.StrLawsAffix
import PySem.Challenge.RW_halfquick_k60_plans_and_lists_as_texts
set_option Elab.async false
set_option linter.all false
set_option maxRecDepth 100000
set_option maxHeartbeats 4000000
namespace DL
open PySem PyProof.Rows L2

theorem guards_in {A : Around} {env : Env} (h : A.guards = some []) : (A.deeper env).guards = some [] := by
  first
    | exact h
    | (simp [Around.deeper, h])

/-- a def's promise, asked where no repr is under way -/
structure FnG (P : Program) (w : World) (K : PySem.W.Frag) (mg : Str → Option Value) (base : Heap) (k : Nat) (f : Addr) (fd : FuncData) (ps : List Str) (sp : Sp) : Prop where
  len : ∀ vs H Q E, sp vs H Q E → vs.length = ps.length
  go : ∀ (A : Around) (outer : List Env) (s : Shared) (H : Hp) (args : Args) (us : List Value) (vs : List V) (Q : VK), A.guards = some [] → Room k A → Env0 P w K mg base A outer s H → BindsTo s fd args (ps.zip us) → Vals vs us → sp vs H Q E0 →
    codeAny (model P w) A (.call (.ref f) args) (CR CX0 outer P w H s Q E0) s
section
variable {P : Program} {w : World} {K : PySem.W.Frag} {mg : Str → Option Value} {base : Heap} {j k : Nat} {f : Addr} {fd : FuncData} {ps : List Str} {sp sp' : Sp}
theorem FnG.of (h : FnOk P w K mg base CX0 k f fd ps sp) : FnG P w K mg base k f fd ps sp :=
  ⟨h.len, fun A outer s H args us vs Q _ => h.run A outer s H args us vs Q E0⟩
theorem FnG.up (h : FnG P w K mg base j f fd ps sp) (le : j ≤ k) : FnG P w K mg base k f fd ps sp :=
  ⟨h.len, fun A outer s H args us vs Q g r => h.go A outer s H args us vs Q g (r.mono le)⟩
theorem FnG.imp (h : FnG P w K mg base k f fd ps sp) (i : ∀ vs H Q, sp' vs H Q E0 → sp vs H Q E0) (l : ∀ vs H Q E, sp' vs H Q E → vs.length = ps.length) : FnG P w K mg base k f fd ps sp' :=
  ⟨l, fun A outer s H args us vs Q g r e b v q => h.go A outer s H args us vs Q g r e b v (i _ _ _ q)⟩
end

/-- the callee runs (with whatever arguments bind) -/
theorem runG {X : Cx} {k : Nat} {f : Addr} {fd : FuncData} {ps : List Str} {sp : Sp} {pins : List (Addr × Obj)} {σ : L2.St} {H : Hp} {s : Shared} {Q : VK} {us ws : List Value} {kw : List (Str × Value)} {vs : List V}
    (Fn : FnG X.prog X.w X.K X.mg X.base k f fd ps sp) (hg : X.A.guards = some []) (hr : Room k X.A) (I : Inv X pins σ H s) (hb : BindsTo s fd ⟨us, kw⟩ (ps.zip ws)) (r : Vals vs ws) (h : sp vs H Q E0) :
    wpAny (model X.prog X.w) X.A (call (.ref f) us kw) (EP X pins σ Q) X.xe s := by
  have c := Fn.go X.A X.stack s H ⟨us, kw⟩ ws vs Q hg hr I.env0 hb r h
  refine wpAny_call (codeAny_mono c fun res t ht => ?_)
  match res, ht with
  | .ok (.ret u), ht => exact I.after ht
  | .ok .next, ht => exact ht.elim
  | .ok .brk, ht => exact ht.elim
  | .ok .cont, ht => exact ht.elim
  | .error e, ht => exact ht.elim

/-- a def by its body -/
theorem fnG_of {P : Program} {w : World} {K : PySem.W.Frag} {mg : Str → Option Value} {base : Heap} {k : Nat} {f : Addr} {fname qual : Str} {params : Arguments} {body : List Stmt} {scope : Scope} {dV kV doc pm cdv ct oc : Value} {an od : Option Addr} {osl : Array (Option Value)} {N ps : List Str} {sp : Sp}
    (lk : K.lookup f = some ⟨oc, od, .func (PySem.W.fnOf fname qual params body scope dV kV doc pm an cdv ct), osl⟩) (hcd : PySem.W.codeIn K cdv qual = true) (S : FnScope N ps scope) (len : ∀ vs H Q E, sp vs H Q E → vs.length = ps.length)
    (hbody : ∀ (A : Around) (outer : List Env) (s : Shared) (H : Hp) (vs : List V) (Q : VK), A.guards = some [] → Room k (A.deeper (PyProof.Rows.envOfC qual scope s.heap.objs.size f cdv)) → sp vs H Q E0 →
      ∃ t, PSs (cxOf CX0 P w K mg base N qual scope f cdv A outer s H E0).nox body t ∧ t { nx := fun _ H' => Q .non H', rt := Q } (start N vs) H) :
    FnG P w K mg base (k + 1) f (PySem.W.fnOf fname qual params body scope dV kV doc pm an cdv ct) ps sp := by
  constructor
  · exact len
  intro A outer s H args us vs Q hg hr e0 hb r hsp
  have bk : ∀ b o, base.get? b = some o → s.heap.get? b = some o := fun b o e => (e0.bs b o e).1
  have inK := e0.mod.kin.keeps bk
  have kinds : ∀ y ∈ ps.zip us, scope.names.lookup y.1 = some .local ∨ (scope.names.lookup y.1 = some .cell ∧ ((cellsFrom (s.heap.objs.size + 1) scope.names []).lookup y.1).isSome = true) := by
    rintro ⟨n, v⟩ hy
    have hn := (List.of_mem_zip hy).1
    cases S.par n hn with
    | inl q => exact .inl q
    | inr q => exact .inr ⟨q, PySem.W.cellsFrom_some _ _ _ (.inl q)⟩
  apply codeAny_call_function hr.depth (inK _ _ lk) rfl S.co S.gen rfl (PySem.W.codeRec_of inK hcd)
  apply hb
  apply wpAny_newFunctionEnv_cells S.kind kinds
  rintro env rfl s1 x
  refine ⟨(e0.mod.nolimit.keeps bk).keeps x.toInCall.keep, codeAny_func ?_⟩
  obtain ⟨t, ht, hq⟩ := hbody A outer s H vs Q hg (hr.deeper _) hsp
  have I := inv_start (CX := CX0) (P := P) (N := N) (qual := qual) (f := f) (cd := cdv) (E := E0) S hr.hd e0 (len _ _ _ _ hsp) r x
  have run := ht.nox.run [] s1 (start N vs) H _ I hq
  refine wpAny_mono run (fun fl t2 h2 => ?_) fun e t2 h2 => h2
  match fl, h2 with
  | .ret u, ⟨v, σ2, H2, J, rv, q⟩ => exact ⟨v, H2, J.os, J.bare, J.base, J.hok, rv, q⟩
  | .next, ⟨σ2, H2, J, q⟩ => exact ⟨.non, H2, J.os, J.bare, J.base, J.hok, rfl, q⟩
  | .brk, ⟨_, _, _, q⟩ => exact q.elim
  | .cont, ⟨_, _, _, q⟩ => exact q.elim

/-! ### the end: the law's own call -/
theorem intVals : ∀ {us : List Value} {ns : List Int}, IntsAre us ns → Vals (ns.map V.int) us
  | _, _, .nil => .nil
  | _, _, .cons n t h => .cons ⟨t, rfl⟩ (intVals h)
section
variable {P : Program} {w : World} {K : PySem.W.Frag} {mg mb : Str → Option Value} {k : Nat} {fa a : Addr} {fd : FuncData} {x : Str} {sp : Sp} {t : Shared} {us : List Value} {ns : List Int}
/-- over an abstract heap H that tracks nothing but the script -/
theorem law_over {H : Hp} (inK : K.In t.heap) (gl : t.heap.Ns mainGlobals mg) (bl : t.heap.Ns builtinsNs mb) (bb : ∀ x : Str, x ≠ "__name__" → mb x = bootBuiltins x) (lim : t.heap.NoLimit) (gens : t.gens = #[])
    (scr : t.heap.get? a = some { cls := .type "list", data := .seq us.toArray }) (hr : Room k callerA)
    (Fn : ∀ base : Heap, K.In base → base.Ns mainGlobals mg → FnG P w K mg base k fa fd [x] sp) (bind : ∀ (s : Shared) (u : Value), BindsTo s fd ⟨[u], []⟩ [(x, u)])
    (only : ∀ b u, H b = some u → b = a ∧ (∃ o xs, u = .frz o (.lst xs)) ∧ K.lookup a = none) (ok : HOk P w H t.heap) (hsp : sp [.ref a] H (fun v _ => v = .bl true) E0) :
    codeAny (model P w) callerA (.call (.ref fa) ⟨[.ref a], []⟩) (fun r t' => r = .ok (.ret (.bool true)) ∧ OldK t.heap t'.heap ∧ t'.os = t.os ∧ AllBare t'.gens) t := by
  let base := hidT t.heap H
  have free : ∀ {b : Addr} {o : Obj}, t.heap.get? b = some o → (∀ vs n, o.data ≠ .seq vs n) → H b = none := by
    intro b o e nd
    cases q : H b with
    | none => rfl
    | some u =>
      obtain ⟨rfl, _⟩ := only b u q
      rw [scr] at e
      cases e
      exact absurd rfl (nd _ _)
  have ns : ∀ {b : Addr} {m : Str → Option Value}, t.heap.Ns b m → base.Ns b m := by
    rintro b m ⟨o, es, ep, e, d, r⟩
    exact ⟨o, es, ep, hidT_get e (free e fun vs n z => by rw [d] at z; cases z), d, r⟩
  have bK : K.In base := fun b o e => hidT_get (inK b o e) (by
    cases q : H b with
    | none => rfl
    | some u =>
      obtain ⟨rfl, _, z⟩ := only b u q
      rw [z] at e
      cases e)
  have mod : Mod K mg base := ⟨bK, ns gl, ⟨mb, ns bl, bb⟩, by
    obtain ⟨mc, h1, h2⟩ := lim
    exact ⟨mc, ns h1, h2⟩⟩
  have e0 : Env0 P w K mg base callerA [] t H := {
    frames := rfl
    mod := mod
    bs := fun b o e => of_hidT e
    bsz := Nat.le_of_eq (hidT_size _ _)
    funs := trivial
    frf := fun b hb => nomatch (show b ∈ ([] : List Addr) from hb)
    hok := ok
    bare := .of_eq gens }
  have run := (Fn base bK (ns gl)).go callerA [] t H ⟨[.ref a], []⟩ [.ref a] [.ref a] _ rfl hr e0 (bind t (.ref a)) (.cons rfl .nil) hsp
  refine codeAny_mono run fun res t' h => ?_
  match res, h with
  | .error e, h => exact h.elim
  | .ok .next, h => exact h.elim
  | .ok .brk, h => exact h.elim
  | .ok .cont, h => exact h.elim
  | .ok (.ret u), ⟨v, H', os, bare, un, ok', rv, hv⟩ =>
    obtain rfl : v = V.bl true := hv
    obtain rfl : u = Value.bool true := rv
    refine ⟨rfl, OldK.of_keep fun b o e => ?_, os, bare⟩
    cases q : H b with
    | none => exact un.keep b o e q (fun z => nomatch (show b ∈ ([] : List Addr) from z)) (fun z => nomatch z)
    | some hu =>
      obtain ⟨_, ⟨ob, xs, rfl⟩, _⟩ := only b hu q
      have e1 := (ok b _ q).1
      have e2 := (ok' b _ (un.frzs b ob _ q)).1
      rw [e] at e1
      cases e1
      exact e2
theorem lawG (inK : K.In t.heap) (gl : t.heap.Ns mainGlobals mg) (bl : t.heap.Ns builtinsNs mb) (bb : ∀ x : Str, x ≠ "__name__" → mb x = bootBuiltins x) (lim : t.heap.NoLimit) (gens : t.gens = #[])
    (scr : t.heap.get? a = some { cls := .type "list", data := .seq us.toArray }) (nums : IntsAre us ns) (small : ns.length ≤ sizeLine) (hr : Room k callerA)
    (Fn : ∀ base : Heap, K.In base → base.Ns mainGlobals mg → FnG P w K mg base k fa fd [x] sp) (bind : ∀ (s : Shared) (u : Value), BindsTo s fd ⟨[u], []⟩ [(x, u)])
    (hsp : ∀ H : Hp, (∀ b u, H b = some u → b = a) → SqL K H a (ns.map V.int) → sp [.ref a] H (fun v _ => v = .bl true) E0) :
    codeAny (model P w) callerA (.call (.ref fa) ⟨[.ref a], []⟩) (fun r t' => r = .ok (.ret (.bool true)) ∧ OldK t.heap t'.heap ∧ t'.os = t.os ∧ AllBare t'.gens) t := by
  have rv := intVals nums
  cases hk : K.lookup a with
  | some o =>
    have e := inK a o hk
    rw [scr] at e
    cases e
    have H0 : ∀ b u, (fun _ : Addr => (none : Option HO)) b = some u → False := fun b u z => by cases z
    refine law_over (H := fun _ => none) inK gl bl bb lim gens scr hr Fn bind (fun b u z => (H0 b u z).elim) (fun b u z => (H0 b u z).elim) (hsp _ (fun b u z => (H0 b u z).elim) (.inr ?_))
    exact ⟨_, us.toArray, _, hk, rfl, rfl, rfl, by rw [List.size_toArray, nums.length]; exact small, by simpa using rv⟩
  | none =>
    have at_ : ∀ b u, (fun b : Addr => if b = a then some (HO.frz { cls := .type "list", data := .seq us.toArray } (.lst (ns.map V.int))) else none) b = some u → b = a ∧ u = HO.frz { cls := .type "list", data := .seq us.toArray } (.lst (ns.map V.int)) := by
      intro b u z
      by_cases hb : b = a
      · refine ⟨hb, ?_⟩
        simp only [hb, if_true] at z
        exact (Option.some.inj z).symm
      · simp only [hb, if_false] at z
        cases z
    refine law_over (H := fun b => if b = a then some (.frz { cls := .type "list", data := .seq us.toArray } (.lst (ns.map V.int))) else none) inK gl bl bb lim gens scr hr Fn bind (fun b u z => ?_) (fun b u z => ?_) (hsp _ (fun b u z => (at_ b u z).1) (.inl (.inr ⟨_, if_pos rfl⟩)))
    · obtain ⟨rfl, rfl⟩ := at_ b u z
      exact ⟨rfl, ⟨_, _, rfl⟩, hk⟩
    · obtain ⟨rfl, rfl⟩ := at_ b u z
      exact ⟨scr, by rw [List.length_map]; exact small, us, _, rv, scr⟩
end
/-- what k_head leaves, from the promise of the law's def -/
theorem walkG {l : PySem.W.OpenLaw} {n k : Nat} {q : Program} {loose : List Str} {XP : (Str → Option Value) → Heap → Prop} {YP : World → Heap → Prop} {d : DefRec} {K : Params → PySem.W.Frag} {sp : World → Sp} {x : Str}
    (hn : l.most = some n) (hn2 : n ≤ sizeLine) (hdf : d.params.defaults = []) (hr : Room k callerA) (hY : ∀ (w : World) (h : Heap), YP w h → (K w.params).In h)
    (Fn : ∀ (w : World) (mg : Str → Option Value) (fa : Addr) (h : Heap), (K w.params).In h → h.Ns mainGlobals mg → mg d.name = some (.ref fa) →
      ∃ fd : FuncData, (∀ (s : Shared) (u : Value), BindsTo s fd ⟨[u], []⟩ [(x, u)]) ∧ ∀ base : Heap, (K w.params).In base → base.Ns mainGlobals mg → FnG l.prog w (K w.params) mg base k fa fd [x] (sp w))
    (hsp : ∀ (w : World) (H : Hp) (a : Addr) (ns : List Int), ns.length ≤ n → (∀ b u, H b = some u → b = a) → SqL (K w.params) H a (ns.map V.int) → sp w [.ref a] H (fun v _ => v = .bl true) E0) :
    PySem.W.WalkO q loose XP YP l.row.toRowW d [] (fun f vs => PySem.call f vs) :=
  Att.attach_call hn hdf fun w s0 t mg mb fa o pm cd doc a us ns G Y ho hd hcd hmg scr nums len gens =>
    let inK := hY w _ Y
    let ⟨_, bind, F2⟩ := Fn w mg fa _ inK G.T.g hmg
    lawG inK G.T.g G.T.b G.T.builtins G.T.nolimit gens scr nums (Nat.le_trans len hn2) hr F2 bind fun H only seq => hsp w H a ns len only seq
end DL
namespace DL
open PySem L2

/-! ### data that stands in the heap -/
/-- at a: an error of the class at C, its own dict at dd -/
def exV (a C dd : Addr) : HO := .ext fun h => ∃ (oe : Obj) (vs : Array Value), h.get? a = some oe ∧ oe.cls = .ref C ∧ oe.dict = some dd ∧ oe.data = .fields vs
/-- an error as data: its class, its one field -/
abbrev excD (C : Addr) (f : Str) (d : PyData) : PyData := .dict [(.str f, .tuple [.int (C : Int), d])]
def oV : Option Int → V
  | none => .non
  | some n => .int n
def oD : Option Int → PyData
  | none => .none
  | some n => .int n
mutual
inductive Rp (H : Hp) : V → PyData → Prop
  | non : Rp H .non .none
  | bl (b : Bool) : Rp H (.bl b) (.bool b)
  | int (i : Int) : Rp H (.int i) (.int i)
  | str (x : Str) : Rp H (.str x) (.str x)
  | lst {a : Addr} {xs : List V} {ds : List PyData} : H a = some (.lst xs) → RpA H xs ds → Rp H (.ref a) (.list ds)
  | tup {a : Addr} {xs : List V} {ds : List PyData} : H a = some (.tup xs) → RpA H xs ds → Rp H (.ref a) (.tuple ds)
  /-- a dict of whole numbers by whole numbers -/
  | dct {a : Addr} (kvs : List (Int × Int)) : H a = some (.dK (kvs.map fun q => (Sum.inl q.1, V.int q.2))) → Rp H (.ref a) (.dict (kvs.map fun q => (PyData.int q.1, PyData.int q.2)))
  /-- .. of texts -/
  | dcs {a : Addr} (kvs : List (Int × Str)) : H a = some (.dK (kvs.map fun q => (Sum.inl q.1, V.str q.2))) → Rp H (.ref a) (.dict (kvs.map fun q => (PyData.int q.1, PyData.str q.2)))
  /-- a dict of whole numbers (or None) by texts -/
  | dks {a : Addr} (kvs : List (Str × Option Int)) : H a = some (.dK (kvs.map fun q => (Sum.inr q.1, oV q.2))) → Rp H (.ref a) (.dict (kvs.map fun q => (PyData.str q.1, oD q.2)))
  | exc {a C dd : Addr} {f : Str} {v : V} {d : PyData} : H a = some (exV a C dd) → H dd = some (.xd [(f, v)]) → Rp H v d → Rp H (.ref a) (.dict [(.str f, .tuple [.int (C : Int), d])])
inductive RpA (H : Hp) : List V → List PyData → Prop
  | nil : RpA H [] []
  | cons {v : V} {vs : List V} {d : PyData} {ds : List PyData} : Rp H v d → RpA H vs ds → RpA H (v :: vs) (d :: ds)
end

section
variable {G G' H H' : Hp} {v : V} {vs ws : List V} {d : PyData} {ds es : List PyData} {K : PySem.W.Frag}
theorem Rp.mono (e : Same H H') {d : PyData} {v : V} (h : Rp H v d) : Rp H' v d :=
  Rp.rec (motive_1 := fun v d _ => Rp H' v d) (motive_2 := fun vs ds _ => RpA H' vs ds) .non .bl .int .str
    (fun h _ q => .lst (e _ _ h) q) (fun h _ q => .tup (e _ _ h) q) (fun kvs h => .dct kvs (e _ _ h)) (fun kvs h => .dcs kvs (e _ _ h)) (fun kvs h => .dks kvs (e _ _ h)) (fun h1 h2 _ q => .exc (e _ _ h1) (e _ _ h2) q) .nil (fun _ _ p q => .cons p q) h
theorem RpA.mono (e : Same H H') {ds : List PyData} {vs : List V} (h : RpA H vs ds) : RpA H' vs ds :=
  RpA.rec (motive_1 := fun v d _ => Rp H' v d) (motive_2 := fun vs ds _ => RpA H' vs ds) .non .bl .int .str
    (fun h _ q => .lst (e _ _ h) q) (fun h _ q => .tup (e _ _ h) q) (fun kvs h => .dct kvs (e _ _ h)) (fun kvs h => .dcs kvs (e _ _ h)) (fun kvs h => .dks kvs (e _ _ h)) (fun h1 h2 _ q => .exc (e _ _ h1) (e _ _ h2) q) .nil (fun _ _ p q => .cons p q) h
theorem Rp.up (e : Same H H') (h : Rp H v d) : Rp H' v d := Rp.mono e h
theorem RpA.up (e : Same H H') (h : RpA H vs ds) : RpA H' vs ds := RpA.mono e h
theorem Rp.exc_inv {C : Addr} {f : Str} (h : Rp H v (excD C f d)) : ∃ a dd w, v = .ref a ∧ H a = some (exV a C dd) ∧ H dd = some (.xd [(f, w)]) ∧ Rp H w d := by
  unfold excD at h
  generalize hD : PyData.dict [(PyData.str f, PyData.tuple [PyData.int (C : Int), d])] = D at h
  cases h with
  | dct kvs h =>
    cases kvs with
    | nil => cases hD
    | cons q kvs =>
      have h2 := PyData.dict.inj hD
      simp at h2
  | dcs kvs h =>
    cases kvs with
    | nil => cases hD
    | cons q kvs =>
      have h2 := PyData.dict.inj hD
      simp at h2
  | dks kvs h =>
    cases kvs with
    | nil => cases hD
    | cons q kvs =>
      have h2 := PyData.dict.inj hD
      obtain ⟨x, o⟩ := q
      cases o <;> simp [oD] at h2
  | @exc a C2 dd f2 w d2 h1 h2 q =>
    have h3 := PyData.dict.inj hD
    simp only [List.cons.injEq, Prod.mk.injEq, PyData.str.injEq, PyData.tuple.injEq, PyData.int.injEq, and_true] at h3
    obtain ⟨e1, e2, e3⟩ := h3
    have e2' : C = C2 := by exact Int.ofNat.inj e2
    subst e1 e2' e3
    exact ⟨a, dd, w, rfl, h1, h2, q⟩
  | _ => cases hD
mutual
theorem Rp.dp : ∀ (d : PyData) (v : V), d.hasDict = false → Rp H v d → Dp K H v d
  | .none, _, _, .non => .non
  | .bool b, _, _, .bl _ => .bl b
  | .int i, _, _, .int _ => .int i
  | .str x, _, _, .str _ => .str x
  | .list ds, _, n, .lst h q => .lst (SqL.of h) (RpA.dp ds _ (by simpa only [PyData.hasDict] using n) q)
  | .tuple ds, _, n, .tup h q => .tup (SqT.of h) (RpA.dp ds _ (by simpa only [PyData.hasDict] using n) q)
  | .dict _, _, n, _ => by simp [PyData.hasDict] at n
theorem RpA.dp : ∀ (ds : List PyData) (vs : List V), PyData.hasDictAll ds = false → RpA H vs ds → DpAll K H vs ds
  | [], _, _, .nil => .nil
  | d :: ds, _, n, .cons h q => by
    simp only [PyData.hasDictAll, Bool.or_eq_false_iff] at n
    exact .cons (Rp.dp d _ n.1 h) (RpA.dp ds _ n.2 q)
end
theorem RpA.len : ∀ {vs : List V} {ds : List PyData}, RpA H vs ds → vs.length = ds.length
  | _, _, .nil => rfl
  | _, _, .cons _ q => congrArg (· + 1) (RpA.len q)
theorem RpA.get : ∀ {vs : List V} {ds : List PyData} {i : Nat} {d : PyData}, RpA H vs ds → ds[i]? = some d → ∃ v, vs[i]? = some v ∧ Rp H v d
  | _, _, _, _, .nil, e => by simp at e
  | _, _, 0, _, .cons r _, e => by
    simp at e
    subst e
    exact ⟨_, rfl, r⟩
  | _, _, i + 1, d, .cons _ t, e => by
    obtain ⟨v, h1, h2⟩ := RpA.get (i := i) (d := d) t (by simpa using e)
    exact ⟨v, by simpa using h1, h2⟩
theorem RpA.get' : ∀ {vs : List V} {ds : List PyData} {i : Nat} {v : V}, RpA H vs ds → vs[i]? = some v → ∃ d, ds[i]? = some d ∧ Rp H v d
  | _, _, _, _, .nil, e => by simp at e
  | _, _, 0, _, .cons r _, e => by
    simp at e
    subst e
    exact ⟨_, rfl, r⟩
  | _, _, i + 1, d, .cons _ t, e => by
    obtain ⟨v, h1, h2⟩ := RpA.get' (i := i) (v := d) t (by simpa using e)
    exact ⟨v, by simpa using h1, h2⟩
theorem RpA.app : ∀ {vs ws : List V} {ds es : List PyData}, RpA H vs ds → RpA H ws es → RpA H (vs ++ ws) (ds ++ es)
  | _, _, _, _, .nil, q => q
  | _, _, _, _, .cons r t, q => .cons r (RpA.app t q)
theorem RpA.one (h : Rp H v d) : RpA H [v] [d] := .cons h .nil
theorem RpA.take : ∀ {vs : List V} {ds : List PyData} (n : Nat), RpA H vs ds → RpA H (vs.take n) (ds.take n)
  | _, _, 0, _ => .nil
  | _, _, _ + 1, .nil => .nil
  | _, _, n + 1, .cons r t => .cons r (RpA.take n t)
theorem RpA.drop : ∀ {vs : List V} {ds : List PyData} (n : Nat), RpA H vs ds → RpA H (vs.drop n) (ds.drop n)
  | _, _, 0, r => r
  | _, _, _ + 1, .nil => .nil
  | _, _, n + 1, .cons _ t => RpA.drop n t
theorem RpA.set (r : Rp H v d) : ∀ {vs : List V} {ds : List PyData} (i : Nat), RpA H vs ds → RpA H (vs.set i v) (ds.set i d)
  | _, _, _, .nil => .nil
  | _, _, 0, .cons _ t => .cons r t
  | _, _, i + 1, .cons q t => .cons q (RpA.set r i t)
theorem RpA.erase : ∀ {vs : List V} {ds : List PyData} (i : Nat), RpA H vs ds → RpA H (vs.eraseIdx i) (ds.eraseIdx i)
  | _, _, _, .nil => .nil
  | _, _, 0, .cons _ t => t
  | _, _, i + 1, .cons q t => .cons q (RpA.erase i t)
theorem RpA.rev : ∀ {vs : List V} {ds : List PyData}, RpA H vs ds → RpA H vs.reverse ds.reverse
  | _, _, .nil => .nil
  | _, _, .cons r t => by
    rw [List.reverse_cons, List.reverse_cons]
    exact (RpA.rev t).app (.one r)
theorem RpA.ints : ∀ (ns : List Int), RpA H (ns.map V.int) (ns.map PyData.int)
  | [] => .nil
  | n :: ns => .cons (.int n) (RpA.ints ns)
theorem RpA.of_ints : ∀ {ns : List Int} {vs : List V}, RpA H vs (ns.map PyData.int) → vs = ns.map V.int
  | [], _, .nil => rfl
  | n :: ns, _, .cons r t => by
    cases r
    rw [RpA.of_ints t]
    rfl
theorem RpA.of_bools : ∀ {ns : List Bool} {vs : List V}, RpA H vs (ns.map PyData.bool) → vs = ns.map V.bl
  | [], _, .nil => rfl
  | n :: ns, _, .cons r t => by
    cases r
    rw [RpA.of_bools t]
    rfl
end

/-! ### slots -/
/-- the tables of code objects that are told of: each one's address, the name of what is made there -/
class TabL where
  T : List (Addr × Str)
variable [TabL]
inductive Sl where
  | no
  | va (d : PyData)
  /-- a list that only this name holds -/
  | ow (ds : List PyData)
  /-- of the name nothing; the tables stand, none is frozen -/
  | tb
  /-- a function made here, at G1 -/
  | fn (f : Addr) (G1 : Hp)

/-! tables of code objects: a lambda that is made writes there -/
def NT (o : HO) : Prop := ∀ ps, o ≠ .tbl ps
theorem nt_lst {xs : List V} : NT (.lst xs) := fun _ z => by cases z
/-- neither a table nor a code object -/
def Pl (o : HO) : Prop := NT o ∧ ∀ c q, o ≠ LamX.CodeO c q
theorem pl_lst {xs : List V} : Pl (.lst xs) := ⟨nt_lst, fun _ _ z => by unfold LamX.CodeO at z; cases z⟩
def NoT (G : Hp) : Prop := ∀ b o, G b = some o → NT o
theorem NoT.upd {G : Hp} {p : Addr} {o : HO} (h : NoT G) (n : NT o) : NoT (upd G p o) := fun b u e => by
  by_cases hb : b = p
  · rw [hb, upd_same] at e
    cases e
    exact n
  · rw [upd_ne hb] at e
    exact h b u e
def SlOk (G H : Hp) : Option V → Sl → Prop
  | _, .no => True
  | x, .va d => ∃ v, x = some v ∧ Rp G v d
  | x, .ow ds => ∃ a xs, x = some (.ref a) ∧ H a = some (.lst xs) ∧ RpA G xs ds ∧ G a = none
  | _, .tb => LamX.Tabs TabL.T H ∧ NoT G
  | x, .fn f G1 => x = some (.ref f) ∧ Same G1 G
def Own (L : List Sl) (σ : L2.St) (b : Addr) : Prop := ∃ (i : Nat) (ds : List PyData), L[i]? = some (Sl.ow ds) ∧ σ[i]? = some (some (V.ref b))

/-- L tells what the slots hold, over the frozen part G of the heap H -/
structure Sta (L : List Sl) (σ : L2.St) (G H : Hp) : Prop where
  gh : Same G H
  ln : σ.length = L.length
  sl : ∀ (i : Nat) (x : Option V) (t : Sl), σ[i]? = some x → L[i]? = some t → SlOk G H x t
  di : ∀ (i j : Nat) (a : Addr) (ds es : List PyData), L[i]? = some (Sl.ow ds) → L[j]? = some (Sl.ow es) → σ[i]? = some (some (V.ref a)) → σ[j]? = some (some (V.ref a)) → i = j

/-- kept, but for tables and codes -/
def Fr1 (H' G' : Hp) (b : Addr) (o : HO) : Prop := Pl o → H' b = some o ∧ G' b = none
structure Thr (G H G' H' : Hp) : Prop where
  th : ∀ b o, H b = some o → ∃ u, H' b = some u
  tb : LamX.Tabs TabL.T H → LamX.Tabs TabL.T H'
  nt : NoT G → NoT G'
section
variable {G G' G1 G2 H H' H1 H2 : Hp}
theorem Thr.refl : Thr G H G H := ⟨fun _ o h => ⟨o, h⟩, fun h => h, fun h => h⟩
theorem Thr.trans (a : Thr G H G1 H1) (b : Thr G1 H1 G2 H2) : Thr G H G2 H2 := ⟨fun c o h => let ⟨u, h1⟩ := a.th c o h; b.th c u h1, fun h => b.tb (a.tb h), fun h => b.nt (a.nt h)⟩
theorem Thr.ext (e : ∀ b o, H b = some o → H' b = some o) (n : NoT G → NoT G' := by exact fun h => h) : Thr G H G' H' := ⟨fun b o h => ⟨o, e b o h⟩, fun h => h.ext e, n⟩
theorem Thr.frz {p : Addr} {o : HO} (n : NT o) : Thr G H (upd G p o) H := .ext (fun _ _ h => h) fun h => h.upd n
/-- only lists change -/
theorem Thr.lists (t : ∀ b o, H b = some o → ∃ u, H' b = some u) (e : ∀ b o, H b = some o → (∀ xs, o ≠ .lst xs) → H' b = some o) : Thr G H G H' := by
  refine ⟨t, fun h p hp => ?_, fun h => h⟩
  obtain ⟨ps, h1, h2, h3⟩ := h p hp
  refine ⟨ps, e _ _ h1 (fun xs z => by cases z), h2, fun pos cv hc => ?_⟩
  obtain ⟨c, e1, e2⟩ := h3 pos cv hc
  exact ⟨c, e1, e _ _ e2 fun xs z => by unfold LamX.CodeO at z; cases z⟩
theorem Thr.put {q : Addr} {xs ys : List V} (h : H q = some (.lst xs)) : Thr G H G (upd H q (.lst ys)) := by
  refine .lists (fun b o hb => ?_) fun b o hb n => ?_
  · by_cases e : b = q
    · exact ⟨_, by rw [e]; exact upd_same⟩
    · exact ⟨o, by rw [upd_ne e]; exact hb⟩
  · rw [upd_ne]
    · exact hb
    · intro e
      rw [e, h] at hb
      exact n xs (Option.some.inj hb).symm
theorem Thr.tabs (t : Thr G H G' H') (h : LamX.Tabs TabL.T H ∧ NoT G) : LamX.Tabs TabL.T H' ∧ NoT G' := ⟨t.tb h.1, t.nt h.2⟩
end
/-- what an evaluation leaves -/
structure Te (L : List Sl) (σ : L2.St) (G H : Hp) (L' : List Sl) (G' H' : Hp) : Prop where
  g : Same G G'
  fr : ∀ b o, H b = some o → G b = none → ¬ Own L σ b → Fr1 H' G' b o
  ow : ∀ b, Own L' σ b → Own L σ b
  th : Thr G H G' H'
/-- what a statement leaves -/
structure Ts (L : List Sl) (σ : L2.St) (G H : Hp) (L' : List Sl) (σ' : L2.St) (G' H' : Hp) : Prop where
  g : Same G G'
  fr : ∀ b o, H b = some o → G b = none → ¬ Own L σ b → Fr1 H' G' b o
  ow : ∀ b, Own L' σ' b → Own L σ b ∨ H b = none
  th : Thr G H G' H'

section
variable {L L1 L2' L' : List Sl} {σ σ' σ1 σ2 : L2.St} {G G1 G2 G' H H1 H2 H' : Hp} {p : Addr} {o : HO} {xs : List V} {d : PyData} {ds : List PyData} {v : V}
theorem Te.refl : Te L σ G H L G H := ⟨Same.refl _, fun _ _ h g _ _ => ⟨h, g⟩, fun _ h => h, .refl⟩
theorem Te.trans (a : Te L σ G H L1 G1 H1) (b : Te L1 σ G1 H1 L' G' H') : Te L σ G H L' G' H' :=
  ⟨a.g.trans b.g, fun c o h g n t => let ⟨h1, g1⟩ := a.fr c o h g n t; b.fr c o h1 g1 (fun z => n (a.ow c z)) t, fun c z => a.ow c (b.ow c z), a.th.trans b.th⟩
theorem Te.back (a : Te L σ G H L1 G1 H1) (h : H1 p = none) : H p = none := by
  cases e : H p with
  | none => rfl
  | some o =>
    obtain ⟨u, q⟩ := a.th.th p o e
    rw [h] at q
    cases q
theorem Te.ts (a : Te L σ G H L1 G1 H1) : Ts L σ G H L1 σ G1 H1 := ⟨a.g, a.fr, fun b z => .inl (a.ow b z), a.th⟩
theorem Ts.refl : Ts L σ G H L σ G H := Te.refl.ts
theorem Sta.own_some (S : Sta L σ G H) {b : Addr} (h : Own L σ b) : (∃ xs, H b = some (.lst xs)) ∧ G b = none := by
  obtain ⟨i, ds, h1, h2⟩ := h
  obtain ⟨a, xs, e, h3, _, h4⟩ := S.sl i _ _ h2 h1
  cases e
  exact ⟨⟨xs, h3⟩, h4⟩
theorem Ts.trans (gh : Same G1 H1) (a : Ts L σ G H L1 σ1 G1 H1) (b : Ts L1 σ1 G1 H1 L' σ' G' H') : Ts L σ G H L' σ' G' H' := by
  refine ⟨a.g.trans b.g, fun c o h g n t => ?_, fun c z => ?_, a.th.trans b.th⟩
  · obtain ⟨h1, g1⟩ := a.fr c o h g n t
    refine b.fr c o h1 g1 (fun z => ?_) t
    rcases a.ow c z with z | z
    · exact n z
    · rw [h] at z
      cases z
  · rcases b.ow c z with z | z
    · exact a.ow c z
    · by_cases q : Own L σ c
      · exact .inl q
      · cases e : H c with
        | none => exact .inr rfl
        | some o =>
          obtain ⟨u, h1⟩ := a.th.th c o e
          rw [h1] at z
          cases z
/-- a new object -/
theorem Sta.new (S : Sta L σ G H) (h : H p = none) : Sta L σ G (upd H p o) ∧ Te L σ G H L G (upd H p o) := by
  refine ⟨⟨fun b u q => ?_, S.ln, fun i x t e1 e2 => ?_, S.di⟩, ⟨Same.refl _, fun b u q g _ _ => ⟨by rw [upd_ne (ne_of_none q h)]; exact q, g⟩, fun _ z => z, .ext fun b u q => by rw [upd_ne (ne_of_none q h)]; exact q⟩⟩
  · rw [upd_ne (ne_of_none (S.gh b u q) h)]
    exact S.gh b u q
  · have q := S.sl i x t e1 e2
    cases t with
    | no => exact q
    | va d => exact q
    | ow ds =>
      obtain ⟨a, ys, e, q1, q2, q3⟩ := q
      exact ⟨a, ys, e, by rw [upd_ne (ne_of_none q1 h)]; exact q1, q2, q3⟩
    | tb => exact Thr.tabs (.ext (fun b u q => by rw [upd_ne (ne_of_none q h)]; exact q)) q
    | fn f G1 => exact q
theorem Sta.gn (S : Sta L σ G H) (h : H p = none) : G p = none := by
  cases e : G p with
  | none => rfl
  | some u =>
    rw [S.gh p u e] at h
    cases h
theorem Same.upd_ {o : HO} (h : G p = none) : Same G (upd G p o) := fun b u q => by
  rw [upd_ne (ne_of_none q h)]
  exact q
/-- a new object that is frozen at once -/
theorem Sta.newG (S : Sta L σ G H) (h : H p = none) (no : NT o := by intro _ z; cases z) : Sta L σ (upd G p o) (upd H p o) ∧ Te L σ G H L (upd G p o) (upd H p o) := by
  have hg : G p = none := by
    cases e : G p with
    | none => rfl
    | some u =>
      rw [S.gh p u e] at h
      cases h
  refine ⟨⟨fun b u q => ?_, S.ln, fun i x t e1 e2 => ?_, S.di⟩, ⟨Same.upd_ hg, fun b u q g _ _ => ⟨by rw [upd_ne (ne_of_none q h)]; exact q, by rw [upd_ne (ne_of_none q h)]; exact g⟩, fun _ z => z, .ext (fun b u q => by rw [upd_ne (ne_of_none q h)]; exact q) fun g => g.upd no⟩⟩
  · by_cases hb : b = p
    · rw [hb, upd_same] at q
      rw [hb, upd_same]
      exact q
    · rw [upd_ne hb] at q
      rw [upd_ne hb]
      exact S.gh b u q
  · have q := S.sl i x t e1 e2
    cases t with
    | no => exact q
    | va d =>
      obtain ⟨v, e, r⟩ := q
      exact ⟨v, e, r.up (Same.upd_ hg)⟩
    | ow ds =>
      obtain ⟨a, ys, e, q1, q2, q3⟩ := q
      exact ⟨a, ys, e, by rw [upd_ne (ne_of_none q1 h)]; exact q1, q2.up (Same.upd_ hg), by rw [upd_ne (ne_of_none q1 h)]; exact q3⟩
    | tb => exact Thr.tabs (.ext (fun b u q => by rw [upd_ne (ne_of_none q h)]; exact q) fun g => g.upd no) q
    | fn f G1 => exact ⟨q.1, q.2.trans (Same.upd_ hg)⟩
/-- an object that stands, known to nobody else, is frozen -/
theorem Sta.freeze (S : Sta L σ G H) (h : H p = some o) (hg : G p = none) (no : ¬ Own L σ p) (nt : NT o := by intro _ z; cases z) : Sta L σ (upd G p o) H ∧ Same G (upd G p o) := by
  refine ⟨⟨fun b u q => ?_, S.ln, fun i x t e1 e2 => ?_, S.di⟩, Same.upd_ hg⟩
  · by_cases hb : b = p
    · rw [hb, upd_same] at q
      rw [hb, ← q]
      exact h
    · rw [upd_ne hb] at q
      exact S.gh b u q
  · have q := S.sl i x t e1 e2
    cases t with
    | no => exact q
    | va d =>
      obtain ⟨v, e, r⟩ := q
      exact ⟨v, e, r.up (Same.upd_ hg)⟩
    | ow ds =>
      obtain ⟨a, ys, e, q1, q2, q3⟩ := q
      refine ⟨a, ys, e, q1, q2.up (Same.upd_ hg), ?_⟩
      rw [upd_ne]
      · exact q3
      · rintro rfl
        subst e
        exact no ⟨i, ds, e2, e1⟩
    | tb => exact Thr.tabs (.frz nt) q
    | fn f G1 => exact ⟨q.1, q.2.trans (Same.upd_ hg)⟩
end

/-! ### contexts: a def's body at all its calls, a block within one -/
structure Fam where
  J : Type
  x : J → Cx
  P : Program
  w : World
  K : PySem.W.Frag
  mg : Str → Option Value
  base : Heap
  N : List Str
  sc : Scope
  fn : Str → Bool
  k : Nat
  hP : ∀ j, (x j).prog = P
  hw : ∀ j, (x j).w = w
  hK : ∀ j, (x j).K = K
  hmg : ∀ j, (x j).mg = mg
  hbase : ∀ j, (x j).base = base
  hN : ∀ j, (x j).N = N
  hsc : ∀ j, (x j).env.scope = sc
  hfn : ∀ j, (x j).fn = fn
  hc : ∀ j, (x j).calm = true
  hr : ∀ j, Room k (x j).A
  hxe : ∀ j, (x j).xe = fun _ _ => False
  hg : ∀ j, (x j).A.guards = some []
theorem relabel_eq (scope : Scope) (env : Env) : relabel scope env = relS scope env.scope := rfl
/-- a comprehension's block -/
def Fam.blk (F : Fam) (scope : Scope) : Fam where
  J := F.J × Shared × Hp × Addr × List (Str × Addr) × List Addr
  x := fun j => (F.x j.1).blk j.2.1 j.2.2.1 scope (compEnvC scope j.2.2.2.2.1 j.2.2.2.1 (F.x j.1).env) j.2.2.2.2.2
  P := F.P
  w := F.w
  K := F.K
  mg := F.mg
  base := F.base
  N := F.N
  sc := relS scope F.sc
  fn := fun y => scope.names.lookup y == some .cell
  k := F.k
  hP := fun j => F.hP j.1
  hw := fun j => F.hw j.1
  hK := fun j => F.hK j.1
  hmg := fun j => F.hmg j.1
  hbase := fun j => F.hbase j.1
  hN := fun j => F.hN j.1
  hsc := fun j => by
    show relabel scope (F.x j.1).env = relS scope F.sc
    rw [relabel_eq, F.hsc]
  hfn := fun j => rfl
  hc := fun j => F.hc j.1
  hr := fun j => F.hr j.1
  hxe := fun j => rfl
  hg := fun j => F.hg j.1
def PEf (F : Fam) (e : Expr) (t : TE) : Prop := ∀ j, PE (F.x j) e t
def PTf (F : Fam) (e : Expr) (t : TT) : Prop := ∀ j, PT (F.x j) e t
def PWf (F : Fam) (e : Expr) (t : TT) : Prop := ∀ j, PW (F.x j) e t
def PAf (F : Fam) (es : List Expr) (t : TA) : Prop := ∀ j, PA (F.x j) es t
def PSf (F : Fam) (s : Stmt) (t : TS) : Prop := ∀ j, PS (F.x j) s t
def PSsf (F : Fam) (s : List Stmt) (t : TS) : Prop := ∀ j, PSs (F.x j) s t
def PGf (F : Fam) (e : Expr) (t : TG) : Prop := ∀ j, PG (F.x j) e t
def PIf (F : Fam) (tg e : Expr) (t : TI) : Prop := ∀ j, PI (F.x j) tg e t
def GlF (F : Fam) (x : Str) : Prop := F.sc.names.lookup x = some .globalImplicit
theorem GlF.gl {F : Fam} {x : Str} (h : GlF F x) (j : F.J) : Gl (F.x j) x := by
  show (F.x j).env.scope.names.lookup x = _
  rw [F.hsc]
  exact h

/-! ### judgements -/
section
variable (F : Fam)
/-- e gives d, frozen -/
def ED (e : Expr) (L : List Sl) (d : PyData) (L' : List Sl) : Prop := ∃ te, PEf F e te ∧ ∀ σ G H, Sta L σ G H → ∀ Q : VK, (∀ v G' H', Sta L' σ G' H' → Te L σ G H L' G' H' → Rp G' v d → Q v H') → te σ H Q
/-- e gives a new list of ds -/
def FD (e : Expr) (L : List Sl) (ds : List PyData) (L' : List Sl) : Prop := ∃ te, PEf F e te ∧ ∀ σ G H, Sta L σ G H → ∀ Q : VK, (∀ p xs G' H', Sta L' σ G' H' → Te L σ G H L' G' H' → H p = none → H' p = some (.lst xs) → G' p = none → RpA G' xs ds → Q (.ref p) H') → te σ H Q
/-- e gives a list of ds, perhaps one's own -/
def LD (e : Expr) (L : List Sl) (ds : List PyData) (L' : List Sl) : Prop := ∃ te, PEf F e te ∧ ∀ σ G H, Sta L σ G H → ∀ Q : VK, (∀ p xs G' H', Sta L' σ G' H' → Te L σ G H L' G' H' → H' p = some (.lst xs) → RpA G' xs ds → Q (.ref p) H') → te σ H Q
/-- e gives d, as it stands now -/
def HD (e : Expr) (L : List Sl) (d : PyData) (L' : List Sl) : Prop := ∃ te, PEf F e te ∧ ∀ σ G H, Sta L σ G H → ∀ Q : VK, (∀ v G' H', Sta L' σ G' H' → Te L σ G H L' G' H' → Rp H' v d → Q v H') → te σ H Q
/-- a test -/
def BD (e : Expr) (L : List Sl) (b : Bool) (L' : List Sl) : Prop := ∃ tt, PTf F e tt ∧ ∀ σ G H, Sta L σ G H → ∀ Q : Bool → Hp → Prop, (∀ G' H', Sta L' σ G' H' → Te L σ G H L' G' H' → Q b H') → tt σ H Q
/-- arguments -/
def AD (es : List Expr) (L : List Sl) (ds : List PyData) (L' : List Sl) : Prop := ∃ ta, PAf F es ta ∧ ∀ σ G H, Sta L σ G H → ∀ Q : List V → Hp → Prop, (∀ vs G' H', Sta L' σ G' H' → Te L σ G H L' G' H' → RpA G' vs ds → Q vs H') → ta σ H Q
end

section
variable {F : Fam} {e a b c : Expr} {L L1 L2' L' L3 : List Sl} {d d1 d2 : PyData} {ds es : List PyData} {i : Nat}

theorem Sta.own_ne {σ : L2.St} {G H : Hp} {p : Addr} (S : Sta L σ G H) (h : H p = none) : ¬ Own L σ p := fun z => by
  obtain ⟨⟨xs, q⟩, _⟩ := S.own_some z
  rw [q] at h
  cases h
theorem FD.ed (h : FD F e L ds L') : ED F e L (.list ds) L' := by
  obtain ⟨te, pe, run⟩ := h
  refine ⟨te, pe, fun σ G H S Q q => run σ G H S _ fun p xs G' H' S' T hp hp' gp r => ?_⟩
  have no : ¬ Own L' σ p := fun z => S.own_ne hp (T.ow p z)
  obtain ⟨S2, g2⟩ := S'.freeze hp' gp no
  refine q _ _ _ S2 ⟨T.g.trans g2, fun b o h g n t => ?_, T.ow, T.th.trans (.frz nt_lst)⟩ (.lst upd_same (r.up g2))
  obtain ⟨h1, h2⟩ := T.fr b o h g n t
  refine ⟨h1, ?_⟩
  rw [upd_ne (ne_of_none h hp)]
  exact h2
theorem ED.ld (h : ED F e L (.list ds) L') : LD F e L ds L' := by
  obtain ⟨te, pe, run⟩ := h
  refine ⟨te, pe, fun σ G H S Q q => run σ G H S _ fun v G' H' S' T r => ?_⟩
  cases r with
  | lst h1 h2 => exact q _ _ _ _ S' T (S'.gh _ _ h1) h2
theorem FD.ld (h : FD F e L ds L') : LD F e L ds L' := by
  obtain ⟨te, pe, run⟩ := h
  exact ⟨te, pe, fun σ G H S Q q => run σ G H S _ fun p xs G' H' S' T hp hp' gp r => q _ _ _ _ S' T hp' r⟩
theorem LD.hd (h : LD F e L ds L') : HD F e L (.list ds) L' := by
  obtain ⟨te, pe, run⟩ := h
  exact ⟨te, pe, fun σ G H S Q q => run σ G H S _ fun p xs G' H' S' T hp r => q _ _ _ S' T (.lst hp (r.up S'.gh))⟩
theorem ED.hd (h : ED F e L d L') : HD F e L d L' := by
  obtain ⟨te, pe, run⟩ := h
  exact ⟨te, pe, fun σ G H S Q q => run σ G H S _ fun v G' H' S' T r => q _ _ _ S' T (r.up S'.gh)⟩

/-! names, constants -/
theorem Sta.get {σ : L2.St} {G H : Hp} {t : Sl} (S : Sta L σ G H) (h : L[i]? = some t) : ∃ x, σ[i]? = some x ∧ SlOk G H x t := by
  have hl : i < σ.length := by
    rw [S.ln]
    exact (List.getElem?_eq_some_iff.mp h).1
  exact ⟨σ[i], List.getElem?_eq_getElem hl, S.sl i _ t (List.getElem?_eq_getElem hl) h⟩
theorem ed_var_ {te : TE} (pe : PEf F e te) (ht : te = tVar i) (h : L[i]? = some (.va d)) : ED F e L d L := by
  subst ht
  refine ⟨_, pe, fun σ G H S Q q => ?_⟩
  obtain ⟨x, e1, v, rfl, r⟩ := S.get h
  exact ⟨v, e1, q _ _ _ S .refl r⟩
theorem ld_var_ {te : TE} (pe : PEf F e te) (ht : te = tVar i) (h : L[i]? = some (.ow ds)) : LD F e L ds L := by
  subst ht
  refine ⟨_, pe, fun σ G H S Q q => ?_⟩
  obtain ⟨x, e1, p, xs, rfl, h1, r, _⟩ := S.get h
  exact ⟨_, e1, q _ _ _ _ S .refl h1 r⟩
theorem ed_c_ {v : V} (pe : PEf F e (tC v)) (r : ∀ G, Rp G v d) : ED F e L d L := ⟨_, pe, fun σ G H S Q q => q _ _ _ S .refl (r G)⟩
theorem ed_int {n : Int} {j pos} : ED F (.Constant (.int n) j pos) L (.int n) L := ed_c_ (fun _ => pe_int) fun _ => .int _
theorem ed_bl {n : Bool} {j pos} : ED F (.Constant (.bool n) j pos) L (.bool n) L := ed_c_ (fun _ => pe_bl) fun _ => .bl _
theorem ed_non {j pos} : ED F (.Constant .none j pos) L .none L := ed_c_ (fun _ => pe_non) fun _ => .non
theorem ed_str {n : Str} {j pos} : ED F (.Constant (.str n) j pos) L (.str n) L := ed_c_ (fun _ => pe_str) fun _ => .str _

/-! operators of values -/
theorem ed_op {op : Operator} {r : R2} {pos : Pos} (ho : ∀ j, OpR (F.x j) (binaryOp op) r) (ha : ED F a L d1 L1) (hb : ED F b L1 d2 L2')
    (hr : ∀ x y G H, Same G H → Rp G x d1 → Rp G y d2 → ∀ Q : VK, (∀ v, Rp G v d → Q v H) → r x y H Q) : ED F (.BinOp a op b pos) L d L2' := by
  obtain ⟨ta, pa, ra⟩ := ha
  obtain ⟨tb, pb, rb⟩ := hb
  refine ⟨_, fun j => pe_op (ho j) (pa j) (pb j), fun σ G H S Q q => ra σ G H S _ fun x G1 H1 S1 T1 r1 => rb σ G1 H1 S1 _ fun y G2 H2 S2 T2 r2 => ?_⟩
  exact hr x y G2 H2 S2.gh (r1.up T2.g) r2 Q fun v rv => q v G2 H2 S2 (T1.trans T2) rv
/-- a comparison, as a value and as a test -/
def CD (F : Fam) (e : Expr) (L : List Sl) (k : Bool) (L' : List Sl) : Prop := ∃ te, PEf F e te ∧ PTf F e (tTest te) ∧ ∀ σ G H, Sta L σ G H → ∀ Q : VK, (∀ G' H', Sta L' σ G' H' → Te L σ G H L' G' H' → Q (.bl k) H') → te σ H Q
theorem CD.ed {k : Bool} (h : CD F e L k L') : ED F e L (.bool k) L' := by
  obtain ⟨te, pe, _, run⟩ := h
  exact ⟨te, pe, fun σ G H S Q q => run σ G H S Q fun G' H' S' T' => q _ _ _ S' T' (.bl k)⟩
theorem CD.bd {k : Bool} (h : CD F e L k L') : BD F e L k L' := by
  obtain ⟨te, _, pt, run⟩ := h
  exact ⟨_, pt, fun σ G H S Q q => run σ G H S _ fun G' H' S' T' => ⟨k, rfl, q G' H' S' T'⟩⟩
theorem CD.is {k l : Bool} (h : CD F e L k L') (q : k = l) : CD F e L l L' := q ▸ h
theorem cd_cmp {op : CmpOp} {r : R2} {pos : Pos} {k : Bool} (ho : ∀ j, OpR (F.x j) (compareOp op) r) (hm : behindInMarks op b = false) (ha : ED F a L d1 L1) (hb : ED F b L1 d2 L2')
    (hr : ∀ x y G H, Same G H → Rp G x d1 → Rp G y d2 → ∀ Q : VK, Q (.bl k) H → r x y H Q) : CD F (.Compare a [op] [b] pos) L k L2' := by
  obtain ⟨ta, pa, ra⟩ := ha
  obtain ⟨tb, pb, rb⟩ := hb
  refine ⟨_, fun j => pe_cmpR (ho j) (pa j) (pb j) hm, fun j => pt_cmpR (ho j) (pa j) (pb j) hm, fun σ G H S Q q => ra σ G H S _ fun x G1 H1 S1 T1 r1 => rb σ G1 H1 S1 _ fun y G2 H2 S2 T2 r2 => ?_⟩
  exact hr x y G2 H2 S2.gh (r1.up T2.g) r2 Q (q G2 H2 S2 (T1.trans T2))
theorem cd_cmpH {op : CmpOp} {r : R2} {pos : Pos} {k : Bool} (ho : ∀ j, OpR (F.x j) (compareOp op) r) (hm : behindInMarks op b = false) (ha : ED F a L d1 L1) (hb : HD F b L1 d2 L2')
    (hr : ∀ x y H, Rp H x d1 → Rp H y d2 → ∀ Q : VK, Q (.bl k) H → r x y H Q) : CD F (.Compare a [op] [b] pos) L k L2' := by
  obtain ⟨ta, pa, ra⟩ := ha
  obtain ⟨tb, pb, rb⟩ := hb
  refine ⟨_, fun j => pe_cmpR (ho j) (pa j) (pb j) hm, fun j => pt_cmpR (ho j) (pa j) (pb j) hm, fun σ G H S Q q => ra σ G H S _ fun x G1 H1 S1 T1 r1 => rb σ G1 H1 S1 _ fun y G2 H2 S2 T2 r2 => ?_⟩
  exact hr x y H2 ((r1.up T2.g).up S2.gh) r2 Q (q G2 H2 S2 (T1.trans T2))
section
variable {m n : Int} {pos : Pos}
theorem ed_add (ha : ED F a L (.int m) L1) (hb : ED F b L1 (.int n) L2') : ED F (.BinOp a .Add b pos) L (.int (m + n)) L2' := ed_op (fun _ => op_add) ha hb fun x y G H _ r1 r2 Q q => by
  cases r1; cases r2; exact ⟨m, n, rfl, rfl, q _ (.int _)⟩
theorem ed_sub (ha : ED F a L (.int m) L1) (hb : ED F b L1 (.int n) L2') : ED F (.BinOp a .Sub b pos) L (.int (m - n)) L2' := ed_op (fun _ => op_sub) ha hb fun x y G H _ r1 r2 Q q => by
  cases r1; cases r2; exact ⟨m, n, rfl, rfl, q _ (.int _)⟩
theorem ed_mul (hc : CMul m n) (ha : ED F a L (.int m) L1) (hb : ED F b L1 (.int n) L2') : ED F (.BinOp a .Mult b pos) L (.int (m * n)) L2' := ed_op (fun _ => op_mul) ha hb fun x y G H _ r1 r2 Q q => by
  cases r1; cases r2; exact ⟨m, n, rfl, rfl, hc, q _ (.int _)⟩
theorem ed_fdiv (hc : CDiv m n) (ha : ED F a L (.int m) L1) (hb : ED F b L1 (.int n) L2') : ED F (.BinOp a .FloorDiv b pos) L (.int (m / n)) L2' := ed_op (fun _ => op_fdiv) ha hb fun x y G H _ r1 r2 Q q => by
  cases r1; cases r2; exact ⟨m, n, rfl, rfl, hc, q _ (.int _)⟩
theorem ed_mod (hc : 0 < n) (ha : ED F a L (.int m) L1) (hb : ED F b L1 (.int n) L2') : ED F (.BinOp a .Mod b pos) L (.int (m % n)) L2' := ed_op (fun _ => op_mod) ha hb fun x y G H _ r1 r2 Q q => by
  cases r1; cases r2; exact ⟨m, n, rfl, rfl, hc, q _ (.int _)⟩
theorem ed_pow (hc : CPow m n) (ha : ED F a L (.int m) L1) (hb : ED F b L1 (.int n) L2') : ED F (.BinOp a .Pow b pos) L (.int (m ^ n.toNat)) L2' := ed_op (fun _ => op_pow) ha hb fun x y G H _ r1 r2 Q q => by
  cases r1; cases r2; exact ⟨m, n, rfl, rfl, hc, q _ (.int _)⟩
theorem cd_lt (ha : ED F a L (.int m) L1) (hb : ED F b L1 (.int n) L2') : CD F (.Compare a [.Lt] [b] pos) L (decide (m < n)) L2' := cd_cmp (fun _ => op_lt) (nomark _) ha hb fun x y G H _ r1 r2 Q q => by
  cases r1; cases r2; exact ⟨m, n, rfl, rfl, q⟩
theorem cd_le (ha : ED F a L (.int m) L1) (hb : ED F b L1 (.int n) L2') : CD F (.Compare a [.LtE] [b] pos) L (decide (m ≤ n)) L2' := cd_cmp (fun _ => op_le) (nomark _) ha hb fun x y G H _ r1 r2 Q q => by
  cases r1; cases r2; exact ⟨m, n, rfl, rfl, q⟩
theorem cd_gt (ha : ED F a L (.int m) L1) (hb : ED F b L1 (.int n) L2') : CD F (.Compare a [.Gt] [b] pos) L (decide (n < m)) L2' := cd_cmp (fun _ => op_gt) (nomark _) ha hb fun x y G H _ r1 r2 Q q => by
  cases r1; cases r2; exact ⟨m, n, rfl, rfl, q⟩
theorem cd_ge (ha : ED F a L (.int m) L1) (hb : ED F b L1 (.int n) L2') : CD F (.Compare a [.GtE] [b] pos) L (decide (n ≤ m)) L2' := cd_cmp (fun _ => op_ge) (nomark _) ha hb fun x y G H _ r1 r2 Q q => by
  cases r1; cases r2; exact ⟨m, n, rfl, rfl, q⟩
theorem cd_eqI (ha : ED F a L (.int m) L1) (hb : ED F b L1 (.int n) L2') : CD F (.Compare a [.Eq] [b] pos) L (decide (m = n)) L2' := cd_cmp (fun _ => op_eq) (nomark _) ha hb fun x y G H _ r1 r2 Q q => by
  cases r1; cases r2
  refine ⟨rfl, ?_⟩
  have e : decide (V.int m = V.int n) = decide (m = n) := by
    by_cases h : m = n
    · subst h; simp
    · rw [decide_eq_false h, decide_eq_false fun z => h (V.int.inj z)]
  rw [e]
  exact q
theorem cd_neI (ha : ED F a L (.int m) L1) (hb : ED F b L1 (.int n) L2') : CD F (.Compare a [.NotEq] [b] pos) L (!decide (m = n)) L2' := cd_cmp (fun _ => op_ne) (nomark _) ha hb fun x y G H _ r1 r2 Q q => by
  cases r1; cases r2
  refine ⟨rfl, ?_⟩
  have e : decide (V.int m = V.int n) = decide (m = n) := by
    by_cases h : m = n
    · subst h; simp
    · rw [decide_eq_false h, decide_eq_false fun z => h (V.int.inj z)]
  rw [e]
  exact q
end
end
end DL
namespace DL
open PySem L2
variable [TabL]

section
variable {F : Fam} {e a b c : Expr} {es : List Expr} {L L1 L2' L' L3 : List Sl} {d d1 d2 : PyData} {ds ds2 : List PyData} {i : Nat} {pos p : Pos} {x : Str}

theorem pvF (F : Fam) (i : Nat) {x : Str} {pos : Pos} (hN : F.N[i]? = some x) (hv : Vis F.sc x) (hd : (x == ("__debug__" : Str)) = false) (hcd : (x == ("__classdict__" : Str)) = false) : PEf F (.Name x pos) (tVar i) :=
  fun j => pe_var (by rw [F.hN]; exact hN) (by rw [F.hsc]; exact hv) hd hcd
/-- a name that holds frozen data -/
theorem ed_var (i : Nat) (h : L[i]? = some (Sl.va d)) (hN : F.N[i]? = some x := by rfl) (hv : Vis F.sc x := by first | exact Or.inl rfl | exact Or.inr (Or.inl rfl) | exact Or.inr (Or.inr rfl)) (hd : (x == ("__debug__" : Str)) = false := by decide) (hcd : (x == ("__classdict__" : Str)) = false := by decide) : ED F (.Name x pos) L d L :=
  ed_var_ (pvF F i hN hv hd hcd) rfl h
/-- a name that holds its own list -/
theorem ld_var (i : Nat) (h : L[i]? = some (Sl.ow ds)) (hN : F.N[i]? = some x := by rfl) (hv : Vis F.sc x := by first | exact Or.inl rfl | exact Or.inr (Or.inl rfl) | exact Or.inr (Or.inr rfl)) (hd : (x == ("__debug__" : Str)) = false := by decide) (hcd : (x == ("__classdict__" : Str)) = false := by decide) : LD F (.Name x pos) L ds L :=
  ld_var_ (pvF F i hN hv hd hcd) rfl h
/-- a constant of the module -/
theorem ed_glob {u : Value} {v : V} (hm : F.mg x = some u) (r : RelV v u) (rp : ∀ G, Rp G v d) (hg : GlF F x := by rfl) (hd : (x == ("__debug__" : Str)) = false := by decide) : ED F (.Name x pos) L d L :=
  ed_c_ (v := v) (fun j => pe_glob (hg.gl j) (by rw [F.hmg]; exact hm) r hd) rp
theorem ed_globI {n : Int} {t : Tok} (hm : F.mg x = some (.int n t)) (hg : GlF F x := by rfl) (hd : (x == ("__debug__" : Str)) = false := by decide) : ED F (.Name x pos) L (.int n) L :=
  ed_glob (v := .int n) hm ⟨_, rfl⟩ (fun _ => .int n) hg hd
theorem ED.is (h : ED F e L d L') (q : d = d2) : ED F e L d2 L' := q ▸ h
theorem LD.is (h : LD F e L ds L') (q : ds = ds2) : LD F e L ds2 L' := q ▸ h
theorem FD.is (h : FD F e L ds L') (q : ds = ds2) : FD F e L ds2 L' := q ▸ h

/-! ### tests -/
theorem pt_no (X : Cx) (e : Expr) : PT X e (fun _ _ _ => False) := ⟨fun _ _ _ _ _ _ h => h.elim⟩
theorem pe_no (X : Cx) (e : Expr) : PE X e (fun _ _ _ => False) := ⟨fun _ _ _ _ _ _ h => h.elim⟩
theorem pw_no (X : Cx) (e : Expr) : PW X e (fun _ _ _ => False) := ⟨fun _ _ _ _ _ _ _ h => h.elim⟩
theorem BD.is {u v : Bool} (h : BD F e L u L') (q : u = v) : BD F e L v L' := q ▸ h
theorem bd_val {k : Bool} (h : ED F e L (.bool k) L') (he : ∀ X t, PE X e t → PT X e (tB t) := by intro X t q; exact pt_val q) : BD F e L k L' := by
  obtain ⟨te, pe, run⟩ := h
  refine ⟨_, fun j => he _ _ (pe j), fun σ G H S Q q => run σ G H S _ fun v G' H' S' T r => ?_⟩
  cases r
  exact ⟨k, rfl, q _ _ S' T⟩
theorem bd_not {k : Bool} (h : BD F e L k L') : BD F (.UnaryOp .Not e pos) L (!k) L' := by
  obtain ⟨te, pe, run⟩ := h
  exact ⟨_, fun j => pt_not (pe j), fun σ G H S Q q => run σ G H S _ fun G' H' S' T => q _ _ S' T⟩
/-- the chains of and, or -/
def WD (F : Fam) (e : Expr) (L : List Sl) (b : Bool) (L' : List Sl) : Prop := ∃ tt, PWf F e tt ∧ ∀ σ G H, Sta L σ G H → ∀ Q : Bool → Hp → Prop, (∀ G' H', Sta L' σ G' H' → Te L σ G H L' G' H' → Q b H') → tt σ H Q
theorem WD.bd {k : Bool} (h : WD F e L k L') : BD F e L k L' := by
  obtain ⟨te, pe, run⟩ := h
  exact ⟨_, fun j => (pe j).pt, run⟩
theorem wd_and1 {k : Bool} (h : BD F a L k L') : WD F (.BoolOp .And [a] pos) L k L' := by
  obtain ⟨te, pe, run⟩ := h
  exact ⟨_, fun j => pw_and1 (pe j), run⟩
theorem wd_or1 {k : Bool} (h : BD F a L k L') : WD F (.BoolOp .Or [a] pos) L k L' := by
  obtain ⟨te, pe, run⟩ := h
  exact ⟨_, fun j => pw_or1 (pe j), run⟩
theorem wd_andT {k : Bool} (h : BD F a L true L1) (h2 : WD F (.BoolOp .And (b :: es) pos) L1 k L') : WD F (.BoolOp .And (a :: b :: es) pos) L k L' := by
  obtain ⟨te, pe, run⟩ := h
  obtain ⟨te2, pe2, run2⟩ := h2
  refine ⟨_, fun j => pw_and (pe j) (pe2 j), fun σ G H S Q q => run σ G H S _ fun G' H' S' T => ?_⟩
  exact iteT (run2 σ G' H' S' Q fun G2 H2 S2 T2 => q _ _ S2 (T.trans T2))
theorem wd_andF (h : BD F a L false L1) : WD F (.BoolOp .And (a :: b :: es) pos) L false L1 := by
  obtain ⟨te, pe, run⟩ := h
  refine ⟨_, fun j => pw_and (pe j) (pw_no _ _), fun σ G H S Q q => run σ G H S _ fun G' H' S' T => ?_⟩
  exact iteF (q _ _ S' T)
theorem wd_orF {k : Bool} (h : BD F a L false L1) (h2 : WD F (.BoolOp .Or (b :: es) pos) L1 k L') : WD F (.BoolOp .Or (a :: b :: es) pos) L k L' := by
  obtain ⟨te, pe, run⟩ := h
  obtain ⟨te2, pe2, run2⟩ := h2
  refine ⟨_, fun j => pw_or (pe j) (pe2 j), fun σ G H S Q q => run σ G H S _ fun G' H' S' T => ?_⟩
  exact iteF (run2 σ G' H' S' Q fun G2 H2 S2 T2 => q _ _ S2 (T.trans T2))
theorem wd_orT (h : BD F a L true L1) : WD F (.BoolOp .Or (a :: b :: es) pos) L true L1 := by
  obtain ⟨te, pe, run⟩ := h
  refine ⟨_, fun j => pw_or (pe j) (pw_no _ _), fun σ G H S Q q => run σ G H S _ fun G' H' S' T => ?_⟩
  exact iteT (q _ _ S' T)
/-- a and b, nothing changed by either -/
theorem bd_and2 {k l : Bool} (h : BD F a L k L) (h2 : k = true → BD F b L l L) : BD F (.BoolOp .And [a, b] pos) L (k && l) L := by
  cases k with
  | true => exact (wd_andT h (wd_and1 (h2 rfl))).bd
  | false => exact (wd_andF h).bd
theorem bd_or2 {k l : Bool} (h : BD F a L k L) (h2 : k = false → BD F b L l L) : BD F (.BoolOp .Or [a, b] pos) L (k || l) L := by
  cases k with
  | true => exact (wd_orT h).bd
  | false => exact (wd_orF h (wd_or1 (h2 rfl))).bd
/-- as values -/
theorem ed_and2 {k l : Bool} (h : ED F a L (.bool k) L) (h2 : k = true → ED F b L (.bool l) L) : ED F (.BoolOp .And [a, b] pos) L (.bool (k && l)) L := by
  obtain ⟨te, pe, run⟩ := h
  cases k with
  | true =>
    obtain ⟨te2, pe2, run2⟩ := h2 rfl
    refine ⟨_, fun j => pe_and (pe j) (pe_one (pe2 j)), fun σ G H S Q q => run σ G H S _ fun v G' H' S' T r => ?_⟩
    cases r
    exact ⟨true, rfl, iteT (run2 σ G' H' S' Q fun v G2 H2 S2 T2 r2 => q _ _ _ S2 (T.trans T2) r2)⟩
  | false =>
    refine ⟨_, fun j => pe_and (pe j) (pe_one (pe_no _ _)), fun σ G H S Q q => run σ G H S _ fun v G' H' S' T r => ?_⟩
    cases r
    exact ⟨false, rfl, iteF (q _ _ _ S' T (.bl _))⟩
theorem ed_or2 {k l : Bool} (h : ED F a L (.bool k) L) (h2 : k = false → ED F b L (.bool l) L) : ED F (.BoolOp .Or [a, b] pos) L (.bool (k || l)) L := by
  obtain ⟨te, pe, run⟩ := h
  cases k with
  | false =>
    obtain ⟨te2, pe2, run2⟩ := h2 rfl
    refine ⟨_, fun j => pe_or (pe j) (pe_one (pe2 j)), fun σ G H S Q q => run σ G H S _ fun v G' H' S' T r => ?_⟩
    cases r
    exact ⟨false, rfl, iteF (run2 σ G' H' S' Q fun v G2 H2 S2 T2 r2 => q _ _ _ S2 (T.trans T2) r2)⟩
  | true =>
    refine ⟨_, fun j => pe_or (pe j) (pe_one (pe_no _ _)), fun σ G H S Q q => run σ G H S _ fun v G' H' S' T r => ?_⟩
    cases r
    exact ⟨true, rfl, iteT (q _ _ _ S' T (.bl _))⟩
theorem ed_not {k : Bool} (h : ED F e L (.bool k) L') : ED F (.UnaryOp .Not e pos) L (.bool (!k)) L' := by
  obtain ⟨te, pe, run⟩ := h
  refine ⟨_, fun j => pe_not (pe j), fun σ G H S Q q => run σ G H S _ fun v G' H' S' T r => ?_⟩
  cases r
  exact ⟨k, rfl, q _ _ _ S' T (.bl _)⟩
theorem ed_if {k : Bool} (h : BD F c L k L1) (h1 : k = true → ED F a L1 d L') (h2 : k = false → ED F b L1 d L') : ED F (.IfExp c a b pos) L d L' := by
  obtain ⟨tc, pc, run⟩ := h
  cases k with
  | true =>
    obtain ⟨te, pe, run1⟩ := h1 rfl
    refine ⟨_, fun j => pe_ifExp (pc j) (pe j) (pe_no _ _), fun σ G H S Q q => run σ G H S _ fun G' H' S' T => ?_⟩
    exact iteT (run1 σ G' H' S' Q fun v G2 H2 S2 T2 r => q _ _ _ S2 (T.trans T2) r)
  | false =>
    obtain ⟨te, pe, run1⟩ := h2 rfl
    refine ⟨_, fun j => pe_ifExp (pc j) (pe_no _ _) (pe j), fun σ G H S Q q => run σ G H S _ fun G' H' S' T => ?_⟩
    exact iteF (run1 σ G' H' S' Q fun v G2 H2 S2 T2 r => q _ _ _ S2 (T.trans T2) r)
/-- truth of a list -/
def TruD : PyData → Bool → Prop
  | .none, k => k = false
  | .bool b, k => k = b
  | .int i, k => k = (i != 0)
  | .list ds, k => k = !ds.isEmpty
  | .tuple ds, k => k = !ds.isEmpty
  | _, _ => False
theorem emptyA {H : Hp} {xs : List V} {ds : List PyData} (r : RpA H xs ds) : xs.isEmpty = ds.isEmpty := by cases r <;> rfl
theorem bd_tru {k : Bool} (h : HD F e L d L') (ht : TruD d k) (he : ∀ X : Cx, ∀ whole, isTrue e X.env whole = (do let v ← whole; standAt e.pos; holding [v] (truthy v)) := by intro _ _; rfl) : BD F e L k L' := by
  obtain ⟨te, pe, run⟩ := h
  refine ⟨fun σ H Q => te σ H fun x H' => ∃ k, TruV F.K x H' k ∧ Q k H', fun j => by rw [← F.hK j]; exact pt_truth (pe j) (he _), fun σ G H S Q q => run σ G H S _ fun v G' H' S' T r => ⟨k, ?_, q _ _ S' T⟩⟩
  cases r with
  | non => exact ht
  | bl b => exact ht
  | int n => exact ht
  | str z => exact ht.elim
  | lst h1 h2 => exact .inl ⟨_, SqL.of h1, by rw [emptyA h2]; exact ht⟩
  | tup h1 h2 => exact .inr (.inl ⟨_, SqT.of h1, by rw [emptyA h2]; exact ht⟩)
  | dct kvs h => exact ht.elim
  | dcs => exact ht.elim
  | dks => exact ht.elim
  | exc => exact ht.elim

/-! ### is None, ==, in -/
def isN : PyData → Bool
  | .none => true
  | _ => false
theorem rp_isN {G : Hp} {v : V} (r : Rp G v d) : decide (v = .non) = isN d := by
  cases r <;> first | rfl | exact decide_eq_false (fun z => nomatch z)
theorem cd_isN {j0 : Nat} {pos' : Pos} (h : ED F a L d L') : CD F (.Compare a [.Is] [.Constant .none j0 pos'] pos) L (isN d) L' :=
  cd_cmp (fun _ => op_isN) (nomark _) h ed_non fun x y G H _ r1 r2 Q q => by
    cases r2
    refine ⟨rfl, ?_⟩
    rw [rp_isN r1]
    exact q
theorem cd_notN {j0 : Nat} {pos' : Pos} (h : ED F a L d L') : CD F (.Compare a [.IsNot] [.Constant .none j0 pos'] pos) L (!isN d) L' :=
  cd_cmp (fun _ => op_notN) (nomark _) h ed_non fun x y G H _ r1 r2 Q q => by
    cases r2
    refine ⟨rfl, ?_⟩
    rw [rp_isN r1]
    exact q
theorem eqDf (F : Fam) (j : F.J) : OpR (F.x j) (compareOp .Eq) (rEqD F.K) := by
  rw [← F.hK j]
  exact op_eqD (F.hr j).units
theorem neDf (F : Fam) (j : F.J) : OpR (F.x j) (compareOp .NotEq) (rNeD F.K) := by
  rw [← F.hK j]
  exact op_neD (F.hr j).units
theorem noDict_shaped {d : PyData} (h : SeqAt.shaped d = true) : d.hasDict = false := PyData.hasDict_of_canLay d (SeqAt.canLay_of_shaped h)
theorem cd_eqD (ha : ED F a L d1 L1) (hb : HD F b L1 d2 L2') (s1 : SeqAt.shaped d1 = true) (s2 : SeqAt.shaped d2 = true) : CD F (.Compare a [.Eq] [b] pos) L (PyData.eqv d1 d2) L2' :=
  cd_cmpH (eqDf F) (nomark _) ha hb fun x y H r1 r2 Q q => ⟨d1, d2, Rp.dp _ _ (noDict_shaped s1) r1, Rp.dp _ _ (noDict_shaped s2) r2, s1, s2, q⟩
theorem cd_neD (ha : ED F a L d1 L1) (hb : HD F b L1 d2 L2') (s1 : SeqAt.shaped d1 = true) (s2 : SeqAt.shaped d2 = true) : CD F (.Compare a [.NotEq] [b] pos) L (!PyData.eqv d1 d2) L2' :=
  cd_cmpH (neDf F) (nomark _) ha hb fun x y H r1 r2 Q q => ⟨d1, d2, Rp.dp _ _ (noDict_shaped s1) r1, Rp.dp _ _ (noDict_shaped s2) r2, s1, s2, q⟩
/-- flat data -/
def flatD : PyData → Bool
  | .none | .bool _ | .int _ | .str _ => true
  | _ => false
def eqF : PyData → PyData → Bool
  | .none, .none => true
  | .bool a, .bool b => a == b
  | .int a, .int b => a == b
  | .int a, .bool b => a == (if b then 1 else 0)
  | .bool a, .int b => b == (if a then 1 else 0)
  | .str a, .str b => a == b
  | _, _ => false
/-! ### arguments -/
theorem ad_nil : AD F [] L [] L := ⟨_, fun _ => pa_nil, fun σ G H S Q q => q _ _ _ S .refl .nil⟩
theorem ad_cons (h : ED F e L d L1) (h2 : AD F es L1 ds L') (hs : ∀ env, starEach (e :: es) env = (false, eval e env) :: starEach es env := by intro _; rfl) : AD F (e :: es) L (d :: ds) L' := by
  obtain ⟨te, pe, run⟩ := h
  obtain ⟨ta, pa, run2⟩ := h2
  refine ⟨_, fun j => pa_cons (pe j) (pa j) (hs _), fun σ G H S Q q => run σ G H S _ fun v G' H' S' T r => run2 σ G' H' S' _ fun vs G2 H2 S2 T2 r2 => ?_⟩
  exact q _ _ _ S2 (T.trans T2) (.cons (r.up T2.g) r2)
theorem ad_one (h : ED F e L d L') (hs : ∀ env, starEach [e] env = (false, eval e env) :: starEach [] env := by intro _; rfl) : AD F [e] L [d] L' := ad_cons h ad_nil hs
/-! ### displays -/
theorem fd_lst (h : AD F es L ds L') (hl : ds.length ≤ 100000 := by first | decide | simp | omega) : FD F (.List es pos) L ds L' := by
  obtain ⟨te, pe, run⟩ := h
  refine ⟨_, fun j => pe_lst (pe j), fun σ G H S Q q => run σ G H S _ fun vs G' H' S' T r => ⟨Nat.le_trans (by rw [r.len]; exact hl) (by decide), fun p hp => ?_⟩⟩
  obtain ⟨S2, T2⟩ := S'.new (o := .lst vs) hp
  exact q p vs G' _ S2 (T.trans T2) (T.back hp) upd_same (S'.gn hp) r
end
end DL
namespace DL
open PySem L2
variable [TabL]

/-! ### the widest readings -/
section
variable (F : Fam)
def teA (e : Expr) : TE := fun σ H Q => ∃ te, PEf F e te ∧ te σ H Q
def ttA (e : Expr) : TT := fun σ H Q => ∃ te, PTf F e te ∧ te σ H Q
def tssA (b : List Stmt) : TS := fun D σ H => ∃ ts, PSsf F b ts ∧ ts D σ H
theorem pe_any (e : Expr) : PEf F e (teA F e) := fun j => ⟨fun pins s σ H Q I h => let ⟨te, pe, q⟩ := h; (pe j).run pins s σ H Q I q⟩
theorem pt_any (e : Expr) : PTf F e (ttA F e) := fun j => ⟨fun pins s σ H Q I h => let ⟨te, pe, q⟩ := h; (pe j).run pins s σ H Q I q⟩
theorem pss_any (b : List Stmt) : PSsf F b (tssA F b) := fun j => ⟨fun pins s σ H Q I h => let ⟨te, pe, q⟩ := h; (pe j).run pins s σ H Q I q⟩
end

/-! ### what a call leaves -/
structure Aft (A : Addr → Prop) (G H G' H' : Hp) : Prop where
  g : Same G G'
  gh : Same G' H'
  fr : ∀ b o, H b = some o → G b = none → ¬ A b → Fr1 H' G' b o
  th : Thr G H G' H'
abbrev N0 : Addr → Prop := fun _ => False
section
variable {L L1 L2' L' : List Sl} {σ σ' : L2.St} {G G1 G' H H1 H' : Hp} {i : Nat} {p a : Addr} {v : V} {d r : PyData} {ds ms ms' : List PyData} {xs : List V}
theorem Sta.aft (S : Sta L σ G H) (A : Aft N0 G H G' H') : Sta L σ G' H' ∧ Te L σ G H L G' H' := by
  refine ⟨⟨A.gh, S.ln, fun i x t e1 e2 => ?_, S.di⟩, ⟨A.g, fun b o h g _ => A.fr b o h g (fun z => z), fun _ z => z, A.th⟩⟩
  have q := S.sl i x t e1 e2
  cases t with
  | no => exact q
  | va d =>
    obtain ⟨v, e, r⟩ := q
    exact ⟨v, e, r.up A.g⟩
  | ow ds =>
    obtain ⟨a, ys, e, q1, q2, q3⟩ := q
    obtain ⟨z1, z2⟩ := A.fr a _ q1 q3 (fun z => z) pl_lst
    exact ⟨a, ys, e, z1, q2.up A.g, z2⟩
  | tb => exact A.th.tabs q
  | fn f G1 => exact ⟨q.1, q.2.trans A.g⟩
theorem own_set {b : Addr} {t : Sl} (h : Own (L.set i t) σ b) : Own L σ b ∨ (∃ ds, t = .ow ds ∧ σ[i]? = some (some (V.ref b))) := by
  obtain ⟨j, ds, h1, h2⟩ := h
  by_cases hj : i = j
  · subst hj
    have hl : i < L.length := by
      have := (List.getElem?_eq_some_iff.mp h1).1
      rwa [List.length_set] at this
    rw [List.getElem?_set_self hl] at h1
    cases h1
    exact .inr ⟨ds, rfl, h2⟩
  · rw [List.getElem?_set_ne hj] at h1
    exact .inl ⟨j, ds, h1, h2⟩
/-- one's own list at slot i is changed -/
theorem Sta.mut (S : Sta L σ G H) (hi : L[i]? = some (Sl.ow ms)) (hs : σ[i]? = some (some (V.ref a))) (A : Aft (· = a) G H G' H') (ha : H' a = some (.lst xs)) (r : RpA G' xs ms') (hg : G' a = none) :
    Sta (L.set i (.ow ms')) σ G' H' ∧ Te L σ G H (L.set i (.ow ms')) G' H' := by
  have hl : i < L.length := (List.getElem?_eq_some_iff.mp hi).1
  refine ⟨⟨A.gh, by rw [List.length_set]; exact S.ln, fun j x t e1 e2 => ?_, fun j k b es us e1 e2 e3 e4 => ?_⟩, ⟨A.g, fun b o h g n => A.fr b o h g (fun z => n ⟨i, ms, hi, by rw [z]; exact hs⟩), fun b z => ?_, A.th⟩⟩
  · by_cases hj : i = j
    · subst hj
      rw [List.getElem?_set_self hl] at e2
      cases e2
      rw [hs] at e1
      cases e1
      exact ⟨a, xs, rfl, ha, r, hg⟩
    · rw [List.getElem?_set_ne hj] at e2
      have q := S.sl j x t e1 e2
      cases t with
      | no => exact q
      | va d =>
        obtain ⟨v, e, r⟩ := q
        exact ⟨v, e, r.up A.g⟩
      | ow ds =>
        obtain ⟨b, ys, e, q1, q2, q3⟩ := q
        subst e
        have nb : ¬ b = a := fun z => hj (S.di i j a ms ds hi e2 hs (by rw [← z]; exact e1))
        obtain ⟨z1, z2⟩ := A.fr b _ q1 q3 nb pl_lst
        exact ⟨b, ys, rfl, z1, q2.up A.g, z2⟩
      | tb => exact A.th.tabs q
      | fn f G1 => exact ⟨q.1, q.2.trans A.g⟩
  · have back : ∀ k us, (L.set i (.ow ms'))[k]? = some (Sl.ow us) → ∃ ws, L[k]? = some (Sl.ow ws) := fun k us e => by
      by_cases hk : i = k
      · subst hk
        exact ⟨ms, hi⟩
      · rw [List.getElem?_set_ne hk] at e
        exact ⟨us, e⟩
    obtain ⟨_, f1⟩ := back j es e1
    obtain ⟨_, f2⟩ := back k us e2
    exact S.di j k b _ _ f1 f2 e3 e4
  · rcases own_set z with z | ⟨_, _, z⟩
    · exact z
    · exact ⟨i, ms, hi, z⟩
end

/-! ### promises -/
def spD (Φ : List PyData → PyData → Prop) : Sp := fun vs H Q _ => ∃ ds r G, Φ ds r ∧ Same G H ∧ RpA G vs ds ∧ ∀ v G' H', Aft N0 G H G' H' → Rp G' v r → Q v H'
/-- a new list -/
def spL (Φ : List PyData → List PyData → Prop) : Sp := fun vs H Q _ => ∃ ds rs G, Φ ds rs ∧ Same G H ∧ RpA G vs ds ∧ ∀ p xs G' H', Aft N0 G H G' H' → H p = none → H' p = some (.lst xs) → G' p = none → RpA G' xs rs → Q (.ref p) H'
/-- the first argument is a list that is changed -/
def spM (Φ : List PyData → List PyData → PyData × List PyData → Prop) : Sp := fun vs H Q _ => ∃ a ws xs ms ds r ms' G, vs = .ref a :: ws ∧ Φ ms ds (r, ms') ∧ Same G H ∧ RpA G ws ds ∧ H a = some (.lst xs) ∧ RpA G xs ms ∧ G a = none ∧
  ∀ v G' H' ys, Aft (· = a) G H G' H' → H' a = some (.lst ys) → RpA G' ys ms' → G' a = none → Rp G' v r → Q v H'
/-- .. and a new list is handed back -/
def spML (Φ : List PyData → List PyData → List PyData × List PyData → Prop) : Sp := fun vs H Q _ => ∃ a ws xs ms ds rs ms' G, vs = .ref a :: ws ∧ Φ ms ds (rs, ms') ∧ Same G H ∧ RpA G ws ds ∧ H a = some (.lst xs) ∧ RpA G xs ms ∧ G a = none ∧
  ∀ p zs G' H' ys, Aft (· = a) G H G' H' → H' a = some (.lst ys) → RpA G' ys ms' → G' a = none → H p = none → H' p = some (.lst zs) → G' p = none → RpA G' zs rs → Q (.ref p) H'
/-- a def of the program as it may be called by place -/
structure Df (P : Program) (w : World) (K : PySem.W.Frag) (mg : Str → Option Value) (base : Heap) (x : Str) (k : Nat) (sp : Sp) : Prop where
  ex : ∃ f fd ps, FnG P w K mg base k f fd ps sp ∧ mg x = some (.ref f) ∧ PySem.W.keepIn K (.ref f) = true ∧ ∀ (s : Shared) (us : List Value), K.In s.heap → us.length = ps.length → BindsTo s fd ⟨us, []⟩ (ps.zip us)
/-- .. n things by place, the others by the names ks, brought into the def's order by g -/
structure Dk (P : Program) (w : World) (K : PySem.W.Frag) (mg : Str → Option Value) (base : Heap) (x : Str) (k : Nat) (n : Nat) (ks : List Str) (g : List Value → List Value) (gV : List V → List V) (gD : List PyData → List PyData) (sp : Sp) : Prop where
  ex : ∃ f fd ps, FnG P w K mg base k f fd ps sp ∧ mg x = some (.ref f) ∧ PySem.W.keepIn K (.ref f) = true ∧ ∀ (s : Shared) (us ws : List Value), K.In s.heap → us.length = n → ws.length = ks.length → BindsTo s fd ⟨us, ks.zip ws⟩ (ps.zip (g (us ++ ws)))
  vals : ∀ (vs : List V) (us : List Value), vs.length = n + ks.length → Vals vs us → Vals (gV vs) (g us)
  data : ∀ (G : Hp) (vs : List V) (ds : List PyData), vs.length = n + ks.length → RpA G vs ds → RpA G (gV vs) (gD ds)
theorem Df.mono {P : Program} {w : World} {K : PySem.W.Frag} {mg : Str → Option Value} {base : Heap} {x : Str} {j k : Nat} {sp : Sp} (D : Df P w K mg base x j sp) (h : j ≤ k := by exact Nat.le_of_ble_eq_true rfl) : Df P w K mg base x k sp := by
  obtain ⟨f, fd, ps, F, q⟩ := D.ex
  exact ⟨f, fd, ps, F.up h, q⟩
theorem Dk.mono {P : Program} {w : World} {K : PySem.W.Frag} {mg : Str → Option Value} {base : Heap} {x : Str} {j k n : Nat} {ks : List Str} {g : List Value → List Value} {gV : List V → List V} {gD : List PyData → List PyData} {sp : Sp} (D : Dk P w K mg base x j n ks g gV gD sp) (h : j ≤ k := by exact Nat.le_of_ble_eq_true rfl) : Dk P w K mg base x k n ks g gV gD sp := by
  obtain ⟨f, fd, ps, F, q⟩ := D.ex
  exact ⟨⟨f, fd, ps, F.up h, q⟩, D.vals, D.data⟩
abbrev Fam.Df (F : Fam) (x : Str) (sp : Sp) : Prop := DL.Df F.P F.w F.K F.mg F.base x F.k sp
abbrev Fam.Dk (F : Fam) (x : Str) (n : Nat) (ks : List Str) (g : List Value → List Value) (gV : List V → List V) (gD : List PyData → List PyData) (sp : Sp) : Prop := DL.Dk F.P F.w F.K F.mg F.base x F.k n ks g gV gD sp

section
variable {F : Fam} {e a b c : Expr} {es : List Expr} {L L1 L2' L' L3 : List Sl} {d d1 d2 r : PyData} {ds ds2 rs ms ms' : List PyData} {i : Nat} {pos p p2 : Pos} {x : Str}

theorem call_any {sp : Sp} {ta : TA} (D : F.Df x sp) (hg : GlF F x) (pa : PAf F (e :: es) ta) (hdb : (x == ("__debug__" : Str)) = false) (he : ∀ env, starEach (e :: es) env = (false, eval e env) :: starEach es env) (hpl : ∀ env, (backTo pos (starEach es env)).any (·.1) = false) :
    PEf F (.Call (.Name x p) (e :: es) [] pos) (fun σ H Q => ta σ H fun vs H1 => sp vs H1 Q E0) := by
  obtain ⟨f, fd, ps, Fn, mf, kp, hb⟩ := D.ex
  intro j
  have Fj : FnG (F.x j).prog (F.x j).w (F.x j).K (F.x j).mg (F.x j).base F.k f fd ps sp := by
    rw [F.hP, F.hw, F.hK, F.hmg, F.hbase]
    exact Fn
  refine ⟨fun pins s σ H Q I h => ?_⟩
  refine wpAny_Call_Name_kw (ld_glob I (hg.gl j) (by rw [F.hmg]; exact mf) ?_ hdb)
  refine PySem.W.callWith_K (K := F.K) (h₀ := (F.x j).base) (by rw [← F.hK j]; exact I.ok.mod.kin) kp (thn ((pa j).run pos pins s σ H _ I h) fun us s1 ⟨vs, H1, I1, r, q⟩ => ?_) (he _) (hpl _)
  have inK : F.K.In s1.heap := by
    rw [← F.hK j]
    exact I1.kIn
  refine ⟨inK, ?_⟩
  exact runG Fj (F.hg j) (F.hr j) I1 (hb s1 us inK (by rw [← r.length]; exact Fn.len _ _ _ _ q)) r q
/-- with keywords -/
theorem callK_any {sp : Sp} {ta tk : TA} {n : Nat} {ks : List Str} {g : List Value → List Value} {gV : List V → List V} {gD : List PyData → List PyData} {kws : List Keyword} (D : F.Dk x n ks g gV gD sp) (hg : GlF F x) (pa : PAf F (e :: es) ta) (pk : ∀ j, PK (F.x j) kws tk) (hdb : (x == ("__debug__" : Str)) = false)
    (he : ∀ env, starEach (e :: es) env = (false, eval e env) :: starEach es env) (hall : ∀ env, (backToKw pos (keywordEach kws env)).all (·.1.isSome) = true) (hks : ∀ env, (backToKw pos (keywordEach kws env)).filterMap (·.1) = ks)
    (hpl : ∀ env, ((backTo pos (starEach (e :: es) env)).any (·.1) || (backToKw pos (keywordEach kws env)).any (·.1.isNone)) = false) :
    PEf F (.Call (.Name x p) (e :: es) kws pos) (fun σ H Q => ta σ H fun vs H1 => tk σ H1 fun zs H2 => vs.length = n ∧ zs.length = ks.length ∧ sp (gV (vs ++ zs)) H2 Q E0) := by
  obtain ⟨f, fd, ps, Fn, mf, kp, hb⟩ := D.ex
  intro j
  have Fj : FnG (F.x j).prog (F.x j).w (F.x j).K (F.x j).mg (F.x j).base F.k f fd ps sp := by
    rw [F.hP, F.hw, F.hK, F.hmg, F.hbase]
    exact Fn
  refine ⟨fun pins s σ H Q I h => ?_⟩
  refine wpAny_Call_Name_kw (ld_glob I (hg.gl j) (by rw [F.hmg]; exact mf) ?_ hdb)
  refine PySem.W.callWith_KW (K := F.K) (h₀ := (F.x j).base) (by rw [← F.hK j]; exact I.ok.mod.kin) kp (hall _) (thn ((pa j).run pos pins s σ H _ I h) fun us s1 ⟨vs, H1, I1, r, q⟩ => ?_) (hpl _) (he _)
  refine thn ((pk j).run pos pins s1 σ H1 _ I1 q) fun ws s2 ⟨zs, H2, I2, rz, l1, l2, q2⟩ => ?_
  have inK : F.K.In s2.heap := by
    rw [← F.hK j]
    exact I2.kIn
  refine ⟨inK, ?_⟩
  rw [hks]
  exact runG Fj (F.hg j) (F.hr j) I2 (hb s2 us ws inK (by rw [← r.length]; exact l1) (by rw [← rz.length]; exact l2)) (D.vals _ _ (by rw [List.length_append, l1, l2]) (r.append rz)) q2
theorem callK0_any {sp : Sp} {tk : TA} {ks : List Str} {g : List Value → List Value} {gV : List V → List V} {gD : List PyData → List PyData} {kws : List Keyword} (D : F.Dk x 0 ks g gV gD sp) (hg : GlF F x) (pk : ∀ j, PK (F.x j) kws tk) (hdb : (x == ("__debug__" : Str)) = false)
    (hall : ∀ env, (backToKw pos (keywordEach kws env)).all (·.1.isSome) = true) (hks : ∀ env, (backToKw pos (keywordEach kws env)).filterMap (·.1) = ks)
    (hpl : ∀ env, ((backTo pos (starEach [] env)).any (·.1) || (backToKw pos (keywordEach kws env)).any (·.1.isNone)) = false) :
    PEf F (.Call (.Name x p) [] kws pos) (fun σ H Q => tk σ H fun zs H2 => zs.length = ks.length ∧ sp (gV zs) H2 Q E0) := by
  obtain ⟨f, fd, ps, Fn, mf, kp, hb⟩ := D.ex
  intro j
  have Fj : FnG (F.x j).prog (F.x j).w (F.x j).K (F.x j).mg (F.x j).base F.k f fd ps sp := by
    rw [F.hP, F.hw, F.hK, F.hmg, F.hbase]
    exact Fn
  refine ⟨fun pins s σ H Q I h => ?_⟩
  refine wpAny_Call_Name_kw (ld_glob I (hg.gl j) (by rw [F.hmg]; exact mf) ?_ hdb)
  refine PySem.W.callWith_KW0 (K := F.K) (h₀ := (F.x j).base) (by rw [← F.hK j]; exact I.ok.mod.kin) kp (hall _) (thn ((pk j).run pos pins s σ H _ I h) fun ws s2 ⟨zs, H2, I2, rz, l2, q2⟩ => ?_) (hpl _)
  have inK : F.K.In s2.heap := by
    rw [← F.hK j]
    exact I2.kIn
  refine ⟨inK, ?_⟩
  rw [hks]
  exact runG Fj (F.hg j) (F.hr j) I2 (hb s2 [] ws inK rfl (by rw [← rz.length]; exact l2)) (D.vals _ _ (by rw [l2]; simp) rz) q2
theorem ed_call {Φ : List PyData → PyData → Prop} (D : F.Df x (spD Φ)) (ha : AD F (e :: es) L ds L') (hΦ : Φ ds r) (hg : GlF F x := by rfl) (hdb : (x == ("__debug__" : Str)) = false := by decide)
    (he : ∀ env, starEach (e :: es) env = (false, eval e env) :: starEach es env := by intro _; rfl) (hpl : ∀ env, (backTo pos (starEach es env)).any (·.1) = false := by intro _; rfl) : ED F (.Call (.Name x p) (e :: es) [] pos) L r L' := by
  obtain ⟨ta, pa, ra⟩ := ha
  refine ⟨_, call_any D hg pa hdb he hpl, fun σ G H S Q q => ra σ G H S _ fun vs G1 H1 S1 T1 r1 => ⟨ds, r, G1, hΦ, S1.gh, r1, fun v G' H' A rv => ?_⟩⟩
  obtain ⟨S2, T2⟩ := S1.aft A
  exact q v G' H' S2 (T1.trans T2) rv
theorem fd_call {Φ : List PyData → List PyData → Prop} (D : F.Df x (spL Φ)) (ha : AD F (e :: es) L ds L') (hΦ : Φ ds rs) (hg : GlF F x := by rfl) (hdb : (x == ("__debug__" : Str)) = false := by decide)
    (he : ∀ env, starEach (e :: es) env = (false, eval e env) :: starEach es env := by intro _; rfl) (hpl : ∀ env, (backTo pos (starEach es env)).any (·.1) = false := by intro _; rfl) : FD F (.Call (.Name x p) (e :: es) [] pos) L rs L' := by
  obtain ⟨ta, pa, ra⟩ := ha
  refine ⟨_, call_any D hg pa hdb he hpl, fun σ G H S Q q => ra σ G H S _ fun vs G1 H1 S1 T1 r1 => ⟨ds, rs, G1, hΦ, S1.gh, r1, fun p xs G' H' A hp hp' gp rv => ?_⟩⟩
  obtain ⟨S2, T2⟩ := S1.aft A
  exact q p xs G' H' S2 (T1.trans T2) (T1.back hp) hp' gp rv
/-- f(x, ..), x's own list is changed by f -/
theorem ed_callM {Φ : List PyData → List PyData → PyData × List PyData → Prop} {y : Str} {py : Pos} (i : Nat) (D : F.Df x (spM Φ)) (hi : L'[i]? = some (Sl.ow ms)) (ha : AD F es L ds L') (hΦ : Φ ms ds (r, ms')) (hg : GlF F x := by rfl)
    (hN : F.N[i]? = some y := by rfl) (hv : Vis F.sc y := by first | exact Or.inl rfl | exact Or.inr (Or.inl rfl) | exact Or.inr (Or.inr rfl)) (hd : (y == ("__debug__" : Str)) = false := by decide) (hcd : (y == ("__classdict__" : Str)) = false := by decide)
    (hdb : (x == ("__debug__" : Str)) = false := by decide) (he : ∀ env, starEach (.Name y py :: es) env = (false, eval (.Name y py) env) :: starEach es env := by intro _; rfl) (hpl : ∀ env, (backTo pos (starEach es env)).any (·.1) = false := by intro _; rfl) (hL : ∃ us, L[i]? = some (Sl.ow us) := by exact ⟨_, rfl⟩) :
    ED F (.Call (.Name x p) (.Name y py :: es) [] pos) L r (L'.set i (.ow ms')) := by
  obtain ⟨ta, pa, ra⟩ := ha
  refine ⟨_, call_any D hg (fun j => pa_cons (pvF F i hN hv hd hcd j) (pa j) (he _)) hdb he hpl, fun σ G H S Q q => ?_⟩
  obtain ⟨us, hus⟩ := hL
  obtain ⟨x0, e1, a, xs0, rfl, _⟩ := S.get hus
  refine ⟨.ref a, e1, ra σ G H S _ fun vs G1 H1 S1 T1 r1 => ?_⟩
  obtain ⟨x1, e2, a', xs, z, h1, r2, g1⟩ := S1.get hi
  rw [e1] at e2
  cases e2
  cases z
  refine ⟨a, vs, xs, ms, ds, r, ms', G1, rfl, hΦ, S1.gh, r1, h1, r2, g1, fun v G' H' ys A hy ry gy rv => ?_⟩
  obtain ⟨S2, T2⟩ := S1.mut hi e1 A hy ry gy
  exact q v G' H' S2 (T1.trans T2) rv
theorem fd_callM {Φ : List PyData → List PyData → List PyData × List PyData → Prop} {y : Str} {py : Pos} (i : Nat) (D : F.Df x (spML Φ)) (hi : L'[i]? = some (Sl.ow ms)) (ha : AD F es L ds L') (hΦ : Φ ms ds (rs, ms')) (hg : GlF F x := by rfl)
    (hN : F.N[i]? = some y := by rfl) (hv : Vis F.sc y := by first | exact Or.inl rfl | exact Or.inr (Or.inl rfl) | exact Or.inr (Or.inr rfl)) (hd : (y == ("__debug__" : Str)) = false := by decide) (hcd : (y == ("__classdict__" : Str)) = false := by decide)
    (hdb : (x == ("__debug__" : Str)) = false := by decide) (he : ∀ env, starEach (.Name y py :: es) env = (false, eval (.Name y py) env) :: starEach es env := by intro _; rfl) (hpl : ∀ env, (backTo pos (starEach es env)).any (·.1) = false := by intro _; rfl) (hL : ∃ us, L[i]? = some (Sl.ow us) := by exact ⟨_, rfl⟩) :
    FD F (.Call (.Name x p) (.Name y py :: es) [] pos) L rs (L'.set i (.ow ms')) := by
  obtain ⟨ta, pa, ra⟩ := ha
  refine ⟨_, call_any D hg (fun j => pa_cons (pvF F i hN hv hd hcd j) (pa j) (he _)) hdb he hpl, fun σ G H S Q q => ?_⟩
  obtain ⟨us, hus⟩ := hL
  obtain ⟨x0, e1, a, xs0, rfl, _⟩ := S.get hus
  refine ⟨.ref a, e1, ra σ G H S _ fun vs G1 H1 S1 T1 r1 => ?_⟩
  obtain ⟨x1, e2, a', xs, z, h1, r2, g1⟩ := S1.get hi
  rw [e1] at e2
  cases e2
  cases z
  refine ⟨a, vs, xs, ms, ds, rs, ms', G1, rfl, hΦ, S1.gh, r1, h1, r2, g1, fun p zs G' H' ys A hy ry gy hp hp' gp rz => ?_⟩
  obtain ⟨S2, T2⟩ := S1.mut hi e1 A hy ry gy
  exact q p zs G' H' S2 (T1.trans T2) (T1.back hp) hp' gp rz

/-! ### built-ins by name -/
theorem bt_any {id : String} {rr : List V → Hp → VK → Prop} {ta : TA} (hc : ∀ j, CallR (F.x j) (.builtin id) rr) (hg : GlF F x) (hm : F.mg x = none) (hv : bootBuiltins x = some (.builtin id)) (pa : PAf F (e :: es) ta) (hn : x ≠ "__name__") (hdb : (x == ("__debug__" : Str)) = false)
    (he : ∀ env, starEach (e :: es) env = (false, eval e env) :: starEach es env) (hpl : ∀ env, (backTo pos (starEach es env)).any (·.1) = false) : PEf F (.Call (.Name x p) (e :: es) [] pos) (tCB rr ta) :=
  fun j => pe_callB (hc j) (hg.gl j) (by rw [F.hmg]; exact hm) hv (pa j) hn hdb (he _) (hpl _)
theorem ty_any {id : String} {rr : List V → Hp → VK → Prop} {ta : TA} (hc : ∀ j, CallR (F.x j) (.type id) rr) (hg : GlF F x) (hm : F.mg x = none) (hv : bootBuiltins x = some (.type id)) (pa : PAf F (e :: es) ta) (hn : x ≠ "__name__") (hdb : (x == ("__debug__" : Str)) = false)
    (he : ∀ env, starEach (e :: es) env = (false, eval e env) :: starEach es env) (hpl : ∀ env, (backTo pos (starEach es env)).any (·.1) = false) : PEf F (.Call (.Name x p) (e :: es) [] pos) (tCB rr ta) :=
  fun j => pe_callTy (hc j) (hg.gl j) (by rw [F.hmg]; exact hm) hv (pa j) hn hdb (he _) (hpl _)
theorem pa1 {te : TE} (pe : PEf F e te) (hs : ∀ env, starEach [e] env = (false, eval e env) :: starEach [] env) : PAf F [e] (tCons te tNil) := fun j => pa_cons (pe j) pa_nil (hs _)
/-- int(e) of a number -/
theorem ed_int1 {n : Int} (h : ED F e L (.int n) L') (hm : F.mg "int" = none) (hg : GlF F "int" := by rfl) (hs : ∀ env, starEach [e] env = (false, eval e env) :: starEach [] env := by intro _; rfl) : ED F (.Call (.Name "int" p) [e] [] pos) L (.int n) L' := by
  obtain ⟨te, pe, run⟩ := h
  refine ⟨_, ty_any (fun _ => call_int1) hg hm PyProof.Rows.boot_int (pa1 pe hs) (by decide) (by decide) hs (fun _ => rfl), fun σ G H S Q q => run σ G H S _ fun v G' H' S' T r => ?_⟩
  cases r
  exact .inl ⟨n, rfl, q _ _ _ S' T (.int n)⟩
theorem ed_intB {k : Bool} (h : ED F e L (.bool k) L') (hm : F.mg "int" = none) (hg : GlF F "int" := by rfl) (hs : ∀ env, starEach [e] env = (false, eval e env) :: starEach [] env := by intro _; rfl) : ED F (.Call (.Name "int" p) [e] [] pos) L (.int (if k then 1 else 0)) L' := by
  obtain ⟨te, pe, run⟩ := h
  refine ⟨_, ty_any (fun _ => call_int1) hg hm PyProof.Rows.boot_int (pa1 pe hs) (by decide) (by decide) hs (fun _ => rfl), fun σ G H S Q q => run σ G H S _ fun v G' H' S' T r => ?_⟩
  cases r
  exact .inr ⟨k, rfl, q _ _ _ S' T (.int _)⟩
theorem lenf (F : Fam) (j : F.J) : CallR (F.x j) (.builtin "len") (fun xs H Q => ∃ p ys, xs = [.ref p] ∧ (SqL F.K H p ys ∨ SqT F.K H p ys) ∧ Q (.int ys.length) H) := by
  rw [← F.hK j]
  exact call_len_seq
theorem ed_len (h : LD F e L ds L') (hm : F.mg "len" = none) (hg : GlF F "len" := by rfl) (hs : ∀ env, starEach [e] env = (false, eval e env) :: starEach [] env := by intro _; rfl) : ED F (.Call (.Name "len" p) [e] [] pos) L (.int ds.length) L' := by
  obtain ⟨te, pe, run⟩ := h
  refine ⟨_, bt_any (lenf F) hg hm PySem.boot_len (pa1 pe hs) (by decide) (by decide) hs (fun _ => rfl), fun σ G H S Q q => run σ G H S _ fun a xs G' H' S' T h1 r => ⟨a, xs, rfl, .inl (SqL.of h1), ?_⟩⟩
  rw [r.len]
  exact q _ _ _ S' T (.int _)
theorem ed_lenT (h : ED F e L (.tuple ds) L') (hm : F.mg "len" = none) (hg : GlF F "len" := by rfl) (hs : ∀ env, starEach [e] env = (false, eval e env) :: starEach [] env := by intro _; rfl) : ED F (.Call (.Name "len" p) [e] [] pos) L (.int ds.length) L' := by
  obtain ⟨te, pe, run⟩ := h
  refine ⟨_, bt_any (lenf F) hg hm PySem.boot_len (pa1 pe hs) (by decide) (by decide) hs (fun _ => rfl), fun σ G H S Q q => run σ G H S _ fun v G' H' S' T r => ?_⟩
  cases r with
  | tup h1 h2 =>
    refine ⟨_, _, rfl, .inr (SqT.of (S'.gh _ _ h1)), ?_⟩
    rw [h2.len]
    exact q _ _ _ S' T (.int _)
theorem listf (F : Fam) (j : F.J) : CallR (F.x j) (.type "list") (fun xs H Q => ∃ p ys, xs = [.ref p] ∧ (SqL F.K H p ys ∨ SqT F.K H p ys) ∧ ∀ l, H l = none → Q (.ref l) (upd H l (.lst ys))) := by
  rw [← F.hK j]
  exact call_list_of
theorem fd_list (h : LD F e L ds L') (hm : F.mg "list" = none) (hg : GlF F "list" := by rfl) (hs : ∀ env, starEach [e] env = (false, eval e env) :: starEach [] env := by intro _; rfl) : FD F (.Call (.Name "list" p) [e] [] pos) L ds L' := by
  obtain ⟨te, pe, run⟩ := h
  refine ⟨_, ty_any (listf F) hg hm (by decide +kernel) (pa1 pe hs) (by decide) (by decide) hs (fun _ => rfl), fun σ G H S Q q => run σ G H S _ fun a xs G' H' S' T h1 r => ⟨a, xs, rfl, .inl (SqL.of h1), fun l hl => ?_⟩⟩
  obtain ⟨S2, T2⟩ := S'.new (o := .lst xs) hl
  exact q l xs G' _ S2 (T.trans T2) (T.back hl) upd_same (S'.gn hl) r

/-! ### subscripts -/
theorem ixLf (F : Fam) (j : F.J) : IxR (F.x j) (rIxL F.K) := by
  rw [← F.hK j]
  exact ix_list
theorem ixTf (F : Fam) (j : F.J) : IxR (F.x j) (rIxT F.K) := by
  rw [← F.hK j]
  exact ix_tup
theorem RpA.atI {G : Hp} {xs : List V} {n : Int} (r : RpA G xs ds) (h : atI ds n = some d) : ∃ v, L2.atI xs n = some v ∧ Rp G v d := by
  unfold L2.atI at h ⊢
  rw [r.len]
  cases e : ixN ds.length n with
  | none =>
    rw [e] at h
    cases h
  | some k =>
    rw [e] at h
    exact r.get h
theorem ed_ixL {n : Int} (ha : ED F a L (.list ds) L1) (hb : ED F b L1 (.int n) L') (h : atI ds n = some d) (hs : PlainIx b := by exact fun _ _ => rfl) : ED F (.Subscript a b pos) L d L' := by
  obtain ⟨ta, pa, ra⟩ := ha
  obtain ⟨tb, pb, rb⟩ := hb
  refine ⟨_, fun j => pe_ix (ixLf F j) (pa j) (pb j) hs, fun σ G H S Q q => ra σ G H S _ fun x G1 H1 S1 T1 r1 => rb σ G1 H1 S1 _ fun y G2 H2 S2 T2 r2 => ?_⟩
  cases r2
  cases r1 with
  | lst h1 h2 =>
    obtain ⟨v, hv, rv⟩ := h2.atI h
    exact ⟨_, _, n, v, rfl, rfl, SqL.of (S2.gh _ _ (T2.g _ _ h1)), hv, q v G2 H2 S2 (T1.trans T2) (rv.up T2.g)⟩
theorem ed_ixT {n : Int} (ha : ED F a L (.tuple ds) L1) (hb : ED F b L1 (.int n) L') (h : atI ds n = some d) (hs : PlainIx b := by exact fun _ _ => rfl) : ED F (.Subscript a b pos) L d L' := by
  obtain ⟨ta, pa, ra⟩ := ha
  obtain ⟨tb, pb, rb⟩ := hb
  refine ⟨_, fun j => pe_ix (ixTf F j) (pa j) (pb j) hs, fun σ G H S Q q => ra σ G H S _ fun x G1 H1 S1 T1 r1 => rb σ G1 H1 S1 _ fun y G2 H2 S2 T2 r2 => ?_⟩
  cases r2
  cases r1 with
  | tup h1 h2 =>
    obtain ⟨v, hv, rv⟩ := h2.atI h
    exact ⟨_, _, n, v, rfl, rfl, SqT.of (S2.gh _ _ (T2.g _ _ h1)), hv, q v G2 H2 S2 (T1.trans T2) (rv.up T2.g)⟩
/-- of one's own list, the index a reckoning that changes nothing -/
theorem ed_ixO {n : Int} {y : Str} {py : Pos} (i : Nat) (hi : L[i]? = some (Sl.ow ds)) (hb : ED F b L (.int n) L) (h : atI ds n = some d) (hN : F.N[i]? = some y := by rfl) (hv : Vis F.sc y := by first | exact Or.inl rfl | exact Or.inr (Or.inl rfl) | exact Or.inr (Or.inr rfl)) (hd : (y == ("__debug__" : Str)) = false := by decide) (hcd : (y == ("__classdict__" : Str)) = false := by decide)
    (hs : PlainIx b := by exact fun _ _ => rfl) : ED F (.Subscript (.Name y py) b pos) L d L := by
  obtain ⟨tb, pb, rb⟩ := hb
  refine ⟨_, fun j => pe_ix (ixLf F j) (pvF F i hN hv hd hcd j) (pb j) hs, fun σ G H S Q q => ?_⟩
  obtain ⟨x0, e1, a, xs0, rfl, _⟩ := S.get hi
  refine ⟨.ref a, e1, rb σ G H S _ fun y G2 H2 S2 T2 r2 => ?_⟩
  cases r2
  obtain ⟨x1, e2, a', xs, z, h1, r2, g1⟩ := S2.get hi
  rw [e1] at e2
  cases e2
  cases z
  obtain ⟨v, hv, rv⟩ := r2.atI h
  exact ⟨_, _, n, v, rfl, rfl, SqL.of h1, hv, q v G2 H2 S2 T2 rv⟩
end
end DL
namespace DL
open PySem PyProof.Rows L2
variable [TabL]

/-- what is wanted behind a statement, told over data -/
inductive Out where
  | nx (L : List Sl)
  | ct (L : List Sl)
  | bk (L : List Sl)
  | rt (d : PyData) (L : List Sl)
  /-- a new list is handed back -/
  | rl (ds : List PyData) (L : List Sl)

/-- the first z slots are not stored to -/
def Anc (z : List Nat) (σ σ' : L2.St) : Prop := ∀ i, i ∈ z → σ'[i]? = σ[i]?
def EndOk (z : List Nat) (L : List Sl) (σ : L2.St) (G H : Hp) (D : Ends) : Out → Prop
  | .nx L' => ∀ σ' G' H', Sta L' σ' G' H' → Ts L σ G H L' σ' G' H' → Anc z σ σ' → D.nx σ' H'
  | .ct L' => ∀ σ' G' H', Sta L' σ' G' H' → Ts L σ G H L' σ' G' H' → Anc z σ σ' → D.ct σ' H'
  | .bk L' => ∀ σ' G' H', Sta L' σ' G' H' → Ts L σ G H L' σ' G' H' → Anc z σ σ' → D.bk σ' H'
  | .rt d L' => ∀ v σ' G' H', Sta L' σ' G' H' → Ts L σ G H L' σ' G' H' → Anc z σ σ' → Rp G' v d → D.rt v H'
  | .rl ds L' => ∀ p xs σ' G' H', Sta L' σ' G' H' → Ts L σ G H L' σ' G' H' → Anc z σ σ' → (Own L σ p ∨ H p = none) → ¬ Own L' σ' p → H' p = some (.lst xs) → G' p = none → RpA G' xs ds → D.rt (.ref p) H'

/-- a statement, over the first z slots kept -/
def SD (z : List Nat) (F : Fam) (st : Stmt) (L : List Sl) (o : Out) : Prop := ∃ ts, PSf F st ts ∧ ∀ σ G H, Sta L σ G H → ∀ D, EndOk z L σ G H D o → ts D σ H
def SsD (z : List Nat) (F : Fam) (st : List Stmt) (L : List Sl) (o : Out) : Prop := ∃ ts, PSsf F st ts ∧ ∀ σ G H, Sta L σ G H → ∀ D, EndOk z L σ G H D o → ts D σ H

section
variable {z : List Nat} {F : Fam} {e a b c : Expr} {es : List Expr} {st : Stmt} {sts sts2 : List Stmt} {L L1 L2' L' L3 : List Sl} {d d1 d2 r : PyData} {ds ds2 rs ms ms' : List PyData} {i : Nat} {pos p p2 : Pos} {x y : Str} {o : Out} {σ σ' σ1 : L2.St} {G H G1 H1 : Hp} {D : Ends}

theorem Anc.refl : Anc z σ σ := fun _ _ => rfl
theorem Anc.trans (h : Anc z σ σ1) (h2 : Anc z σ1 σ') : Anc z σ σ' := fun i hi => (h2 i hi).trans (h i hi)
theorem Ts.ow2 {q : Addr} (gh : Same G1 H1) (T : Ts L σ G H L1 σ1 G1 H1) (h : Own L1 σ1 q ∨ H1 q = none) : Own L σ q ∨ H q = none := by
  rcases h with h | h
  · exact T.ow q h
  · refine .inr ?_
    cases e0 : H q with
    | none => rfl
    | some o =>
      obtain ⟨u, hu⟩ := T.th.th q o e0
      rw [h] at hu
      cases hu
/-- what is wanted goes over a step -/
theorem EndOk.from (h : EndOk z L σ G H D o) (S1 : Sta L1 σ1 G1 H1) (T : Ts L σ G H L1 σ1 G1 H1) (A : Anc z σ σ1) : EndOk z L1 σ1 G1 H1 D o := by
  cases o with
  | nx L' => exact fun σ' G' H' S' T' A' => h σ' G' H' S' (T.trans S1.gh T') (A.trans A')
  | ct L' => exact fun σ' G' H' S' T' A' => h σ' G' H' S' (T.trans S1.gh T') (A.trans A')
  | bk L' => exact fun σ' G' H' S' T' A' => h σ' G' H' S' (T.trans S1.gh T') (A.trans A')
  | rt d L' => exact fun v σ' G' H' S' T' A' r => h v σ' G' H' S' (T.trans S1.gh T') (A.trans A') r
  | rl ds L' => exact fun p xs σ' G' H' S' T' A' hp n q g r => h p xs σ' G' H' S' (T.trans S1.gh T') (A.trans A') (T.ow2 S1.gh hp) n q g r
def Out.leaves : Out → Bool
  | .nx _ => false
  | _ => true
theorem EndOk.ends {D' : Ends} (h : EndOk z L σ G H D o) (hl : o.leaves = true) (h1 : D'.ct = D.ct) (h2 : D'.bk = D.bk) (h3 : D'.rt = D.rt) : EndOk z L σ G H D' o := by
  cases o with
  | nx L' => cases hl
  | ct L' => intro σ' G' H' S' T' A'; rw [h1]; exact h σ' G' H' S' T' A'
  | bk L' => intro σ' G' H' S' T' A'; rw [h2]; exact h σ' G' H' S' T' A'
  | rt d L' => intro v σ' G' H' S' T' A' r; rw [h3]; exact h v σ' G' H' S' T' A' r
  | rl ds L' => intro p xs σ' G' H' S' T' A' hp n q g r; rw [h3]; exact h p xs σ' G' H' S' T' A' hp n q g r

/-! ### blocks -/
theorem ss_nil : SsD z F [] L (.nx L) := ⟨_, fun _ => pss_nil, fun σ G H S D q => q σ G H S .refl .refl⟩
theorem ss_cons (h : SD z F st L (.nx L1)) (h2 : SsD z F sts L1 o) : SsD z F (st :: sts) L o := by
  obtain ⟨t1, p1, r1⟩ := h
  obtain ⟨t2, p2, r2⟩ := h2
  refine ⟨_, fun j => pss_cons (p1 j) (p2 j), fun σ G H S D q => ?_⟩
  exact r1 σ G H S { D with nx := t2 D } fun σ' G' H' S' T' A' => r2 σ' G' H' S' D (q.from S' T' A')
theorem ss_end (h : SD z F st L o) (hl : o.leaves = true := by rfl) : SsD z F (st :: sts) L o := by
  obtain ⟨t1, p1, r1⟩ := h
  refine ⟨_, fun j => pss_cons (p1 j) pss_never, fun σ G H S D q => ?_⟩
  exact r1 σ G H S { D with nx := tNever D } (q.ends hl rfl rfl rfl)
theorem ss_one (h : SD z F st L o) : SsD z F [st] L o := by
  obtain ⟨t1, p1, r1⟩ := h
  exact ⟨_, fun j => pss_one (p1 j), r1⟩
/-- a block that may leave or go on -/
theorem ss_app (h : SD z F st L (.nx L1)) (h2 : SsD z F sts L1 o) : SsD z F (st :: sts) L o := ss_cons h h2

/-! ### slots stored -/
theorem Sta.set_va {v : V} (S : Sta L σ G H) (hi : i < L.length) (r : Rp G v d) : Sta (L.set i (.va d)) (σ.set i (some v)) G H ∧ Ts L σ G H (L.set i (.va d)) (σ.set i (some v)) G H := by
  have hs : i < σ.length := by rw [S.ln]; exact hi
  have own : ∀ j us, (L.set i (Sl.va d))[j]? = some (Sl.ow us) → i ≠ j ∧ L[j]? = some (Sl.ow us) := fun j us e => by
    by_cases hj : i = j
    · subst hj
      rw [List.getElem?_set_self hi] at e
      cases e
    · rw [List.getElem?_set_ne hj] at e
      exact ⟨hj, e⟩
  refine ⟨⟨S.gh, by rw [List.length_set, List.length_set]; exact S.ln, fun j x t e1 e2 => ?_, fun j k q us ws e1 e2 e3 e4 => ?_⟩, ⟨Same.refl _, fun b o h g _ _ => ⟨h, g⟩, fun b ⟨j, us, e1, e2⟩ => ?_, .refl⟩⟩
  · by_cases hj : i = j
    · subst hj
      rw [List.getElem?_set_self hs] at e1
      rw [List.getElem?_set_self hi] at e2
      cases e1
      cases e2
      exact ⟨v, rfl, r⟩
    · rw [List.getElem?_set_ne hj] at e1 e2
      exact S.sl j x t e1 e2
  · obtain ⟨n1, f1⟩ := own j us e1
    obtain ⟨n2, f2⟩ := own k ws e2
    rw [List.getElem?_set_ne n1] at e3
    rw [List.getElem?_set_ne n2] at e4
    exact S.di j k q us ws f1 f2 e3 e4
  · obtain ⟨n1, f1⟩ := own j us e1
    rw [List.getElem?_set_ne n1] at e2
    exact .inl ⟨j, us, f1, e2⟩
theorem Sta.set_ow {q : Addr} {xs : List V} (S : Sta L σ G H) (hi : i < L.length) (hq : H q = some (.lst xs)) (hg : G q = none) (no : ¬ Own L σ q) (r : RpA G xs ds) :
    Sta (L.set i (.ow ds)) (σ.set i (some (.ref q))) G H ∧ ∀ b, Own (L.set i (.ow ds)) (σ.set i (some (.ref q))) b → Own L σ b ∨ b = q := by
  have hs : i < σ.length := by rw [S.ln]; exact hi
  refine ⟨⟨S.gh, by rw [List.length_set, List.length_set]; exact S.ln, fun j x t e1 e2 => ?_, fun j k b us ws e1 e2 e3 e4 => ?_⟩, fun b ⟨j, us, e1, e2⟩ => ?_⟩
  · by_cases hj : i = j
    · subst hj
      rw [List.getElem?_set_self hs] at e1
      rw [List.getElem?_set_self hi] at e2
      cases e1
      cases e2
      exact ⟨q, xs, rfl, hq, r, hg⟩
    · rw [List.getElem?_set_ne hj] at e1 e2
      exact S.sl j x t e1 e2
  · by_cases hj : i = j
    · by_cases hk : i = k
      · exact hj.symm.trans hk
      · subst hj
        rw [List.getElem?_set_self hs] at e3
        cases e3
        rw [List.getElem?_set_ne hk] at e2 e4
        exact (no ⟨k, ws, e2, e4⟩).elim
    · by_cases hk : i = k
      · subst hk
        rw [List.getElem?_set_self hs] at e4
        cases e4
        rw [List.getElem?_set_ne hj] at e1 e3
        exact (no ⟨j, us, e1, e3⟩).elim
      · rw [List.getElem?_set_ne hj] at e1 e3
        rw [List.getElem?_set_ne hk] at e2 e4
        exact S.di j k b us ws e1 e2 e3 e4
  · by_cases hj : i = j
    · subst hj
      rw [List.getElem?_set_self hs] at e2
      cases e2
      exact .inr rfl
    · rw [List.getElem?_set_ne hj] at e1 e2
      exact .inl ⟨j, us, e1, e2⟩
theorem Anc.set {v : Option V} (h : i ∉ z) : Anc z σ (σ.set i v) := fun j hj => by
  rw [List.getElem?_set_ne (fun e => h (by rw [e]; exact hj))]

theorem locF {F : Fam} (hx : Loc F.sc x) (j : F.J) : Loc (F.x j).env.scope x := by
  rw [F.hsc]
  exact hx
/-- the names may be stored: cells of the def, or locals -/
def StF (F : Fam) (x : Str) : Prop := F.fn x = true ∨ F.sc.names.lookup x = some .local
theorem StF.at {F : Fam} (h : StF F x) (j : F.J) : (F.x j).fn x = true ∨ (F.x j).env.scope.names.lookup x = some .local := by
  rw [F.hfn, F.hsc]
  exact h
theorem set_any {te : TE} {e : Expr} {pos' : Pos} (pe : PEf F e te) (hn : F.N.Nodup) (hi : F.N[i]? = some x) (hx : Loc F.sc x) (hf : StF F x) (hs : ∀ j, swapsWith e (some (.Name x pos')) pos.line (F.x j).env = pure false) : PSf F (.Assign [.Name x pos'] e pos) (tAsg te (gName i)) :=
  fun j => ps_set (by rw [F.hN]; exact hn) (by rw [F.hN]; exact hi) (locF hx j) (pe j) (hs j) (hf.at j)
/-- x = e -/
theorem sd_set (i : Nat) {e : Expr} {pos' : Pos} (h : ED F e L d L1) (hz : i ∉ z := by decide) (hi : F.N[i]? = some x := by rfl) (hl : i < L1.length := by exact Nat.le_of_ble_eq_true rfl) (hx : Loc F.sc x := by first | exact Or.inl rfl | exact Or.inr rfl) (hf : StF F x := by first | exact Or.inl rfl | exact Or.inr rfl) (hn : F.N.Nodup := by exact of_decide_eq_true rfl)
    (hs : ∀ j, swapsWith e (some (.Name x pos')) pos.line (F.x j).env = pure false := by intro _; rfl) : SD z F (.Assign [.Name x pos'] e pos) L (.nx (L1.set i (.va d))) := by
  obtain ⟨te, pe, run⟩ := h
  refine ⟨_, set_any pe hn hi hx hf hs, fun σ G H S D q => run σ G H S _ fun v G' H' S' T' r => ?_⟩
  obtain ⟨S2, T2⟩ := S'.set_va hl r
  exact q _ _ _ S2 (T'.ts.trans S'.gh T2) (Anc.set hz)
/-- x = a new list -/
theorem sd_new (i : Nat) {e : Expr} {pos' : Pos} (h : FD F e L ds L1) (hz : i ∉ z := by decide) (hi : F.N[i]? = some x := by rfl) (hl : i < L1.length := by exact Nat.le_of_ble_eq_true rfl) (hx : Loc F.sc x := by first | exact Or.inl rfl | exact Or.inr rfl) (hf : StF F x := by first | exact Or.inl rfl | exact Or.inr rfl) (hn : F.N.Nodup := by exact of_decide_eq_true rfl)
    (hs : ∀ j, swapsWith e (some (.Name x pos')) pos.line (F.x j).env = pure false := by intro _; rfl) : SD z F (.Assign [.Name x pos'] e pos) L (.nx (L1.set i (.ow ds))) := by
  obtain ⟨te, pe, run⟩ := h
  refine ⟨_, set_any pe hn hi hx hf hs, fun σ G H S D q => run σ G H S _ fun p xs G' H' S' T' hp hp' gp r => ?_⟩
  obtain ⟨S2, O2⟩ := S'.set_ow hl hp' gp (fun w => S.own_ne hp (T'.ow p w)) r
  refine q _ _ _ S2 ⟨T'.g, T'.fr, fun b w => ?_, T'.th⟩ (Anc.set hz)
  rcases O2 b w with w | w
  · exact .inl (T'.ow b w)
  · exact .inr (by rw [w]; exact hp)
/-! ### return, if, pass .. -/
theorem sd_ret (h : ED F e L d L1) : SD z F (.Return (some e) pos) L (.rt d L1) := by
  obtain ⟨te, pe, run⟩ := h
  exact ⟨_, fun j => ps_ret (pe j), fun σ G H S D q => run σ G H S _ fun v G' H' S' T' r => q v σ G' H' S' T'.ts .refl r⟩
theorem sd_retL (h : FD F e L ds L1) : SD z F (.Return (some e) pos) L (.rl ds L1) := by
  obtain ⟨te, pe, run⟩ := h
  exact ⟨_, fun j => ps_ret (pe j), fun σ G H S D q => run σ G H S _ fun p xs G' H' S' T' hp hp' gp r => q p xs σ G' H' S' T'.ts .refl (.inr hp) (fun w => S.own_ne hp (T'.ow p w)) hp' gp r⟩
/-- return x, x's own list -/
theorem Sta.drop (S : Sta L σ G H) (i : Nat) : Sta (L.set i .no) σ G H ∧ Ts L σ G H (L.set i .no) σ G H := by
  have own : ∀ j us, (L.set i Sl.no)[j]? = some (Sl.ow us) → L[j]? = some (Sl.ow us) := fun j us e => by
    by_cases hj : i = j
    · subst hj
      have hi : i < L.length := by
        have := (List.getElem?_eq_some_iff.mp e).1
        rwa [List.length_set] at this
      rw [List.getElem?_set_self hi] at e
      cases e
    · rw [List.getElem?_set_ne hj] at e
      exact e
  refine ⟨⟨S.gh, by rw [List.length_set]; exact S.ln, fun j x t e1 e2 => ?_, fun j k b us ws e1 e2 e3 e4 => S.di j k b us ws (own j us e1) (own k ws e2) e3 e4⟩, ⟨Same.refl _, fun b o h g _ _ => ⟨h, g⟩, fun b ⟨j, us, e1, e2⟩ => .inl ⟨j, us, own j us e1, e2⟩, .refl⟩⟩
  by_cases hj : i = j
  · subst hj
    have hi : i < L.length := by
      have := (List.getElem?_eq_some_iff.mp e2).1
      rwa [List.length_set] at this
    rw [List.getElem?_set_self hi] at e2
    cases e2
    trivial
  · rw [List.getElem?_set_ne hj] at e2
    exact S.sl j x t e1 e2
theorem sd_retO (i : Nat) (hi : L[i]? = some (Sl.ow ds)) (hN : F.N[i]? = some x := by rfl) (hv : Vis F.sc x := by first | exact Or.inl rfl | exact Or.inr (Or.inl rfl) | exact Or.inr (Or.inr rfl)) (hd : (x == ("__debug__" : Str)) = false := by decide) (hcd : (x == ("__classdict__" : Str)) = false := by decide) :
    SD z F (.Return (some (.Name x p)) pos) L (.rl ds (L.set i .no)) := by
  refine ⟨_, fun j => ps_ret (pvF F i hN hv hd hcd j), fun σ G H S D q => ?_⟩
  obtain ⟨x1, e1, a, xs, rfl, h1, r, g⟩ := S.get hi
  obtain ⟨S2, T2⟩ := S.drop i
  refine ⟨.ref a, e1, q a xs σ G H S2 T2 .refl (.inl ⟨i, ds, hi, e1⟩) (fun w => ?_) h1 g r⟩
  obtain ⟨j, us, w1, w2⟩ := w
  by_cases hj : i = j
  · subst hj
    have hl : i < L.length := (List.getElem?_eq_some_iff.mp hi).1
    rw [List.getElem?_set_self hl] at w1
    cases w1
  · rw [List.getElem?_set_ne hj] at w1
    exact hj (S.di i j a ds us hi w1 e1 w2)
theorem sd_if {k : Bool} (h : BD F c L k L1) (h1 : k = true → SsD z F sts L1 o) (h2 : k = false → SsD z F sts2 L1 o) : SD z F (.If c sts sts2 pos) L o := by
  obtain ⟨tc, pc, run⟩ := h
  cases k with
  | true =>
    obtain ⟨t1, p1, r1⟩ := h1 rfl
    exact ⟨_, fun j => ps_if (pc j) (p1 j) pss_never, fun σ G H S D q => run σ G H S _ fun G' H' S' T' => iteT (r1 σ G' H' S' D (q.from S' T'.ts .refl))⟩
  | false =>
    obtain ⟨t2, p2, r2⟩ := h2 rfl
    exact ⟨_, fun j => ps_if (pc j) pss_never (p2 j), fun σ G H S D q => run σ G H S _ fun G' H' S' T' => iteF (r2 σ G' H' S' D (q.from S' T'.ts .refl))⟩
theorem sd_pass : SD z F (.Pass pos) L (.nx L) := ⟨_, fun _ => ps_pass, fun σ G H S D q => q σ G H S .refl .refl⟩
theorem sd_cont : SD z F (.Continue pos) L (.ct L) := ⟨_, fun _ => ps_continue, fun σ G H S D q => q σ G H S .refl .refl⟩
theorem sd_break : SD z F (.Break pos) L (.bk L) := ⟨_, fun _ => ps_break, fun σ G H S D q => q σ G H S .refl .refl⟩
theorem sd_expr (h : ED F e L d L1) (hs : ∀ env, swapsWith e none pos.line env = pure false := by intro _; rfl) : SD z F (.Expr e pos) L (.nx L1) := by
  obtain ⟨te, pe, run⟩ := h
  exact ⟨_, fun j => ps_expr (pe j) (hs _), fun σ G H S D q => run σ G H S _ fun v G' H' S' T' r => q σ G' H' S' T'.ts .refl⟩
/-! ### what is known is told otherwise -/
/-- one's own list is frozen -/
theorem ss_freeze (i : Nat) (hi : L[i]? = some (Sl.ow ds)) (h : SsD z F sts (L.set i (.va (.list ds))) o) : SsD z F sts L o := by
  obtain ⟨ts, ps, run⟩ := h
  refine ⟨ts, ps, fun σ G H S D q => ?_⟩
  obtain ⟨x1, e1, a, xs, rfl, h1, r, g⟩ := S.get hi
  obtain ⟨S1, T1⟩ := S.drop i
  have hl : i < L.length := (List.getElem?_eq_some_iff.mp hi).1
  have no : ¬ Own (L.set i .no) σ a := by
    rintro ⟨j, us, w1, w2⟩
    by_cases hj : i = j
    · subst hj
      rw [List.getElem?_set_self hl] at w1
      cases w1
    · rw [List.getElem?_set_ne hj] at w1
      exact hj (S.di i j a ds us hi w1 e1 w2)
  obtain ⟨S2, g2⟩ := S1.freeze h1 g no
  obtain ⟨S3, T3⟩ := S2.set_va (i := i) (d := .list ds) (v := .ref a) (by rw [List.length_set]; exact hl) (.lst upd_same (r.up g2))
  have eσ : σ.set i (some (V.ref a)) = σ := by
    obtain ⟨hlt, he⟩ := List.getElem?_eq_some_iff.mp e1
    rw [← he]
    exact List.set_getElem_self hlt
  rw [List.set_set, eσ] at S3
  refine run σ _ H S3 D (q.from S3 ⟨g2, fun b o hb gb nb _ => ⟨hb, ?_⟩, fun b ⟨j, us, w1, w2⟩ => ?_, .frz nt_lst⟩ .refl)
  · rw [upd_ne]
    · exact gb
    · rintro rfl
      exact nb ⟨i, ds, hi, e1⟩
  · refine .inl ⟨j, us, ?_, w2⟩
    by_cases hj : i = j
    · subst hj
      rw [List.getElem?_set_self hl] at w1
      cases w1
    · rw [List.getElem?_set_ne hj] at w1
      exact w1
/-- less is said -/
inductive Wk : List Sl → List Sl → Prop
  | nil : Wk [] []
  | keep {s : Sl} {L L' : List Sl} : Wk L L' → Wk (s :: L) (s :: L')
  | drop {s : Sl} {L L' : List Sl} : Wk L L' → Wk (s :: L) (.no :: L')
theorem Wk.refl : ∀ {L : List Sl}, Wk L L
  | [] => .nil
  | _ :: _ => .keep Wk.refl
theorem Wk.len : ∀ {L L' : List Sl}, Wk L L' → L.length = L'.length
  | _, _, .nil => rfl
  | _, _, .keep h => congrArg (· + 1) h.len
  | _, _, .drop h => congrArg (· + 1) h.len
theorem Wk.at : ∀ {L L' : List Sl} {i : Nat} {t : Sl}, Wk L L' → L'[i]? = some t → t = .no ∨ L[i]? = some t
  | _, _, _, _, .nil, e => by simp at e
  | _, _, 0, _, .keep _, e => .inr e
  | _, _, 0, _, .drop _, e => .inl (Option.some.inj e).symm
  | _, _, i + 1, _, .keep h, e => Wk.at (i := i) h e
  | _, _, i + 1, _, .drop h, e => Wk.at (i := i) h e
theorem Sta.wk (S : Sta L σ G H) (w : Wk L L') : Sta L' σ G H ∧ Ts L σ G H L' σ G H := by
  have own : ∀ j us, L'[j]? = some (Sl.ow us) → L[j]? = some (Sl.ow us) := fun j us e => by
    rcases w.at e with q | q
    · cases q
    · exact q
  refine ⟨⟨S.gh, S.ln.trans w.len, fun j x t e1 e2 => ?_, fun j k b us ws e1 e2 e3 e4 => S.di j k b us ws (own j us e1) (own k ws e2) e3 e4⟩, ⟨Same.refl _, fun b o h g _ _ => ⟨h, g⟩, fun b ⟨j, us, e1, e2⟩ => .inl ⟨j, us, own j us e1, e2⟩, .refl⟩⟩
  rcases w.at e2 with q | q
  · subst q
    trivial
  · exact S.sl j x t e1 q
theorem ss_wk (w : Wk L L1) (h : SsD z F sts L1 o) : SsD z F sts L o := by
  obtain ⟨ts, ps, run⟩ := h
  refine ⟨ts, ps, fun σ G H S D q => ?_⟩
  obtain ⟨S1, T1⟩ := S.wk w
  exact run σ G H S1 D (q.from S1 T1 .refl)
theorem ss_nxwk (w : Wk L1 L') (h : SsD z F sts L (.nx L1)) : SsD z F sts L (.nx L') := by
  obtain ⟨ts, ps, run⟩ := h
  refine ⟨ts, ps, fun σ G H S D q => run σ G H S D fun σ' G' H' S' T' A' => ?_⟩
  obtain ⟨S2, T2⟩ := S'.wk w
  exact q σ' G' H' S2 (T'.trans S'.gh T2) A'
theorem sd_nxwk (w : Wk L1 L') (h : SD z F st L (.nx L1)) : SD z F st L (.nx L') := by
  obtain ⟨ts, ps, run⟩ := h
  refine ⟨ts, ps, fun σ G H S D q => run σ G H S D fun σ' G' H' S' T' A' => ?_⟩
  obtain ⟨S2, T2⟩ := S'.wk w
  exact q σ' G' H' S2 (T'.trans S'.gh T2) A'
end
end DL
namespace DL
open PySem PyProof.Rows L2
variable [TabL]

/-! ### what is walked -/
/-- from the frozen part G1 on, J yields its, one after another -/
def RunsJ (J : It) (its : List PyData) (G1 : Hp) : Prop := ∀ (i : Nat) (G H : Hp), Same G1 G → Same G H →
  (its.length ≤ i → J.stop i H) ∧ ∀ d, its[i]? = some d → J.go i H ∧ ∀ x H', J.yld i H x H' → (H' = H ∧ Rp G x d) ∨ ∃ T xs ds, x = .ref T ∧ H T = none ∧ H' = upd H T (.tup xs) ∧ d = .tuple ds ∧ RpA G xs ds
def ItD (F : Fam) (tg iter : Expr) (L : List Sl) (its : List PyData) (L' : List Sl) : Prop := ∃ wi, PIf F tg iter wi ∧ ∀ σ G H, Sta L σ G H → ∀ R : It → Hp → Prop, (∀ J G' H', Sta L' σ G' H' → Te L σ G H L' G' H' → RunsJ J its G' → R J H') → wi σ H R
/-- a target, storing to the slots T: u tells the slots behind the store of d -/
structure TgD (F : Fam) (tg : Expr) (T : List Nat) (ok : PyData → Prop) (u : PyData → List Sl → List Sl) : Prop where
  run : ∃ g, PGf F tg g ∧ ∀ d, ok d → ∀ L v σ G H, L.length = F.N.length → Sta L σ G H → Rp G v d → ∀ Q : L2.St → Hp → Prop, (∀ σ', Sta (u d L) σ' G H → Ts L σ G H (u d L) σ' G H → (∀ k, k ∉ T → σ'[k]? = σ[k]?) → Q σ' H) → g v σ H Q
  out : ∀ d L k, ok d → k ∉ T → (u d L)[k]? = L[k]?
  own : ∀ d L k ds, ok d → k ∈ T → (u d L)[k]? ≠ some (Sl.ow ds)
  len : ∀ d L, ok d → (u d L).length = L.length

section
variable {z : List Nat} {F : Fam} {e e2 a b c tg iter elt : Expr} {es : List Expr} {st : Stmt} {sts sts2 : List Stmt} {L L1 L2' L' L3 : List Sl} {d d1 d2 r : PyData} {ds ds2 its rs ms ms' : List PyData} {i : Nat} {pos p p2 : Pos} {x y : Str} {o : Out} {σ σ' σ1 : L2.St} {G H G1 H1 G' H' : Hp} {D : Ends}

theorem plf (F : Fam) {tg : Expr} {tl : TE} (h : PEf F e tl) : PIf F tg e (iList F.K tl) := fun j => by
  rw [← F.hK j]
  exact pi_list (h j)
theorem it_list (h : ED F iter L (.list its) L') : ItD F tg iter L its L' := by
  obtain ⟨te, pe, run⟩ := h
  refine ⟨_, plf F pe, fun σ G H S R q => run σ G H S _ fun v G' H' S' T' r => ?_⟩
  cases r with
  | @lst a xs _ h1 h2 =>
    have sq : ∀ {G2 H2 : Hp}, Same G' G2 → Same G2 H2 → H2 a = some (.lst xs) := fun g gh => gh _ _ (g _ _ h1)
    refine ⟨a, rfl, ⟨xs, SqL.of (S'.gh _ _ h1)⟩, q _ G' H' S' T' fun i G2 H2 g gh => ⟨fun hi => ⟨xs, SqL.of (sq g gh), by rw [h2.len]; exact hi⟩, fun d hd => ?_⟩⟩
    obtain ⟨v, hv, rv⟩ := h2.get hd
    refine ⟨⟨xs, v, SqL.of (sq g gh), hv⟩, fun x H3 hy => .inl ⟨hy.1, ?_⟩⟩
    have e1 := hy.2 xs (SqL.of (sq g gh))
    rw [hv] at e1
    cases e1
    exact rv.up g
theorem it_range1 {n : Int} (h : ED F e L (.int n) L') (hb : -(2 ^ 62) ≤ n ∧ n < 2 ^ 62) (hm : F.mg "range" = none) (hg : GlF F "range" := by rfl) (hs : ∀ env, starEach [e] env = [(false, eval e env)] := by intro _; rfl) :
    ItD F tg (.Call (.Name "range" p) [e] [] pos) L ((List.range n.toNat).map fun (i : Nat) => PyData.int i) L' := by
  obtain ⟨te, pe, run⟩ := h
  refine ⟨_, fun j => pi_range1 (hg.gl j) (by rw [F.hmg]; exact hm) (pa_cons (pe j) pa_nil (hs _)) (hs _), fun σ G H S R q => run σ G H S _ fun v G' H' S' T' r => ?_⟩
  cases r
  refine ⟨n, rfl, hb.1, hb.2, q _ G' H' S' T' fun i G2 H2 g gh => ⟨fun hi => by rw [List.length_map, List.length_range] at hi; exact hi, fun d hd => ?_⟩⟩
  rw [List.getElem?_map] at hd
  have hi : i < n.toNat := by
    by_cases hi : i < n.toNat
    · exact hi
    · rw [List.getElem?_eq_none (by simpa using hi)] at hd
      cases hd
  rw [List.getElem?_range hi] at hd
  cases hd
  refine ⟨hi, fun x H3 hy => .inl ⟨hy.1, ?_⟩⟩
  rw [hy.2]
  have e0 : (0 : Int) + (i : Int) = (i : Int) := Int.zero_add _
  rw [e0]
  exact .int _
theorem it_range2 {m n : Int} (h : ED F e L (.int m) L1) (h2 : ED F e2 L1 (.int n) L') (hb : -(2 ^ 62) ≤ m ∧ m < 2 ^ 62 ∧ -(2 ^ 62) ≤ n ∧ n < 2 ^ 62) (hm : F.mg "range" = none) (hg : GlF F "range" := by rfl) (hs : ∀ env, starEach [e, e2] env = [(false, eval e env), (false, eval e2 env)] := by intro _; rfl) (hs2 : ∀ env, starEach [e2] env = [(false, eval e2 env)] := by intro _; rfl) :
    ItD F tg (.Call (.Name "range" p) [e, e2] [] pos) L ((List.range (n - m).toNat).map fun (i : Nat) => PyData.int (m + i)) L' := by
  obtain ⟨te, pe, run⟩ := h
  obtain ⟨te2, pe2, run2⟩ := h2
  refine ⟨_, fun j => pi_range2 (hg.gl j) (by rw [F.hmg]; exact hm) (pa_cons (pe j) (pa_cons (pe2 j) pa_nil (hs2 _)) (by rw [hs, hs2])) (hs _) (hs2 _), fun σ G H S R q => run σ G H S _ fun v G1 H1 S1 T1 r => run2 σ G1 H1 S1 _ fun v2 G' H' S' T' r2 => ?_⟩
  cases r
  cases r2
  refine ⟨m, n, rfl, hb, q _ G' H' S' (T1.trans T') fun i G2 H2 g gh => ⟨fun hi => by rw [List.length_map, List.length_range] at hi; exact hi, fun d hd => ?_⟩⟩
  rw [List.getElem?_map] at hd
  have hi : i < (n - m).toNat := by
    by_cases hi : i < (n - m).toNat
    · exact hi
    · rw [List.getElem?_eq_none (by simpa using hi)] at hd
      cases hd
  rw [List.getElem?_range hi] at hd
  cases hd
  refine ⟨hi, fun x H3 hy => .inl ⟨hy.1, ?_⟩⟩
  rw [hy.2]
  exact .int _
/-- enumerate: pairs of the place and the item -/
def enumD (ds : List PyData) : List PyData := ds.mapIdx fun (i : Nat) d => .tuple [.int i, d]
theorem it_enum {elts : List Expr} {kk : Nat} {tpos : Pos} (h : ED F e L (.list ds) L') (hm : F.mg "enumerate" = none) (hg : GlF F "enumerate" := by rfl) (hs : ∀ env, starEach [e] env = [(false, eval e env)] := by intro _; rfl) :
    ItD F (.Tuple elts kk tpos) (.Call (.Name "enumerate" p) [e] [] pos) L (enumD ds) L' := by
  obtain ⟨te, pe, run⟩ := h
  have pi : PIf F (.Tuple elts kk tpos) (.Call (.Name "enumerate" p) [e] [] pos) (iEnum F.K (tCons te tNil)) := fun j => by
    rw [← F.hK j]
    exact pi_enum (hg.gl j) (by rw [F.hmg]; exact hm) (pa_cons (pe j) pa_nil (hs _)) (hs _)
  refine ⟨_, pi, fun σ G H S R q => run σ G H S _ fun v G' H' S' T' r => ?_⟩
  cases r with
  | @lst a xs _ h1 h2 =>
    have sq : ∀ {G2 H2 : Hp}, Same G' G2 → Same G2 H2 → H2 a = some (.lst xs) := fun g gh => gh _ _ (g _ _ h1)
    refine ⟨a, xs, rfl, SqL.of (S'.gh _ _ h1), q _ G' H' S' T' fun i G2 H2 g gh => ⟨fun hi => ⟨xs, SqL.of (sq g gh), by rw [h2.len]; simpa [enumD] using hi⟩, fun d hd => ?_⟩⟩
    unfold enumD at hd
    rw [List.getElem?_mapIdx] at hd
    cases e0 : ds[i]? with
    | none =>
      rw [e0] at hd
      cases hd
    | some d0 =>
      rw [e0] at hd
      cases hd
      obtain ⟨v, hv, rv⟩ := h2.get e0
      refine ⟨⟨xs, v, SqL.of (sq g gh), hv⟩, fun x H3 ⟨T, x0, ex, hT, eH, hx⟩ => .inr ⟨T, [.int i, x0], _, ex, hT, eH, rfl, .cons (.int _) (.one ?_)⟩⟩
      have e1 := hx xs (SqL.of (sq g gh))
      rw [hv] at e1
      cases e1
      exact rv.up g
theorem it_zip {elts : List Expr} {kk : Nat} {tpos : Pos} (h : ED F e L (.list ds) L1) (h2 : ED F e2 L1 (.list ds2) L') (hm : F.mg "zip" = none) (hg : GlF F "zip" := by rfl) (hs : ∀ env, starEach [e, e2] env = [(false, eval e env), (false, eval e2 env)] := by intro _; rfl) (hs2 : ∀ env, starEach [e2] env = [(false, eval e2 env)] := by intro _; rfl) :
    ItD F (.Tuple elts kk tpos) (.Call (.Name "zip" p) [e, e2] [] pos) L (List.zipWith (fun a b => PyData.tuple [a, b]) ds ds2) L' := by
  obtain ⟨te, pe, run⟩ := h
  obtain ⟨te2, pe2, run2⟩ := h2
  have pi : PIf F (.Tuple elts kk tpos) (.Call (.Name "zip" p) [e, e2] [] pos) (iZip F.K (tCons te (tCons te2 tNil))) := fun j => by
    rw [← F.hK j]
    exact pi_zip (hg.gl j) (by rw [F.hmg]; exact hm) (pa_cons (pe j) (pa_cons (pe2 j) pa_nil (hs2 _)) (by rw [hs, hs2])) (by rw [hs, hs2]) (by rw [hs2]; rfl)
  refine ⟨_, pi, fun σ G H S R q => run σ G H S _ fun v G1 H1 S1 T1 r => run2 σ G1 H1 S1 _ fun v2 G' H' S' T' r2 => ?_⟩
  cases r with
  | @lst a xs _ h1 h2 =>
    cases r2 with
    | @lst b ys _ k1 k2 =>
      have sq : ∀ {G2 H2 : Hp}, Same G' G2 → Same G2 H2 → H2 a = some (.lst xs) := fun g gh => gh _ _ (g _ _ (T'.g _ _ h1))
      have sq2 : ∀ {G2 H2 : Hp}, Same G' G2 → Same G2 H2 → H2 b = some (.lst ys) := fun g gh => gh _ _ (g _ _ k1)
      refine ⟨a, b, xs, ys, rfl, SqL.of (S'.gh _ _ (T'.g _ _ h1)), SqL.of (S'.gh _ _ k1), q _ G' H' S' (T1.trans T') fun i G2 H2 g gh => ⟨fun hi => ⟨xs, ys, SqL.of (sq g gh), SqL.of (sq2 g gh), ?_⟩, fun d hd => ?_⟩⟩
      · rw [List.length_zipWith, ← h2.len, ← k2.len] at hi
        omega
      · rw [List.getElem?_zipWith] at hd
        cases e0 : ds[i]? with
        | none =>
          rw [e0] at hd
          cases hd
        | some d0 =>
          cases e1 : ds2[i]? with
          | none =>
            rw [e0, e1] at hd
            cases hd
          | some d1 =>
            rw [e0, e1] at hd
            cases hd
            obtain ⟨v, hv, rv⟩ := h2.get e0
            obtain ⟨w, hw, rw'⟩ := k2.get e1
            refine ⟨⟨xs, ys, v, w, SqL.of (sq g gh), SqL.of (sq2 g gh), hv, hw⟩, fun x H3 ⟨T, x0, y0, ex, hT, eH, hx, hy⟩ => .inr ⟨T, [x0, y0], _, ex, hT, eH, rfl, .cons ?_ (.one ?_)⟩⟩
            · have q1 := hx xs (SqL.of (sq g gh))
              rw [hv] at q1
              cases q1
              exact (rv.up T'.g).up g
            · have q1 := hy ys (SqL.of (sq2 g gh))
              rw [hw] at q1
              cases q1
              exact rw'.up g

/-! ### targets -/
theorem set_noown {L : List Sl} {i : Nat} {d : PyData} {ds : List PyData} : (L.set i (.va d))[i]? ≠ some (Sl.ow ds) := fun h => by
  have hl : i < L.length := by
    have := (List.getElem?_eq_some_iff.mp h).1
    rwa [List.length_set] at this
  rw [List.getElem?_set_self hl] at h
  cases h
theorem tg_name (i : Nat) (hi : F.N[i]? = some x := by rfl) (hx : Loc F.sc x := by first | exact Or.inl rfl | exact Or.inr rfl) (hf : StF F x := by first | exact Or.inl rfl | exact Or.inr rfl) (hn : F.N.Nodup := by exact of_decide_eq_true rfl) :
    TgD F (.Name x p) [i] (fun _ => True) (fun d L => L.set i (.va d)) where
  run := by
    refine ⟨_, fun j => pg_name (by rw [F.hN]; exact hn) (by rw [F.hN]; exact hi) (locF hx j) (hf.at j), fun d _ L v σ G H hL S r Q q => ?_⟩
    obtain ⟨S2, T2⟩ := S.set_va (i := i) (by rw [hL]; exact (List.getElem?_eq_some_iff.mp hi).1) r
    exact q _ S2 T2 fun k hk => List.getElem?_set_ne (fun h => hk (by simp [h]))
  out := fun d L k _ hk => List.getElem?_set_ne (fun h => hk (by simp [h]))
  own := fun d L k ds _ hk => by
    obtain rfl : k = i := by simpa using hk
    exact set_noown
  len := fun d L _ => List.length_set
theorem ptf (F : Fam) {es : List Expr} {k n : Nat} {t : TGs} (h : ∀ j, PGs (F.x j) es t) (hn : ∀ env, (assignEach es env).length = n) (hst : ∀ env, (assignEach es env).findIdx? (·.1) = none) : PGf F (.Tuple es k pos) (gTup F.K n t) := fun j => by
  rw [← F.hK j]
  exact pg_tup (F.hc j) (h j) (hn _) (hst _)
def uTup2 (i j : Nat) (d : PyData) (L : List Sl) : List Sl := match d with
  | .tuple [d1, d2] => (L.set i (.va d1)).set j (.va d2)
  | _ => L
theorem tg_tup2 (i j : Nat) {px py : Pos} {k : Nat} (hi : F.N[i]? = some x := by rfl) (hx : Loc F.sc x := by first | exact Or.inl rfl | exact Or.inr rfl) (hf : StF F x := by first | exact Or.inl rfl | exact Or.inr rfl)
    (hj : F.N[j]? = some y := by rfl) (hy : Loc F.sc y := by first | exact Or.inl rfl | exact Or.inr rfl) (hfy : StF F y := by first | exact Or.inl rfl | exact Or.inr rfl) (hn : F.N.Nodup := by exact of_decide_eq_true rfl)
    (hlen : ∀ env, (assignEach [.Name x px, .Name y py] env).length = 2 := by intro _; rfl) (hst : ∀ env, (assignEach [.Name x px, .Name y py] env).findIdx? (·.1) = none := by intro _; rfl) :
    TgD F (.Tuple [.Name x px, .Name y py] k p) [i, j] (fun d => ∃ d1 d2, d = .tuple [d1, d2]) (uTup2 i j) where
  run := by
    refine ⟨_, ptf F (fun j0 => pgs_cons (pg_name (by rw [F.hN]; exact hn) (by rw [F.hN]; exact hi) (locF hx j0) (hf.at j0)) (pgs_cons (pg_name (by rw [F.hN]; exact hn) (by rw [F.hN]; exact hj) (locF hy j0) (hfy.at j0)) pgs_nil)) hlen hst, fun d hd L v σ G H hL S r Q q => ?_⟩
    obtain ⟨d1, d2, rfl⟩ := hd
    cases r with
    | @tup a xs _ h1 h2 =>
      cases h2 with
      | cons r1 t1 =>
        cases t1 with
        | cons r2 t2 =>
          cases t2
          refine ⟨a, _, rfl, SqT.of (S.gh _ _ h1), rfl, _, _, rfl, _, _, rfl, rfl, ?_⟩
          obtain ⟨S2, T2⟩ := S.set_va (i := i) (by rw [hL]; exact (List.getElem?_eq_some_iff.mp hi).1) r1
          obtain ⟨S3, T3⟩ := S2.set_va (i := j) (by rw [List.length_set, hL]; exact (List.getElem?_eq_some_iff.mp hj).1) r2
          exact q _ S3 (T2.trans S2.gh T3) fun k hk => by
            rw [List.getElem?_set_ne (fun h => hk (by simp [h])), List.getElem?_set_ne (fun h => hk (by simp [h]))]
  out := fun d L k hd hk => by
    obtain ⟨d1, d2, rfl⟩ := hd
    show ((L.set i (.va d1)).set j (.va d2))[k]? = L[k]?
    rw [List.getElem?_set_ne (fun h => hk (by simp [h])), List.getElem?_set_ne (fun h => hk (by simp [h]))]
  own := fun d L k ds hd hk => by
    obtain ⟨d1, d2, rfl⟩ := hd
    show ((L.set i (.va d1)).set j (.va d2))[k]? ≠ some (Sl.ow ds)
    by_cases hj' : k = j
    · subst hj'
      exact set_noown
    · obtain rfl : k = i := by simpa [hj'] using hk
      rw [List.getElem?_set_ne (Ne.symm hj')]
      exact set_noown
  len := fun d L hd => by
    obtain ⟨d1, d2, rfl⟩ := hd
    show ((L.set i (.va d1)).set j (.va d2)).length = L.length
    rw [List.length_set, List.length_set]

/-! ### for -/
/-- the item stands frozen -/
theorem yielded {v : V} (S : Sta L σ G H) (h : (H' = H ∧ Rp G v d) ∨ ∃ T xs us, v = .ref T ∧ H T = none ∧ H' = upd H T (.tup xs) ∧ d = .tuple us ∧ RpA G xs us) : ∃ G', Sta L σ G' H' ∧ Te L σ G H L G' H' ∧ Rp G' v d := by
  rcases h with ⟨rfl, r⟩ | ⟨T, xs, us, rfl, hT, rfl, rfl, r⟩
  · exact ⟨G, S, .refl, r⟩
  · obtain ⟨S2, T2⟩ := S.newG (o := .tup xs) hT
    exact ⟨_, S2, T2, .tup upd_same (r.up T2.g)⟩
def tforA (F : Fam) (b : List Stmt) : TS := tssA F b
theorem for_any {wi : TI} {g : TG} (pi : PIf F tg iter wi) (pg : PGf F tg g) (hs : ∀ env x, foldedSetIterable iter env x = pure x) : PSf F (.For tg iter sts [] pos) (tFor wi g (tssA F sts)) :=
  fun j => ps_for (by rw [F.hxe]; exact PassesOwn.never) (F.hc j) (pi j) (pg j) (pss_any F sts j) (hs _)
/-- what one turn brings, item by item: M i tells the slots ahead of turn i; at turn m (if m is below the number of items) the loop is left by o -/
theorem sd_for {ok : PyData → Prop} {u : PyData → List Sl → List Sl} {T : List Nat} (M : Nat → List Sl) (m : Nat) (hi : ItD F tg iter L its (M 0)) (ht : TgD F tg T ok u) (hz : ∀ k ∈ T, k ∉ z) (hM : ∀ i, (M i).length = F.N.length) (hm : m ≤ its.length)
    (hb : ∀ i d, i < m → its[i]? = some d → ok d ∧ (SsD z F sts (u d (M i)) (.nx (M (i + 1))) ∨ SsD z F sts (u d (M i)) (.ct (M (i + 1)))))
    (hl : match its[m]? with
      | none => o = .nx (M m)
      | some d => ok d ∧ ((∃ L', o = .nx L' ∧ SsD z F sts (u d (M m)) (.bk L')) ∨ (SsD z F sts (u d (M m)) o ∧ ((∃ r L', o = .rt r L') ∨ ∃ r L', o = .rl r L'))))
    (hs : ∀ env x, foldedSetIterable iter env x = pure x := by intro _ _; rfl) : SD z F (.For tg iter sts [] pos) L o := by
  obtain ⟨wi, pi, runI⟩ := hi
  obtain ⟨⟨g, pg, runG⟩, _, _, _⟩ := ht
  have ancT : ∀ {σ1 σ2 : L2.St}, (∀ k, k ∉ T → σ2[k]? = σ1[k]?) → Anc z σ1 σ2 := fun h k hk => h k fun hT => hz k hT hk
  refine ⟨_, for_any pi pg hs, fun σ0 G0 H0 S0 D q => runI σ0 G0 H0 S0 _ fun J G1 H1 S1 T1 RJ => ?_⟩
  refine ⟨fun i k σ H => k = its.length - i ∧ i ≤ m ∧ ∃ G, Sta (M i) σ G H ∧ Ts (M 0) σ0 G1 H1 (M i) σ G H ∧ Anc z σ0 σ, ⟨its.length, by simp, Nat.zero_le _, G1, S1, .refl, .refl⟩, ?_⟩
  rintro i k σ H ⟨rfl, him, G, S, T0, A⟩
  obtain ⟨stop, go⟩ := RJ i G H T0.g S.gh
  have q2 : EndOk z (M i) σ G H D o := q.from S (T1.ts.trans S1.gh T0) A
  by_cases h : i < m
  · have hlt : i < its.length := by omega
    obtain ⟨hg, hy⟩ := go its[i] (List.getElem?_eq_getElem hlt)
    obtain ⟨okd, body⟩ := hb i its[i] h (List.getElem?_eq_getElem hlt)
    refine .inr ⟨hg, fun σ' H' => i + 1 ≤ m ∧ ∃ G', Sta (M (i + 1)) σ' G' H' ∧ Ts (M 0) σ0 G1 H1 (M (i + 1)) σ' G' H' ∧ Anc z σ0 σ', fun σ' H' ⟨h1, w⟩ => ⟨its.length - (i + 1), by omega, rfl, h1, w⟩, fun x H' hx => ?_⟩
    obtain ⟨G2, S2, T2, r2⟩ := yielded S (hy x H' hx)
    refine runG _ okd _ _ _ _ _ (hM i) S2 r2 _ fun σ3 S3 T3 A30 => ?_
    have A3 := ancT A30
    have T4 := (T0.trans S.gh T2.ts).trans S2.gh T3
    have fin : ∀ {σ' : L2.St} {G' H'' : Hp}, Sta (M (i + 1)) σ' G' H'' → Ts (u its[i] (M i)) σ3 G2 H' (M (i + 1)) σ' G' H'' → Anc z σ3 σ' → (i + 1 ≤ m ∧ ∃ G', Sta (M (i + 1)) σ' G' H'' ∧ Ts (M 0) σ0 G1 H1 (M (i + 1)) σ' G' H'' ∧ Anc z σ0 σ') := fun S5 T5 A5 =>
      ⟨by omega, _, S5, T4.trans S3.gh T5, (A.trans A3).trans A5⟩
    rcases body with ⟨ts, ps, run⟩ | ⟨ts, ps, run⟩
    · exact ⟨ts, ps, run σ3 G2 H' S3 _ fun σ' G' H'' S5 T5 A5 => fin S5 T5 A5⟩
    · exact ⟨ts, ps, run σ3 G2 H' S3 _ fun σ' G' H'' S5 T5 A5 => fin S5 T5 A5⟩
  · obtain rfl : i = m := by omega
    cases e0 : its[i]? with
    | none =>
      rw [e0] at hl
      subst hl
      have hle : its.length ≤ i := List.getElem?_eq_none_iff.mp e0
      exact .inl ⟨stop hle, q2 σ G H S .refl .refl⟩
    | some d =>
      rw [e0] at hl
      obtain ⟨okd, body⟩ := hl
      obtain ⟨hg, hy⟩ := go d e0
      refine .inr ⟨hg, fun _ _ => False, fun _ _ w => w.elim, fun x H' hx => ?_⟩
      obtain ⟨G2, S2, T2, r2⟩ := yielded S (hy x H' hx)
      refine runG _ okd _ _ _ _ _ (hM i) S2 r2 _ fun σ3 S3 T3 A30 => ?_
      have A3 := ancT A30
      have q3 := (q2.from S2 T2.ts .refl).from S3 T3 A3
      rcases body with ⟨L', rfl, ts, ps, run⟩ | ⟨⟨ts, ps, run⟩, hO⟩
      · exact ⟨ts, ps, run σ3 G2 H' S3 _ fun σ' G' H'' S5 T5 A5 => q3 σ' G' H'' S5 T5 A5⟩
      · rcases hO with ⟨r, L', rfl⟩ | ⟨r, L', rfl⟩
        · exact ⟨ts, ps, run σ3 G2 H' S3 _ fun v σ' G' H'' S5 T5 A5 r5 => q3 v σ' G' H'' S5 T5 A5 r5⟩
        · exact ⟨ts, ps, run σ3 G2 H' S3 _ fun p xs σ' G' H'' S5 T5 A5 hp n hq hg r5 => q3 p xs σ' G' H'' S5 T5 A5 hp n hq hg r5⟩
end
end DL
namespace DL
open PySem PyProof.Rows L2
variable [TabL]

def AllNo : List Nat → List Sl → Prop
  | [], _ => True
  | k :: ks, L => L[k]? = some .no ∧ AllNo ks L
theorem AllNo.at : ∀ {ks : List Nat} {L : List Sl}, AllNo ks L → ∀ k ∈ ks, ∀ t, L[k]? = some t → t = .no
  | _ :: _, _, h, k, hk, t, e => by
    rcases List.mem_cons.mp hk with rfl | hk
    · rw [h.1] at e
      exact (Option.some.inj e).symm
    · exact AllNo.at h.2 k hk t e
theorem wipe_get (σ : L2.St) : ∀ (vs : List Nat) (k : Nat), (wipe σ vs)[k]? = if k ∈ vs then (σ[k]?).map (fun _ => none) else σ[k]?
  | [], k => by simp [wipe]
  | v :: vs, k => by
    have ih := wipe_get σ vs k
    unfold wipe
    by_cases h : v = k
    · subst h
      rw [List.getElem?_set]
      simp only [if_true, List.mem_cons, true_or]
      by_cases hl : v < (wipe σ vs).length
      · rw [if_pos hl]
        rw [wipe_length] at hl
        rw [List.getElem?_eq_getElem hl]
        rfl
      · rw [if_neg hl]
        rw [wipe_length] at hl
        rw [List.getElem?_eq_none (by omega)]
        rfl
    · rw [List.getElem?_set_ne h, ih]
      have : (k ∈ v :: vs) ↔ k ∈ vs := by
        simp only [List.mem_cons]
        exact ⟨fun q => q.resolve_left (fun e => h e.symm), .inr⟩
      simp only [this]
theorem wipe_eq {σ σ2 : L2.St} {vs : List Nat} (h : ∀ k, k ∉ vs → σ2[k]? = (wipe σ vs)[k]?) (hl : σ2.length = σ.length) : wipe σ2 vs = wipe σ vs := by
  apply List.ext_getElem?
  intro k
  rw [wipe_get σ2, wipe_get σ]
  by_cases hk : k ∈ vs
  · rw [if_pos hk, if_pos hk]
    by_cases h1 : k < σ.length
    · rw [List.getElem?_eq_getElem h1, List.getElem?_eq_getElem (by omega)]
      rfl
    · rw [List.getElem?_eq_none (by omega), List.getElem?_eq_none (by omega)]
  · rw [if_neg hk, if_neg hk]
    have := h k hk
    rw [wipe_get σ, if_neg hk] at this
    exact this

section
variable {F : Fam} {e e2 a b c tg iter elt : Expr} {es ifs : List Expr} {L L1 L2' L' L3 : List Sl} {d d1 d2 r : PyData} {ds ds2 its rs ms ms' : List PyData} {i : Nat} {pos p p2 : Pos} {x y : Str} {σ σ' σ1 σ2 : L2.St} {G H G1 H1 G2 H2 G' H' : Hp} {scope : Scope}

/-- the tests of a comprehension (none, or one) -/
inductive IfsD (F : Fam) : List Expr → List Sl → Bool → Prop
  | nil {L : List Sl} : IfsD F [] L true
  | one {L : List Sl} {c : Expr} {k : Bool} : BD F c L k L → IfsD F [c] L k
def ttsA (F : Fam) : List Expr → TT
  | [] => tYes
  | [c] => ttA F c
  | _ => fun _ _ _ => False
theorem pts_any (F : Fam) : ∀ (ifs : List Expr) (j : F.J), PTs (F.x j) ifs (ttsA F ifs)
  | [], _ => pts_nil
  | [c], j => pts_one (pt_any F c j)
  | _ :: _ :: _, _ => ⟨fun _ _ _ _ _ _ h => h.elim⟩
theorem IfsD.run {k : Bool} (h : IfsD F ifs L k) (S : Sta L σ G H) (Q : Bool → Hp → Prop) (q : ∀ G' H', Sta L σ G' H' → Te L σ G H L G' H' → Q k H') : ttsA F ifs σ H Q := by
  cases h with
  | nil => exact q G H S .refl
  | one h =>
    obtain ⟨tt, pt, run⟩ := h
    exact ⟨tt, pt, run σ G H S Q q⟩

/-- a comprehension's reading gives ds -/
def CompD (F : Fam) (elt tg iter : Expr) (ifs : List Expr) (scope : Scope) (L : List Sl) (ds : List PyData) (L' : List Sl) : Prop := ∃ (wi : TI) (g : TG) (own : List (Str × Nat)), F.N.Nodup ∧ PIf F tg iter wi ∧ BlkOk F.N F.sc scope own ∧ PGf (F.blk scope) tg g ∧ (∀ env x, foldedSetIterable iter env x = pure x) ∧
  ∀ σ G H, Sta L σ G H → ∀ Q : VK, (∀ p xs G' H', Sta L' σ G' H' → Te L σ G H L' G' H' → H p = none → H' p = some (.lst xs) → G' p = none → RpA G' xs ds → Q (.ref p) H') → tLc wi g (ttsA (F.blk scope) ifs) (teA (F.blk scope) elt) (own.map (·.2)) σ H Q
theorem lc_any {wi : TI} {g : TG} {own : List (Str × Nat)} (hn : F.N.Nodup) (pi : PIf F tg iter wi) (ok : BlkOk F.N F.sc scope own) (pg : PGf (F.blk scope) tg g) (hs : ∀ env x, foldedSetIterable iter env x = pure x) :
    PEf F (.ListComp elt [⟨tg, iter, ifs, 0⟩] scope pos) (tLc wi g (ttsA (F.blk scope) ifs) (teA (F.blk scope) elt) (own.map (·.2))) := fun j => by
  refine pe_lc (F.hc j) (by rw [F.hN]; exact hn) (pi j) (by rw [F.hN, F.hsc]; exact ok) (fun s H C cl fp => ?_) (fun s H C cl fp => ?_) (fun s H C cl fp => ?_) (hs _)
  · exact pg (j, s, H, C, cl, fp)
  · exact pts_any (F.blk scope) ifs (j, s, H, C, cl, fp)
  · exact pe_any (F.blk scope) elt (j, s, H, C, cl, fp)

theorem CompD.fd (h : CompD F elt tg iter ifs scope L ds L') : FD F (.ListComp elt [⟨tg, iter, ifs, 0⟩] scope pos) L ds L' := by
  obtain ⟨wi, g, own, hn, pi, ok, pg, hs, run⟩ := h
  exact ⟨_, lc_any hn pi ok pg hs, run⟩
/-- y = [..] on one line, y a local -/
theorem CompD.set {z : List Nat} {py spos : Pos} (i : Nat) (h : CompD F elt tg iter ifs scope L ds L1) (hz : i ∉ z := by decide) (hi : F.N[i]? = some y := by rfl) (hl : i < L1.length := by exact Nat.le_of_ble_eq_true rfl) (hy : F.sc.names.lookup y = some .local := by rfl) (hk : F.sc.kind = .function := by rfl)
    (hli : (py.line == pos.line) = true := by rfl) (ha : (scope.names.any fun (n, k) => n == y && (k == .local || k == .cell)) = false := by decide +kernel) (hl2 : spos.line = spos.line := by rfl) :
    SD z F (.Assign [.Name y py] (.ListComp elt [⟨tg, iter, ifs, 0⟩] scope pos) spos) L (.nx (L1.set i (.ow ds))) := by
  obtain ⟨wi, g, own, hn, pi, ok, pg, hs, run⟩ := h
  refine ⟨tAsg (tLc wi g (ttsA (F.blk scope) ifs) (teA (F.blk scope) elt) (own.map fun (x : Str × Nat) => x.snd)) (gName i), fun j => ?_, fun σ G H S D q => run σ G H S _ fun p xs G' H' S' T' hp hp' gp r => ?_⟩
  · refine ps_setLc (F.hc j) (by rw [F.hN]; exact hn) (by rw [F.hN]; exact hi) (by rw [F.hsc]; exact hy) (sw_true (by rw [F.hsc]; exact hk) (by rw [F.hsc]; exact hy) hli ha) (pi j) (by rw [F.hN, F.hsc]; exact ok) (fun s H C cl fp => ?_) (fun s H C cl fp => ?_) (fun s H C cl fp => ?_) (hs _)
    · exact pg (j, s, H, C, cl, fp)
    · exact pts_any (F.blk scope) ifs (j, s, H, C, cl, fp)
    · exact pe_any (F.blk scope) elt (j, s, H, C, cl, fp)
  · obtain ⟨S2, O2⟩ := S'.set_ow hl hp' gp (fun w => S.own_ne hp (T'.ow p w)) r
    refine q _ _ _ S2 ⟨T'.g, T'.fr, fun b w => ?_, T'.th⟩ (Anc.set hz)
    rcases O2 b w with w | w
    · exact .inl (T'.ow b w)
    · exact .inr (by rw [w]; exact hp)
/-- [elt for tg in iter if ..]; M i tells the slots ahead of item i, R i the items made by then -/
theorem cd_lc {own : List (Str × Nat)} {T : List Nat} {ok : PyData → Prop} {u : PyData → List Sl → List Sl} (M : Nat → List Sl) (R : Nat → List PyData) (hi : ItD F tg iter L its (M 0)) (hb : BlkOk F.N F.sc scope own) (ht : TgD (F.blk scope) tg T ok u)
    (hT : ∀ k ∈ T, k ∈ own.map (·.2)) (hM : ∀ i, (M i).length = F.N.length) (hno0 : ∀ i, AllNo (own.map (·.2)) (M i)) (h0 : R 0 = [])
    (he : ∀ i d, its[i]? = some d → ok d ∧ ∃ k, IfsD (F.blk scope) ifs (u d (M i)) k ∧ (k = true → ∃ r, ED (F.blk scope) elt (u d (M i)) r (u d (M (i + 1))) ∧ R (i + 1) = R i ++ [r]) ∧ (k = false → M (i + 1) = M i ∧ R (i + 1) = R i))
    (hlen : its.length ≤ 100000) (hn : F.N.Nodup := by exact of_decide_eq_true rfl) (hs : ∀ env x, foldedSetIterable iter env x = pure x := by intro _ _; rfl) : CompD F elt tg iter ifs scope L (R its.length) (M its.length) := by
  obtain ⟨wi, pi, runI⟩ := hi
  obtain ⟨⟨g, pg, runG⟩, out, nown, ulen⟩ := ht
  have hno : ∀ i, ∀ k ∈ own.map (·.2), ∀ t, (M i)[k]? = some t → t = .no := fun i => (hno0 i).at
  have hR : ∀ i, i ≤ its.length → (R i).length ≤ i := by
    intro i
    induction i with
    | zero => intro _; rw [h0]; exact Nat.le_refl _
    | succ i ih =>
      intro hi
      have hlt : i < its.length := by omega
      obtain ⟨_, k, _, e1, e2⟩ := he i its[i] (List.getElem?_eq_getElem hlt)
      have := ih (by omega)
      cases k with
      | true =>
        obtain ⟨r, _, e⟩ := e1 rfl
        rw [e, List.length_append, List.length_singleton]
        omega
      | false =>
        rw [(e2 rfl).2]
        omega
  refine ⟨wi, g, own, hn, pi, hb, pg, hs, fun σ G0 H0 S0 Q q => runI σ G0 H0 S0 _ fun J G1 H1 S1 T1 RJ => fun Dl hD => ?_⟩
  have hDG : G1 Dl = none := S1.gn hD
  refine ⟨fun i k H => k = its.length - i ∧ i ≤ its.length ∧ ∃ G acc, Sta (M i) σ G H ∧ Te (M 0) σ G1 H1 (M i) G H ∧ H Dl = some (.lst acc) ∧ G Dl = none ∧ RpA G acc (R i) ∧ ¬ Own (M i) σ Dl, ⟨its.length, by simp, Nat.zero_le _, G1, [], ?_⟩, ?_⟩
  · obtain ⟨S2, T2⟩ := S1.new (o := .lst []) hD
    exact ⟨S2, T2, upd_same, hDG, by rw [h0]; exact .nil, S1.own_ne hD⟩
  rintro i k H ⟨rfl, him, G, acc, S, T0, hDl, hGD, racc, nO⟩
  obtain ⟨stop, go⟩ := RJ i G H T0.g S.gh
  by_cases h : i < its.length
  case neg =>
    obtain rfl : i = its.length := by omega
    exact .inl ⟨stop (Nat.le_refl _), q Dl acc G H S (T1.trans T0) (T1.back hD) hDl hGD racc⟩
  obtain ⟨hg, hy⟩ := go its[i] (List.getElem?_eq_getElem h)
  obtain ⟨okd, kb, ifd, kT, kF⟩ := he i its[i] (List.getElem?_eq_getElem h)
  refine .inr ⟨hg, fun H' => i + 1 ≤ its.length ∧ ∃ G acc, Sta (M (i + 1)) σ G H' ∧ Te (M 0) σ G1 H1 (M (i + 1)) G H' ∧ H' Dl = some (.lst acc) ∧ G Dl = none ∧ RpA G acc (R (i + 1)) ∧ ¬ Own (M (i + 1)) σ Dl,
    fun H' ⟨l1, w⟩ => ⟨its.length - (i + 1), by omega, rfl, l1, w⟩, fun x H' hx => ?_⟩
  obtain ⟨G2, S2, T2, r2⟩ := yielded S (hy x H' hx)
  -- the block's own slots are wiped
  have hM2 : ∀ k us, (M i)[k]? = some (Sl.ow us) → k ∉ own.map (·.2) := fun k us e hk => by
    have := hno i k hk _ e
    cases this
  have oW : ∀ b, Own (M i) (wipe σ (own.map (·.2))) b ↔ Own (M i) σ b := fun b => by
    constructor
    · rintro ⟨k, us, e1, e2⟩
      refine ⟨k, us, e1, ?_⟩
      rw [wipe_get, if_neg (hM2 k us e1)] at e2
      exact e2
    · rintro ⟨k, us, e1, e2⟩
      refine ⟨k, us, e1, ?_⟩
      rw [wipe_get, if_neg (hM2 k us e1)]
      exact e2
  have SW : Sta (M i) (wipe σ (own.map (·.2))) G2 H' := by
    refine ⟨S2.gh, by rw [wipe_length]; exact S2.ln, fun k x t e1 e2 => ?_, fun k l a us ws e1 e2 e3 e4 => ?_⟩
    · by_cases hk : k ∈ own.map (·.2)
      · obtain rfl := hno i k hk t e2
        trivial
      · rw [wipe_get, if_neg hk] at e1
        exact S2.sl k x t e1 e2
    · rw [wipe_get, if_neg (hM2 k us e1)] at e3
      rw [wipe_get, if_neg (hM2 l ws e2)] at e4
      exact S2.di k l a us ws e1 e2 e3 e4
  refine runG _ okd _ _ _ _ _ (by show _ = F.N.length; exact hM i) SW r2 _ fun σ3 S3 T3 A3 => ?_
  have l3 : σ3.length = σ.length := by rw [S3.ln, ulen _ _ okd, ← S2.ln]
  have agree : ∀ k, k ∉ own.map (·.2) → σ3[k]? = σ[k]? := fun k hk => by
    have := A3 k fun hkT => hk (hT k hkT)
    rw [wipe_get, if_neg hk] at this
    exact this
  have weq : wipe σ3 (own.map (·.2)) = wipe σ (own.map (·.2)) := wipe_eq (fun k hk => by rw [wipe_get, if_neg hk]; exact agree k hk) l3
  refine ⟨weq, ?_⟩
  -- whose own: the same addresses, within and without
  have oIn : ∀ n b, (∀ k ∈ own.map (·.2), ∀ t, (M n)[k]? = some t → t = .no) → (Own (u its[i] (M n)) σ3 b ↔ Own (M n) σ b) := fun n b hn0 => by
    have nO2 : ∀ k us, (M n)[k]? = some (Sl.ow us) → k ∉ own.map (·.2) := fun k us e hk => by
      have := hn0 k hk _ e
      cases this
    constructor
    · rintro ⟨k, us, e1, e2⟩
      have hkT : k ∉ T := fun hk => nown _ _ k us okd hk e1
      rw [out _ _ k okd hkT] at e1
      rw [agree k (nO2 k us e1)] at e2
      exact ⟨k, us, e1, e2⟩
    · rintro ⟨k, us, e1, e2⟩
      have hk := nO2 k us e1
      refine ⟨k, us, ?_, ?_⟩
      · rw [out _ _ k okd fun hkT => hk (hT k hkT)]
        exact e1
      · rw [agree k hk]
        exact e2
  -- back from the block
  have backS : ∀ n {G4 H4 : Hp}, (∀ k ∈ own.map (·.2), ∀ t, (M n)[k]? = some t → t = .no) → Sta (u its[i] (M n)) σ3 G4 H4 → (M n).length = σ.length → Sta (M n) σ G4 H4 := fun n G4 H4 hn0 S4 hl => by
    have nO2 : ∀ k us, (M n)[k]? = some (Sl.ow us) → k ∉ own.map (·.2) := fun k us e hk => by
      have := hn0 k hk _ e
      cases this
    refine ⟨S4.gh, hl.symm, fun k x t e1 e2 => ?_, fun k l a us ws e1 e2 e3 e4 => ?_⟩
    · by_cases hk : k ∈ own.map (·.2)
      · obtain rfl := hn0 k hk t e2
        trivial
      · exact S4.sl k x t (by rw [agree k hk]; exact e1) (by rw [out _ _ k okd fun hkT => hk (hT k hkT)]; exact e2)
    · have k1 := nO2 k us e1
      have k2 := nO2 l ws e2
      exact S4.di k l a us ws (by rw [out _ _ k okd fun hkT => k1 (hT k hkT)]; exact e1) (by rw [out _ _ l okd fun hkT => k2 (hT l hkT)]; exact e2) (by rw [agree k k1]; exact e3) (by rw [agree l k2]; exact e4)
  have hMl : ∀ n, (M n).length = σ.length := fun n => by rw [hM n, ← hM i, S.ln]
  have nO3 : ¬ Own (u its[i] (M i)) σ3 Dl := fun w => nO ((oIn i Dl (hno i)).mp w)
  have hD2 := T2.fr Dl _ hDl hGD nO pl_lst
  refine ifd.run S3 _ fun G4 H4 S4 T4 => ?_
  have hD4 := T4.fr Dl _ hD2.1 hD2.2 nO3 pl_lst
  cases kb with
  | false =>
    obtain ⟨eM, eR⟩ := kF rfl
    refine iteF ⟨by omega, G4, acc, ?_, ?_, hD4.1, hD4.2, ?_, ?_⟩
    · rw [eM]
      exact backS i (hno i) S4 (hMl i)
    · rw [eM]
      refine (T0.trans T2).trans ⟨T4.g, fun b o hb gb nb => T4.fr b o hb gb fun w => nb ((oIn i b (hno i)).mp w), fun b w => w, T4.th⟩
    · rw [eR]
      exact racc.up (T2.g.trans T4.g)
    · rw [eM]
      exact nO
  | true =>
    obtain ⟨r, ⟨te, pe, run⟩, eR⟩ := kT rfl
    refine iteT ⟨te, pe, run σ3 G4 H4 S4 _ fun v G5 H5 S5 T5 r5 => ?_⟩
    have hD5 := T5.fr Dl _ hD4.1 hD4.2 nO3 pl_lst
    have S6 := backS (i + 1) (hno (i + 1)) S5 (hMl (i + 1))
    have T6 : Te (M i) σ G2 H' (M (i + 1)) G5 H5 := by
      have T45 := T4.trans T5
      exact ⟨T45.g, fun b o hb gb nb => T45.fr b o hb gb fun w => nb ((oIn i b (hno i)).mp w), fun b w => (oIn i b (hno i)).mp (T45.ow b ((oIn (i + 1) b (hno (i + 1))).mpr w)), T45.th⟩
    have nO6 : ¬ Own (M (i + 1)) σ Dl := fun w => nO (T6.ow Dl w)
    refine ⟨acc, hD5.1, ?_, by omega, G5, acc ++ [v], ?_, ?_, upd_same, hD5.2, ?_, nO6⟩
    · rw [racc.len]
      have := hR i him
      exact Nat.lt_of_lt_of_le (by omega : (R i).length < 200000) (by decide)
    · -- the list grows
      refine ⟨fun b o hb => ?_, S6.ln, fun k x t e1 e2 => ?_, S6.di⟩
      · rw [upd_ne]
        · exact S6.gh b o hb
        · rintro rfl
          rw [hD5.2] at hb
          cases hb
      · have qs := S6.sl k x t e1 e2
        cases t with
        | no => exact qs
        | va d => exact qs
        | ow us =>
          obtain ⟨a, ys, e, q1, q2, q3⟩ := qs
          subst e
          refine ⟨a, ys, rfl, ?_, q2, q3⟩
          rw [upd_ne]
          · exact q1
          · rintro rfl
            exact nO6 ⟨k, us, e2, e1⟩
        | tb => exact Thr.tabs (.put hD5.1) qs
        | fn f G1 => exact qs
    · have TT := (T0.trans T2).trans T6
      refine ⟨TT.g, fun b o hb gb nb nt => ?_, TT.ow, TT.th.trans (.put hD5.1)⟩
      · obtain ⟨q1, q2⟩ := TT.fr b o hb gb nb nt
        refine ⟨?_, q2⟩
        rw [upd_ne (ne_of_none hb hD)]
        exact q1
    · rw [eR]
      exact (racc.up ((T2.g.trans T4.g).trans T5.g)).app (.one r5)
/-- nothing is changed by the element: the items that pass, each by f -/
theorem cd_map {own : List (Str × Nat)} {T : List Nat} {ok : PyData → Prop} {u : PyData → List Sl → List Sl} (f : PyData → PyData) (hi : ItD F tg iter L its L1) (hb : BlkOk F.N F.sc scope own) (ht : TgD (F.blk scope) tg T ok u)
    (hT : ∀ k ∈ T, k ∈ own.map (·.2)) (hM : L1.length = F.N.length) (hno : AllNo (own.map (·.2)) L1)
    (he : ∀ d, d ∈ its → ok d ∧ ED (F.blk scope) elt (u d L1) (f d) (u d L1))
    (hlen : its.length ≤ 100000) (hn : F.N.Nodup := by exact of_decide_eq_true rfl) (hs : ∀ env x, foldedSetIterable iter env x = pure x := by intro _ _; rfl) : CompD F elt tg iter [] scope L (its.map f) L1 := by
  have q := cd_lc (fun _ => L1) (fun i => (its.take i).map f) hi hb ht hT (fun _ => hM) (fun _ => hno) rfl (fun i d hd => ?_) hlen hn hs (elt := elt) (ifs := []) (scope := scope)
  · simpa using q
  · obtain ⟨hl, hv⟩ := List.getElem?_eq_some_iff.mp hd
    obtain ⟨o, w⟩ := he d (List.mem_of_getElem? hd)
    refine ⟨o, true, .nil, fun _ => ⟨f d, w, ?_⟩, fun z => by cases z⟩
    rw [List.take_succ, hd]
    simp
theorem cd_filter {own : List (Str × Nat)} {T : List Nat} {ok : PyData → Prop} {u : PyData → List Sl → List Sl} (f : PyData → PyData) (t : PyData → Bool) (hi : ItD F tg iter L its L1) (hb : BlkOk F.N F.sc scope own) (ht : TgD (F.blk scope) tg T ok u)
    (hT : ∀ k ∈ T, k ∈ own.map (·.2)) (hM : L1.length = F.N.length) (hno : AllNo (own.map (·.2)) L1)
    (he : ∀ d, d ∈ its → ok d ∧ BD (F.blk scope) c (u d L1) (t d) (u d L1) ∧ (t d = true → ED (F.blk scope) elt (u d L1) (f d) (u d L1)))
    (hlen : its.length ≤ 100000) (hn : F.N.Nodup := by exact of_decide_eq_true rfl) (hs : ∀ env x, foldedSetIterable iter env x = pure x := by intro _ _; rfl) : CompD F elt tg iter [c] scope L ((its.filter t).map f) L1 := by
  have q := cd_lc (fun _ => L1) (fun i => ((its.take i).filter t).map f) hi hb ht hT (fun _ => hM) (fun _ => hno) rfl (fun i d hd => ?_) hlen hn hs (elt := elt) (ifs := [c]) (scope := scope)
  · simpa using q
  · obtain ⟨o, w1, w2⟩ := he d (List.mem_of_getElem? hd)
    refine ⟨o, t d, .one w1, fun z => ⟨f d, w2 z, ?_⟩, fun z => ⟨rfl, ?_⟩⟩
    · rw [List.take_succ, hd]
      simp [z]
    · rw [List.take_succ, hd]
      simp [z]
end
end DL
namespace DL
open PySem PyProof.Rows L2
variable [TabL]

section
variable {z : List Nat} {F : Fam} {e e2 a b c tg iter elt : Expr} {es ifs : List Expr} {L L1 L2' L' L3 : List Sl} {d d1 d2 r : PyData} {ds ds2 its rs ms ms' : List PyData} {i : Nat} {pos p p2 : Pos} {x y : Str} {σ σ' σ1 σ2 : L2.St} {G H G1 H1 G2 H2 G' H' : Hp} {scope : Scope}

/-! ### slices -/
def OD (F : Fam) (e : Option Expr) (L : List Sl) (o : Option Int) (L' : List Sl) : Prop := ∃ to, (∀ j, PO (F.x j) e to) ∧ ∀ σ G H, Sta L σ G H → ∀ Q : Option Int → Hp → Prop, (∀ G' H', Sta L' σ G' H' → Te L σ G H L' G' H' → Q o H') → to σ H Q
theorem od_none : OD F none L none L := ⟨_, fun _ => po_none, fun σ G H S Q q => q G H S .refl⟩
theorem od_some {n : Int} (h : ED F e L (.int n) L') : OD F (some e) L (some n) L' := by
  obtain ⟨te, pe, run⟩ := h
  refine ⟨_, fun j => po_some (pe j), fun σ G H S Q q => run σ G H S _ fun v G' H' S' T' r => ?_⟩
  cases r
  exact ⟨n, rfl, q _ _ S' T'⟩
def cutD (ds : List PyData) (lo hi : Option Int) : List PyData := (ds.drop (HT.sIx ds.length 0 lo)).take (HT.sIx ds.length ds.length hi - HT.sIx ds.length 0 lo)
theorem RpA.cut {xs : List V} (r : RpA G xs ds) (lo hi : Option Int) : RpA G (cutV xs lo hi) (cutD ds lo hi) := by
  unfold cutV cutD
  rw [r.len]
  exact (r.drop _).take _
theorem slLf (F : Fam) (j : F.J) : SlR (F.x j) (rSlL F.K) := by
  rw [← F.hK j]
  exact sl_list
theorem fd_slice {lo hi : Option Expr} {l h : Option Int} (ha : ED F a L (.list ds) L1) (h1 : OD F lo L1 l L2') (h2 : OD F hi L2' h L') : FD F (.Subscript a (.Slice lo hi none p2) pos) L (cutD ds l h) L' := by
  obtain ⟨ta, pa, ra⟩ := ha
  obtain ⟨t1, p1, r1⟩ := h1
  obtain ⟨t2, p2, r2⟩ := h2
  refine ⟨_, fun j => pe_slice (slLf F j) (pa j) (p1 j) (p2 j), fun σ G H S Q q => ra σ G H S _ fun x G1 H1 S1 T1 rx => r1 σ G1 H1 S1 _ fun G2 H2 S2 T2 => r2 σ G2 H2 S2 _ fun G3 H3 S3 T3 => ?_⟩
  cases rx with
  | @lst q0 xs _ e1 e2 =>
    refine ⟨q0, xs, rfl, SqL.of (S3.gh _ _ (T3.g _ _ (T2.g _ _ e1))), fun p hp => ?_⟩
    obtain ⟨S4, T4⟩ := S3.new (o := .lst (cutV xs l h)) hp
    have TT := (T1.trans T2).trans T3
    exact q p _ G3 _ S4 (TT.trans T4) (TT.back hp) upd_same (S3.gn hp) ((e2.up (T2.g.trans T3.g)).cut l h)
/-- of one's own list, the bounds reckonings that change nothing -/
theorem fd_sliceO {lo hi : Option Expr} {l h : Option Int} {py : Pos} (i : Nat) (hi' : L[i]? = some (Sl.ow ds)) (h1 : OD F lo L l L) (h2 : OD F hi L h L) (hN : F.N[i]? = some y := by rfl) (hv : Vis F.sc y := by first | exact Or.inl rfl | exact Or.inr (Or.inl rfl) | exact Or.inr (Or.inr rfl)) (hd : (y == ("__debug__" : Str)) = false := by decide) (hcd : (y == ("__classdict__" : Str)) = false := by decide) :
    FD F (.Subscript (.Name y py) (.Slice lo hi none p2) pos) L (cutD ds l h) L := by
  obtain ⟨t1, p1, r1⟩ := h1
  obtain ⟨t2, p2, r2⟩ := h2
  refine ⟨_, fun j => pe_slice (slLf F j) (pvF F i hN hv hd hcd j) (p1 j) (p2 j), fun σ G H S Q q => ?_⟩
  obtain ⟨x0, e1, a, xs0, rfl, _⟩ := S.get hi'
  refine ⟨.ref a, e1, r1 σ G H S _ fun G2 H2 S2 T2 => r2 σ G2 H2 S2 _ fun G3 H3 S3 T3 => ?_⟩
  obtain ⟨x1, e2, a', xs, z, k1, k2, k3⟩ := S3.get hi'
  rw [e1] at e2
  cases e2
  cases z
  refine ⟨a, xs, rfl, SqL.of k1, fun p hp => ?_⟩
  obtain ⟨S4, T4⟩ := S3.new (o := .lst (cutV xs l h)) hp
  have TT := T2.trans T3
  exact q p _ G3 _ S4 (TT.trans T4) (TT.back hp) upd_same (S3.gn hp) (k2.cut l h)
/-- xs[::-1] -/
theorem fd_rev {k : Nat} {p1 p2 p3 : Pos} (ha : LD F a L ds L') : FD F (.Subscript a (.Slice none none (some (.UnaryOp .USub (.Constant (.int 1) k p1) p2)) p3) pos) L ds.reverse L' := by
  obtain ⟨ta, pa, ra⟩ := ha
  refine ⟨tRevL F.K ta, fun j => by rw [← F.hK j]; exact pe_revL (pa j), fun σ G H S Q q => ra σ G H S _ fun q0 xs G1 H1 S1 T1 e1 e2 => ⟨q0, xs, rfl, SqL.of e1, fun p hp => ?_⟩⟩
  obtain ⟨S4, T4⟩ := S1.new (o := .lst xs.reverse) hp
  exact q p _ G1 _ S4 (T1.trans T4) (T1.back hp) upd_same (S1.gn hp) e2.rev
/-! ### + and * of lists -/
theorem fd_cat (ha : ED F a L (.list ds) L1) (hb : ED F b L1 (.list ds2) L') (hl : ds.length + ds2.length ≤ 100000) : FD F (.BinOp a .Add b pos) L (ds ++ ds2) L' := by
  obtain ⟨ta, pa, ra⟩ := ha
  obtain ⟨tb, pb, rb⟩ := hb
  refine ⟨_, fun j => pe_op op_cat (pa j) (pb j), fun σ G H S Q q => ra σ G H S _ fun x G1 H1 S1 T1 rx => rb σ G1 H1 S1 _ fun y G2 H2 S2 T2 ry => ?_⟩
  cases rx with
  | @lst q0 xs _ e1 e2 =>
    cases ry with
    | @lst q1 ys _ f1 f2 =>
      refine ⟨q0, q1, xs, ys, rfl, rfl, S2.gh _ _ (T2.g _ _ e1), S2.gh _ _ f1, Nat.le_trans (by rw [e2.len, f2.len]; exact hl) (by decide), fun p hp => ?_⟩
      obtain ⟨S4, T4⟩ := S2.new (o := .lst (xs ++ ys)) hp
      have TT := T1.trans T2
      exact q p _ G2 _ S4 (TT.trans T4) (TT.back hp) upd_same (S2.gn hp) ((e2.up T2.g).app f2)
theorem RpA.rep {xs : List V} (r : RpA G xs ds) : ∀ k : Nat, RpA G (List.replicate k xs).flatten (List.replicate k ds).flatten
  | 0 => .nil
  | k + 1 => by
    rw [List.replicate_succ, List.replicate_succ, List.flatten_cons, List.flatten_cons]
    exact r.app (RpA.rep r k)
theorem fd_rep {n : Int} (ha : ED F a L (.list ds) L1) (hb : ED F b L1 (.int n) L') (hn : -(2 ^ 63) ≤ n ∧ n < 2 ^ 63) (hl : ds.length * n.toNat ≤ 100000) : FD F (.BinOp a .Mult b pos) L (List.replicate n.toNat ds).flatten L' := by
  obtain ⟨ta, pa, ra⟩ := ha
  obtain ⟨tb, pb, rb⟩ := hb
  refine ⟨_, fun j => pe_op op_rep (pa j) (pb j), fun σ G H S Q q => ra σ G H S _ fun x G1 H1 S1 T1 rx => rb σ G1 H1 S1 _ fun y G2 H2 S2 T2 ry => ?_⟩
  cases ry
  cases rx with
  | @lst q0 xs _ e1 e2 =>
    refine ⟨q0, n, xs, rfl, rfl, S2.gh _ _ (T2.g _ _ e1), hn.1, hn.2, Nat.le_trans (by rw [e2.len]; exact hl) (by decide), fun p hp => ?_⟩
    obtain ⟨S4, T4⟩ := S2.new (o := .lst (List.replicate n.toNat xs).flatten) hp
    have TT := T1.trans T2
    exact q p _ G2 _ S4 (TT.trans T4) (TT.back hp) upd_same (S2.gn hp) ((e2.up T2.g).rep n.toNat)
/-- texts -/
theorem ed_addS {s t : Str} (ha : ED F a L (.str s) L1) (hb : ED F b L1 (.str t) L') (hl : s.length + t.length ≤ 100000) : ED F (.BinOp a .Add b pos) L (.str (s ++ t)) L' := ed_op (fun _ => op_add_str) ha hb fun x y G H _ r1 r2 Q q => by
  cases r1; cases r2; exact ⟨s, t, rfl, rfl, Nat.le_trans hl (by decide), q _ (.str _)⟩
theorem cd_eqS {s t : Str} (ha : ED F a L (.str s) L1) (hb : ED F b L1 (.str t) L') : CD F (.Compare a [.Eq] [b] pos) L (decide (s = t)) L' := cd_cmp (fun _ => op_eq) (nomark _) ha hb fun x y G H _ r1 r2 Q q => by
  cases r1; cases r2
  refine ⟨rfl, ?_⟩
  have e : decide (V.str s = V.str t) = decide (s = t) := by
    by_cases h : s = t
    · subst h; simp
    · rw [decide_eq_false h, decide_eq_false fun z => h (V.str.inj z)]
  rw [e]
  exact q
theorem cd_neS {s t : Str} (ha : ED F a L (.str s) L1) (hb : ED F b L1 (.str t) L') : CD F (.Compare a [.NotEq] [b] pos) L (!decide (s = t)) L' := cd_cmp (fun _ => op_ne) (nomark _) ha hb fun x y G H _ r1 r2 Q q => by
  cases r1; cases r2
  refine ⟨rfl, ?_⟩
  have e : decide (V.str s = V.str t) = decide (s = t) := by
    by_cases h : s = t
    · subst h; simp
    · rw [decide_eq_false h, decide_eq_false fun z => h (V.str.inj z)]
  rw [e]
  exact q
/-! ### a tuple display -/
theorem ed_tup (h : AD F es L ds L') {x1} (hl : ds.length ≤ 100000 := by first | decide | simp | omega) : ED F (.Tuple es x1 pos) L (.tuple ds) L' := by
  obtain ⟨te, pe, run⟩ := h
  refine ⟨_, fun j => pe_tup (pe j), fun σ G H S Q q => run σ G H S _ fun vs G' H' S' T r => ⟨Nat.le_trans (by rw [r.len]; exact hl) (by decide), fun p hp => ?_⟩⟩
  obtain ⟨S2, T2⟩ := S'.newG (o := .tup vs) hp
  exact q _ _ _ S2 (T.trans T2) (.tup upd_same (r.up T2.g))
/-! ### chains a < b < c -/
theorem cd_leLe {l m n : Int} (ha : ED F a L (.int l) L1) (hb : ED F b L1 (.int m) L1) (hc : ED F c L1 (.int n) L1) (hmk : lastMarks [.LtE, .LtE] [b, c] = false := by rfl) : CD F (.Compare a [.LtE, .LtE] [b, c] pos) L (decide (l ≤ m) && decide (m ≤ n)) L1 := by
  obtain ⟨ta, pa, ra⟩ := ha
  obtain ⟨tb, pb, rb⟩ := hb
  obtain ⟨tc, pc, rc⟩ := hc
  refine ⟨_, fun j => pe_chain op_le op_le (pa j) (pb j) (pc j) hmk, fun j => pt_chain op_le op_le (pa j) (pb j) (pc j) hmk, fun σ G H S Q q => ra σ G H S _ fun x G1 H1 S1 T1 rx => rb σ G1 H1 S1 _ fun y G2 H2 S2 T2 ry => ?_⟩
  cases rx; cases ry
  refine ⟨l, m, rfl, rfl, _, rfl, ?_⟩
  by_cases h : l ≤ m
  · rw [decide_eq_true h] at q ⊢
    refine iteT (rc σ G2 H2 S2 _ fun w G3 H3 S3 T3 rw' => ?_)
    cases rw'
    exact ⟨m, n, rfl, rfl, q _ _ S3 ((T1.trans T2).trans T3)⟩
  · rw [decide_eq_false h] at q ⊢
    exact iteF (q _ _ S2 (T1.trans T2))
theorem cd_ltLe {l m n : Int} (ha : ED F a L (.int l) L1) (hb : ED F b L1 (.int m) L1) (hc : ED F c L1 (.int n) L1) (hmk : lastMarks [.Lt, .LtE] [b, c] = false := by rfl) : CD F (.Compare a [.Lt, .LtE] [b, c] pos) L (decide (l < m) && decide (m ≤ n)) L1 := by
  obtain ⟨ta, pa, ra⟩ := ha
  obtain ⟨tb, pb, rb⟩ := hb
  obtain ⟨tc, pc, rc⟩ := hc
  refine ⟨_, fun j => pe_chain op_lt op_le (pa j) (pb j) (pc j) hmk, fun j => pt_chain op_lt op_le (pa j) (pb j) (pc j) hmk, fun σ G H S Q q => ra σ G H S _ fun x G1 H1 S1 T1 rx => rb σ G1 H1 S1 _ fun y G2 H2 S2 T2 ry => ?_⟩
  cases rx; cases ry
  refine ⟨l, m, rfl, rfl, _, rfl, ?_⟩
  by_cases h : l < m
  · rw [decide_eq_true h] at q ⊢
    refine iteT (rc σ G2 H2 S2 _ fun w G3 H3 S3 T3 rw' => ?_)
    cases rw'
    exact ⟨m, n, rfl, rfl, q _ _ S3 ((T1.trans T2).trans T3)⟩
  · rw [decide_eq_false h] at q ⊢
    exact iteF (q _ _ S2 (T1.trans T2))
/-! ### changes of one's own list -/
theorem Sta.put {q : Addr} {xs : List V} (S : Sta L σ G H) (hi : L[i]? = some (Sl.ow ms)) (hs : σ[i]? = some (some (V.ref q))) (r : RpA G xs ms') : Sta (L.set i (.ow ms')) σ G (upd H q (.lst xs)) ∧ Te L σ G H (L.set i (.ow ms')) G (upd H q (.lst xs)) := by
  obtain ⟨x1, e1, q', ys, e2, h1, h2, h3⟩ := S.get hi
  rw [hs] at e1
  cases e1
  cases e2
  refine S.mut hi hs ⟨Same.refl _, fun b o hb => ?_, fun b o hb gb nb _ => ⟨by rw [upd_ne nb]; exact hb, gb⟩, .put h1⟩ upd_same r h3
  · rw [upd_ne]
    · exact S.gh b o hb
    · rintro rfl
      rw [h3] at hb
      cases hb
/-- x.append(e) -/
theorem sd_app {py apos cpos : Pos} (i : Nat) (h : ED F e L d L1) (hi : L1[i]? = some (Sl.ow ms)) (hl : ms.length < 100000) (hL : ∃ us, L[i]? = some (Sl.ow us) := by exact ⟨_, rfl⟩) (hN : F.N[i]? = some y := by rfl) (hv : Vis F.sc y := by first | exact Or.inl rfl | exact Or.inr (Or.inl rfl) | exact Or.inr (Or.inr rfl)) (hd : (y == ("__debug__" : Str)) = false := by decide) (hcd : (y == ("__classdict__" : Str)) = false := by decide)
    (hbase : ∀ env, attributeBase (.Name y py) "append" env (eval (.Name y py) env) = eval (.Name y py) env := by intro _; rfl)
    (hfew : ∀ env, ((backTo cpos (starEach [e] env)).all (fun x => !x.1) && (backToKw cpos (keywordEach [] env)).all (fun x => x.1.isSome) && decide (([e] : List Expr).length + ([] : List Keyword).length + (if ([] : List Keyword).isEmpty then 0 else 1) < 30)) = true := by intro _; rfl)
    (hline : (apos.endLine == cpos.line) = true := by rfl) (hs : ∀ env, starEach [e] env = (false, eval e env) :: starEach [] env := by intro _; rfl) (hplain : ∀ env, (backTo cpos (starEach [] env)).any (·.1) = false := by intro _; rfl)
    (hsw : ∀ env, swapsWith (.Call (.Attribute (.Name y py) "append" apos) [e] [] cpos) none pos.line env = pure false := by intro _; rfl) :
    SD z F (.Expr (.Call (.Attribute (.Name y py) "append" apos) [e] [] cpos) pos) L (.nx (L1.set i (.ow (ms ++ [d])))) := by
  obtain ⟨te, pe, run⟩ := h
  have pc : PEf F (.Call (.Attribute (.Name y py) "append" apos) [e] [] cpos) (tBM F.K "list" rAppend (tVar i) (tCons te tNil)) := fun j => by
    rw [← F.hK j]
    exact pe_bm PySem.F.plainAttrs_list PySem.F.slot_list_append PySem.F.type_list_append mt_append (pvF F i hN hv hd hcd j) (pa_cons (pe j) pa_nil (hs _)) (hbase _) (hfew _) hline (hs _) (hplain _)
  refine ⟨_, fun j => ps_expr (pc j) (hsw _), fun σ G H S D q => ?_⟩
  obtain ⟨us, hus⟩ := hL
  obtain ⟨x0, e1, q0, xs0, rfl, k1, _, _⟩ := S.get hus
  refine ⟨.ref q0, e1, .inl ⟨rfl, _, SqL.of k1⟩, run σ G H S _ fun v G1 H1 S1 T1 r1 => ?_⟩
  obtain ⟨x1, e2, q1, xs, w, h1, h2, h3⟩ := S1.get hi
  rw [e1] at e2
  cases e2
  cases w
  refine ⟨q0, xs, v, rfl, rfl, h1, Nat.lt_of_lt_of_le (by rw [h2.len]; exact hl) (by decide), ?_⟩
  obtain ⟨S2, T2⟩ := S1.put hi e1 (h2.app (.one r1))
  exact q σ _ _ S2 (T1.trans T2).ts .refl
/-- x[k] = e -/
theorem sd_put {py tpos : Pos} {n : Int} {k : Nat} (i : Nat) (h : ED F e L d L1) (hb : ED F b L1 (.int n) L1) (hi : L1[i]? = some (Sl.ow ms)) (hk : ixN ms.length n = some k) (hN : F.N[i]? = some y := by rfl) (hv : Vis F.sc y := by first | exact Or.inl rfl | exact Or.inr (Or.inl rfl) | exact Or.inr (Or.inr rfl)) (hd : (y == ("__debug__" : Str)) = false := by decide) (hcd : (y == ("__classdict__" : Str)) = false := by decide)
    (ha : ∀ env v, assign (.Subscript (.Name y py) b tpos) env v = (do
      let ov ← holding [v] (eval (.Name y py) env)
      let iv ← holding [v, ov] (eval b env)
      standAt tpos
      holding [v, ov, iv] (setItem ov iv v)
      release [v, ov, iv] []) := by intro _ _; rfl)
    (hs : ∀ j, swapsWithSole [.Subscript (.Name y py) b tpos] e pos.line (F.x j).env = pure false := by intro _; rfl) (hw : ∀ j, swappedStores [.Subscript (.Name y py) b tpos] e (F.x j).env = pure none := by intro _; rfl) (h1 : ∀ env, (assignEach [.Subscript (.Name y py) b tpos] env).map (·.2) = [assign (.Subscript (.Name y py) b tpos) env] := by intro _; rfl) :
    SD z F (.Assign [.Subscript (.Name y py) b tpos] e pos) L (.nx (L1.set i (.ow (ms.set k d)))) := by
  obtain ⟨te, pe, run⟩ := h
  obtain ⟨tb, pb, rb⟩ := hb
  refine ⟨_, fun j => ps_asg (pe j) (pg_sub (pvF F i hN hv hd hcd j) (pb j) set_list (ha _)) (hs j) (hw j) (h1 _), fun σ G H S D q => run σ G H S _ fun v G1 H1 S1 T1 r1 => ?_⟩
  obtain ⟨x0, e1, q0, xs0, rfl, _⟩ := S1.get hi
  refine ⟨.ref q0, e1, rb σ G1 H1 S1 _ fun w G2 H2 S2 T2 r2 => ?_⟩
  cases r2
  obtain ⟨x1, e2, q1, xs, w, g1, g2, g3⟩ := S2.get hi
  rw [e1] at e2
  cases e2
  cases w
  refine ⟨q0, xs, n, k, rfl, rfl, g1, by rw [g2.len]; exact hk, ?_⟩
  obtain ⟨S3, T3⟩ := S2.put hi e1 (g2.set (r1.up T2.g) k)
  exact q σ _ _ S3 ((T1.trans T2).trans T3).ts .refl
/-- a, b = e, e a pair -/
theorem sd_tup2 {px py : Pos} {kt : Nat} (i j : Nat) (h : ED F e L (.tuple [d1, d2]) L1) (hz : i ∉ z ∧ j ∉ z := by decide) (hln : L1.length = F.N.length := by rfl) (hi : F.N[i]? = some x := by rfl) (hx : Loc F.sc x := by first | exact Or.inl rfl | exact Or.inr rfl) (hf : StF F x := by first | exact Or.inl rfl | exact Or.inr rfl)
    (hj : F.N[j]? = some y := by rfl) (hy : Loc F.sc y := by first | exact Or.inl rfl | exact Or.inr rfl) (hfy : StF F y := by first | exact Or.inl rfl | exact Or.inr rfl) (hn : F.N.Nodup := by exact of_decide_eq_true rfl)
    (hs : ∀ j, swapsWithSole [.Tuple [.Name x px, .Name y py] kt p] e pos.line (F.x j).env = pure false := by intro _; rfl) (hw : ∀ j, swappedStores [.Tuple [.Name x px, .Name y py] kt p] e (F.x j).env = pure none := by intro _; rfl) (h1 : ∀ env, (assignEach [.Tuple [.Name x px, .Name y py] kt p] env).map (·.2) = [assign (.Tuple [.Name x px, .Name y py] kt p) env] := by intro _; rfl) :
    SD z F (.Assign [.Tuple [.Name x px, .Name y py] kt p] e pos) L (.nx ((L1.set i (.va d1)).set j (.va d2))) := by
  obtain ⟨te, pe, run⟩ := h
  obtain ⟨⟨g, pg, runG⟩, _, _, _⟩ := tg_tup2 (F := F) (k := kt) (p := p) (px := px) (py := py) i j hi hx hf hj hy hfy hn
  refine ⟨_, fun j => ps_asg (pe j) (pg j) (hs j) (hw j) (h1 _), fun σ G H S D q => run σ G H S _ fun v G1 H1 S1 T1 r1 => ?_⟩
  refine runG (.tuple [d1, d2]) ⟨d1, d2, rfl⟩ L1 v σ G1 H1 hln S1 r1 _ fun σ' S2 T2 A => ?_
  exact q σ' G1 H1 S2 (T1.ts.trans S1.gh T2) fun k hk => A k (by
    intro hm
    rcases List.mem_cons.mp hm with h | h
    · exact hz.1 (by rw [← h]; exact hk)
    · have : k = j := by simpa using h
      exact hz.2 (by rw [← this]; exact hk))
/-! ### repr -/
theorem call_reprD {X : Cx} (hg : X.A.guards = some []) (hu : X.A.units + 100 < cLine) : CallR X (.builtin "repr") (fun xs H Q => ∃ v d, xs = [v] ∧ Dp X.K H v d ∧ d.showable = true ∧ d.hasDict = false ∧ d.depth ≤ 60 ∧ isDisplay d = true ∧ d.shown.length ≤ sizeLine ∧ Q (.str d.shown) H) := by
  intro pins s σ H xs us Q I r q
  obtain ⟨v, d, rfl, dp, h1, h2, h3, h4, h5, q⟩ := q
  obtain ⟨u, rfl, rv⟩ := vals1 r
  obtain ⟨as, rd⟩ := Dp.reads I d v u dp rv
  obtain ⟨a, rfl⟩ := isRef_of_reads rd h4
  exact repr_of_reads' rd h1 (PyData.noDict_hsm h2) hg (by omega) (fun _ _ e => e) (fun h' t tk hk => ⟨.str d.shown, H, I.kept (t' := tk) hk, ⟨_, rfl⟩, q⟩) h5
theorem reprf (F : Fam) (j : F.J) : CallR (F.x j) (.builtin "repr") (fun xs H Q => ∃ v d, xs = [v] ∧ Dp F.K H v d ∧ d.showable = true ∧ d.hasDict = false ∧ d.depth ≤ 60 ∧ isDisplay d = true ∧ d.shown.length ≤ sizeLine ∧ Q (.str d.shown) H) := by
  rw [← F.hK j]
  exact call_reprD (F.hg j) (by have := (F.hr j).un; omega)
structure ReprOk (d : PyData) : Prop where
  sh : d.showable = true
  nd : d.hasDict = false
  dp : d.depth ≤ 60
  di : isDisplay d = true
  ln : d.shown.length ≤ sizeLine
theorem ed_repr (h : HD F e L d L') (ok : ReprOk d) (hm : F.mg "repr" = none) (hg : GlF F "repr" := by rfl) (hs : ∀ env, starEach [e] env = (false, eval e env) :: starEach [] env := by intro _; rfl) : ED F (.Call (.Name "repr" p) [e] [] pos) L (.str d.shown) L' := by
  obtain ⟨te, pe, run⟩ := h
  refine ⟨_, bt_any (reprf F) hg hm (by decide +kernel) (pa1 pe hs) (by decide) (by decide) hs (fun _ => rfl), fun σ G H S Q q => run σ G H S _ fun v G' H' S' T r => ?_⟩
  exact ⟨v, d, rfl, Rp.dp _ _ ok.nd r, ok.sh, ok.nd, ok.dp, ok.di, ok.ln, q _ _ _ S' T (.str _)⟩
end

/-! ### defs -/
section
variable {P : Program} {w : World} {K : PySem.W.Frag} {mg : Str → Option Value} {base : Heap}
def FamJ (qual : Str) (sc : Scope) (f : Addr) (k : Nat) : Type := { t : Value × Around × List Env × Shared × Hp // t.2.1.guards = some [] ∧ Room k (t.2.1.deeper (envOfC qual sc t.2.2.2.1.heap.objs.size f t.1)) }
def famOf (P : Program) (w : World) (K : PySem.W.Frag) (mg : Str → Option Value) (base : Heap) (N : List Str) (qual : Str) (sc : Scope) (f : Addr) (k : Nat) : Fam where
  J := FamJ qual sc f k
  x := fun t => (cxOf CX0 P w K mg base N qual sc f t.1.1 t.1.2.1 t.1.2.2.1 t.1.2.2.2.1 t.1.2.2.2.2 E0).nox
  P := P
  w := w
  K := K
  mg := mg
  base := base
  N := N
  sc := sc
  fn := fun _ => true
  k := k
  hP := fun _ => rfl
  hw := fun _ => rfl
  hK := fun _ => rfl
  hmg := fun _ => rfl
  hbase := fun _ => rfl
  hN := fun _ => rfl
  hsc := fun _ => rfl
  hfn := fun _ => rfl
  hc := fun _ => rfl
  hr := fun t => t.2.2
  hxe := fun _ => rfl
  hg := fun t => guards_in t.2.1
def startL (N : List Str) (ds : List PyData) : List Sl := ds.map Sl.va ++ List.replicate (N.length - ds.length) .no
def startM (N : List Str) (ms ds : List PyData) : List Sl := .ow ms :: (ds.map Sl.va ++ List.replicate (N.length - (ds.length + 1)) .no)
theorem startL_get {N : List Str} {ds : List PyData} {i : Nat} {t : Sl} (h : (startL N ds)[i]? = some t) : (∃ d, ds[i]? = some d ∧ t = .va d) ∨ t = .no := by
  unfold startL at h
  by_cases hi : i < (ds.map Sl.va).length
  · rw [List.getElem?_append_left hi, List.getElem?_map] at h
    cases e : ds[i]? with
    | none =>
      rw [e] at h
      cases h
    | some d =>
      rw [e] at h
      exact .inl ⟨d, rfl, (Option.some.inj h).symm⟩
  · rw [List.getElem?_append_right (by omega), List.getElem?_replicate] at h
    split at h
    · exact .inr (Option.some.inj h).symm
    · cases h
theorem start_get {N : List Str} {vs : List V} {i : Nat} {v : V} (h : vs[i]? = some v) : (L2.start N vs)[i]? = some (some v) := by
  unfold L2.start
  have hi : i < vs.length := (List.getElem?_eq_some_iff.mp h).1
  rw [List.getElem?_append_left (by rw [List.length_map]; exact hi), List.getElem?_map, h]
  rfl
theorem staL {N : List Str} {vs : List V} {ds : List PyData} {G H : Hp} (gh : Same G H) (r : RpA G vs ds) (hl : ds.length ≤ N.length) : Sta (startL N ds) (L2.start N vs) G H := by
  refine ⟨gh, ?_, fun i x t e1 e2 => ?_, fun i j a us ws e1 _ _ _ => ?_⟩
  · unfold L2.start startL
    rw [List.length_append, List.length_append, List.length_map, List.length_map, List.length_replicate, List.length_replicate, r.len]
  · rcases startL_get e2 with ⟨d, h, rfl⟩ | rfl
    · obtain ⟨v, hv, rv⟩ := r.get h
      rw [start_get hv] at e1
      cases e1
      exact ⟨v, rfl, rv⟩
    · trivial
  · rcases startL_get e1 with ⟨d, h, z⟩ | z
    · cases z
    · cases z
theorem noOwnL {N : List Str} {ds : List PyData} {σ : L2.St} {b : Addr} : ¬ Own (startL N ds) σ b := by
  rintro ⟨i, us, e, _⟩
  rcases startL_get e with ⟨d, h, z⟩ | z
  · cases z
  · cases z
variable {x qual : Str} {st : Stmt} {f : Addr} {fd : FuncData} {N ps : List Str} {k : Nat}
theorem fnBody {params : Arguments} {body : List Stmt} {scope : Scope} {dV kV doc pm cdv ct oc : Value} {an od : Option Addr} {osl : Array (Option Value)} {sp : Sp}
    (lk : K.lookup f = some ⟨oc, od, .func (PySem.W.fnOf x qual params body scope dV kV doc pm an cdv ct), osl⟩) (hcd : PySem.W.codeIn K cdv qual = true) (S : FnScope N ps scope) (len : ∀ vs H Q E, sp vs H Q E → vs.length = ps.length)
    (hb : ∀ (vs : List V) (H : Hp) (Q : VK), sp vs H Q E0 → ∃ t, PSsf (famOf P w K mg base N qual scope f k) body t ∧ t { nx := fun _ H' => Q .non H', rt := Q } (L2.start N vs) H) :
    FnG P w K mg base (k + 1) f (PySem.W.fnOf x qual params body scope dV kV doc pm an cdv ct) ps sp :=
  fnG_of lk hcd S len fun A outer s H vs Q hg hr hsp => by
    obtain ⟨t, ps, q⟩ := hb vs H Q hsp
    exact ⟨t, ps ⟨(cdv, A, outer, s, H), hg, hr⟩, q⟩
theorem FnScope.fit {sc : Scope} (S : FnScope N ps sc) : ps.length ≤ N.length := by
  have := congrArg List.length S.pre
  rw [List.length_take] at this
  omega
/-- hands back data -/
theorem bodyD {F : Fam} {body : List Stmt} {Φ : List PyData → PyData → Prop} (hN : F.N = N) (fit : ∀ ds r, Φ ds r → ds.length ≤ N.length) (hb : ∀ ds r, Φ ds r → ∃ L', SsD [] F body (startL N ds) (.rt r L')) (vs : List V) (H : Hp) (Q : VK) (E : XK) (h : spD Φ vs H Q E) :
    ∃ t, PSsf F body t ∧ t { nx := fun _ H' => Q .non H', rt := Q } (L2.start N vs) H := by
  obtain ⟨ds, r, G, hΦ, gh, rp, q⟩ := h
  obtain ⟨L', ts, ps, run⟩ := hb ds r hΦ
  refine ⟨ts, ps, run _ G H (staL gh rp (fit ds r hΦ)) _ fun v σ' G' H' S' T' _ rv => ?_⟩
  exact q v G' H' ⟨T'.g, S'.gh, fun b o hb gb _ => T'.fr b o hb gb noOwnL, T'.th⟩ rv
theorem bodyL {F : Fam} {body : List Stmt} {Φ : List PyData → List PyData → Prop} (fit : ∀ ds r, Φ ds r → ds.length ≤ N.length) (hb : ∀ ds r, Φ ds r → ∃ L', SsD [] F body (startL N ds) (.rl r L')) (vs : List V) (H : Hp) (Q : VK) (E : XK) (h : spL Φ vs H Q E) :
    ∃ t, PSsf F body t ∧ t { nx := fun _ H' => Q .non H', rt := Q } (L2.start N vs) H := by
  obtain ⟨ds, r, G, hΦ, gh, rp, q⟩ := h
  obtain ⟨L', ts, ps, run⟩ := hb ds r hΦ
  refine ⟨ts, ps, run _ G H (staL gh rp (fit ds r hΦ)) _ fun p xs σ' G' H' S' T' _ hp _ hq gq rv => ?_⟩
  have hp0 : H p = none := hp.resolve_left noOwnL
  exact q p xs G' H' ⟨T'.g, S'.gh, fun b o hb gb _ => T'.fr b o hb gb noOwnL, T'.th⟩ hp0 hq gq rv
theorem staM {vs : List V} {ms ds : List PyData} {G H : Hp} {a : Addr} {xs : List V} (gh : Same G H) (r : RpA G vs ds) (hl : ds.length + 1 ≤ N.length) (ha : H a = some (.lst xs)) (ra : RpA G xs ms) (ga : G a = none) :
    Sta (startM N ms ds) (L2.start N (.ref a :: vs)) G H ∧ ∀ b, Own (startM N ms ds) (L2.start N (.ref a :: vs)) b ↔ b = a := by
  have at0 : (startM N ms ds)[0]? = some (Sl.ow ms) := rfl
  have more : ∀ i t, (startM N ms ds)[i + 1]? = some t → (∃ d, ds[i]? = some d ∧ t = .va d) ∨ t = .no := fun i t h => by
    have h' : (ds.map Sl.va ++ List.replicate (N.length - (ds.length + 1)) Sl.no)[i]? = some t := h
    by_cases hi : i < (ds.map Sl.va).length
    · rw [List.getElem?_append_left hi, List.getElem?_map] at h'
      cases e : ds[i]? with
      | none =>
        rw [e] at h'
        cases h'
      | some d =>
        rw [e] at h'
        exact .inl ⟨d, rfl, (Option.some.inj h').symm⟩
    · rw [List.getElem?_append_right (by omega), List.getElem?_replicate] at h'
      split at h'
      · exact .inr (Option.some.inj h').symm
      · cases h'
  have only0 : ∀ i us, (startM N ms ds)[i]? = some (Sl.ow us) → i = 0 := fun i us h => by
    cases i with
    | zero => rfl
    | succ i =>
      rcases more i _ h with ⟨d, _, z⟩ | z
      · cases z
      · cases z
  have s0 : (L2.start N (.ref a :: vs))[0]? = some (some (V.ref a)) := start_get rfl
  refine ⟨⟨gh, ?_, fun i x t e1 e2 => ?_, fun i j b us ws e1 e2 _ _ => (only0 i us e1).trans (only0 j ws e2).symm⟩, fun b => ⟨?_, ?_⟩⟩
  · unfold L2.start startM
    simp only [List.length_append, List.length_map, List.length_replicate, List.length_cons, r.len]
    omega
  · cases i with
    | zero =>
      rw [s0] at e1
      rw [at0] at e2
      cases e1
      cases e2
      exact ⟨a, xs, rfl, ha, ra, ga⟩
    | succ i =>
      rcases more i t e2 with ⟨d, h, rfl⟩ | rfl
      · obtain ⟨v, hv, rv⟩ := r.get h
        have : (L2.start N (.ref a :: vs))[i + 1]? = some (some v) := start_get (by simpa using hv)
        rw [this] at e1
        cases e1
        exact ⟨v, rfl, rv⟩
      · trivial
  · rintro ⟨i, us, e1, e2⟩
    obtain rfl := only0 i us e1
    rw [s0] at e2
    cases e2
    rfl
  · rintro rfl
    exact ⟨0, ms, at0, s0⟩
theorem bodyM {F : Fam} {body : List Stmt} {Φ : List PyData → List PyData → PyData × List PyData → Prop} (fit : ∀ ms ds r, Φ ms ds r → ds.length + 1 ≤ N.length) (hb : ∀ ms ds r ms', Φ ms ds (r, ms') → ∃ L', SsD [0] F body (startM N ms ds) (.rt r L') ∧ L'[0]? = some (Sl.ow ms')) (vs : List V) (H : Hp) (Q : VK) (E : XK) (h : spM Φ vs H Q E) :
    ∃ t, PSsf F body t ∧ t { nx := fun _ H' => Q .non H', rt := Q } (L2.start N vs) H := by
  obtain ⟨a, ws, xs, ms, ds, r, ms', G, rfl, hΦ, gh, rp, ha, ra, ga, q⟩ := h
  obtain ⟨L', ⟨ts, ps, run⟩, h0⟩ := hb ms ds r ms' hΦ
  obtain ⟨S, O⟩ := staM (N := N) gh rp (fit ms ds _ hΦ) ha ra ga
  refine ⟨ts, ps, run _ G H S _ fun v σ' G' H' S' T' A' rv => ?_⟩
  obtain ⟨x1, e1, b, ys, rfl, k1, k2, k3⟩ := S'.get h0
  have e2 := A' 0 (List.mem_singleton.mpr rfl)
  rw [e1, start_get (i := 0) (v := .ref a) rfl] at e2
  cases e2
  exact q v G' H' ys ⟨T'.g, S'.gh, fun b o hb gb nb => T'.fr b o hb gb fun w => nb ((O b).mp w), T'.th⟩ k1 k2 k3 rv
theorem bodyML {F : Fam} {body : List Stmt} {Φ : List PyData → List PyData → List PyData × List PyData → Prop} (fit : ∀ ms ds r, Φ ms ds r → ds.length + 1 ≤ N.length) (hb : ∀ ms ds r ms', Φ ms ds (r, ms') → ∃ L', SsD [0] F body (startM N ms ds) (.rl r L') ∧ L'[0]? = some (Sl.ow ms')) (vs : List V) (H : Hp) (Q : VK) (E : XK) (h : spML Φ vs H Q E) :
    ∃ t, PSsf F body t ∧ t { nx := fun _ H' => Q .non H', rt := Q } (L2.start N vs) H := by
  obtain ⟨a, ws, xs, ms, ds, r, ms', G, rfl, hΦ, gh, rp, ha, ra, ga, q⟩ := h
  obtain ⟨L', ⟨ts, ps, run⟩, h0⟩ := hb ms ds r ms' hΦ
  obtain ⟨S, O⟩ := staM (N := N) gh rp (fit ms ds _ hΦ) ha ra ga
  refine ⟨ts, ps, run _ G H S _ fun p zs σ' G' H' S' T' A' hp no hq gq rz => ?_⟩
  obtain ⟨x1, e1, b, ys, rfl, k1, k2, k3⟩ := S'.get h0
  have e2 := A' 0 (List.mem_singleton.mpr rfl)
  rw [e1, start_get (i := 0) (v := .ref a) rfl] at e2
  cases e2
  have hp0 : H p = none := hp.resolve_left fun w => by
    obtain rfl := (O p).mp w
    exact no ⟨0, ms', h0, e1⟩
  exact q p zs G' H' ys ⟨T'.g, S'.gh, fun b o hb gb nb => T'.fr b o hb gb fun w => nb ((O b).mp w), T'.th⟩ k1 k2 k3 hp0 hq gq rz
end
end DL
namespace DL
open PySem PyProof.Rows L2
variable [TabL]

/-! ### x, *y = a list -/
def gStar (K : PySem.W.Frag) (i j : Nat) : TG := fun v σ H Q => ∃ a hd tl, v = .ref a ∧ SqL K H a (hd :: tl) ∧ tl.length ≤ 10000 ∧ ∀ D, H D = none → Q ((σ.set i (some hd)).set j (some (.ref D))) (upd H D (.lst tl))
theorem pg_star {X : Cx} {i j : Nat} {x y : Str} {px py ps pos : Pos} {k : Nat} (hc : X.calm = true) (hn : X.N.Nodup) (hi : X.N[i]? = some x) (hx : Loc X.env.scope x) (hf : X.fn x = true ∨ X.env.scope.names.lookup x = some .local) (hj : X.N[j]? = some y) (hy : Loc X.env.scope y) (hfy : X.fn y = true ∨ X.env.scope.names.lookup y = some .local) :
    PG X (.Tuple [.Name x px, .Starred (.Name y py) ps] k pos) (gStar X.K i j) := by
  refine ⟨fun pins s σ H v u Q I r w => ?_⟩
  obtain ⟨a, hd, tl, rfl, hq, hl, w⟩ := w
  cases r
  obtain ⟨its, rv, pl, hz⟩ := I.list hq
  have isl : s.heap.IsList a its.toArray := by
    obtain ⟨o, m, e, c, d, q⟩ := pl
    exact ⟨o, e, c, m, q⟩
  cases rv with
  | @cons _ u _ us r0 rt =>
    have pg2 : PGs X [.Name x px, .Name y py] (gCons (gName i) (gCons (gName j) gNil)) := pgs_cons (pg_name hn hi hx hf) (pgs_cons (pg_name hn hj hy hfy) pgs_nil)
    have ha : a < s.heap.objs.size := by
      obtain ⟨o, e, _⟩ := isl
      exact Heap.lt_size e
    have hne : a ≠ s.heap.objs.size := Nat.ne_of_lt ha
    have hh := I.ok.hd hc
    have hsz : us.length = tl.length := rt.length.symm
    rw [PyProof.Rows.assign_Tuple]
    refine wpAny_bind (wpAny_standAt ?_)
    show wpAny _ _ (unpack (.ref a) [(false, assign (.Name x px) X.env), (true, assign (.Name y py) X.env)]) _ _ _
    unfold unpack
    show wpAny _ _ (holding [Value.ref a] (unpackItems (.ref a) 2 (some 1)) >>= fun vs => assignInOrder ((assignEach [.Name x px, .Name y py] X.env).map (·.2)) vs) _ _ _
    refine wpAny_bind (wpAny_holding ?_)
    unfold unpackItems notIterableAtAll
    refine wpAny_bind (wpAny_bind (wpAny_specialOf isl.typeIs slot_list_iter.lookup (wpAny_pure ?_)))
    simp only [Bool.false_eq_true, if_false]
    refine wpAny_bind (wpAny_holding (wpAny_pyIter_list isl ?_))
    refine wpAny_bind (wpAny_holding (PySem.W.kun_draw hne 1 0 _ _ ⟨_, Heap.get?_push_size _ rfl, rfl, rfl⟩ (isl.push _) (by simp) fun h1 hit hs1 => ?_))
    have isl1 : h1.IsList a (u :: us).toArray := (isl.push _).extBut hs1.extBut hne
    have itl : s.heap.objs.size < h1.objs.size := by
      obtain ⟨oi, hoi, _⟩ := id hit
      exact Heap.lt_size hoi
    have al : a < h1.objs.size := by
      obtain ⟨oi, hoi, _⟩ := id isl1
      exact Heap.lt_size hoi
    show wpAny _ _ (if ([u] : List Value).length < 1 then _ else _) _ _ _
    rw [if_neg (show ¬ (([u] : List Value).length < 1) from fun h => absurd h (Nat.lt_irrefl 1))]
    refine wpAny_bind (wpAny_holding (PySem.W.kun_collect (s := { s with heap := h1 }) (T := "list_iterator") (.inr (.inr (.inl rfl))) (Walks.list (A := X.A.in1) hh s.heap.objs.size a hne (u :: us).toArray) (fun _ _ st => st.1.typeIs) (k := 1) (by simp) ⟨hit, isl1⟩ itl al (fun h2 tk hk => ?_) ?_))
    case refine_2 =>
      simp only [List.size_toArray, List.length_cons]
      exact Nat.le_trans (by omega : us.length + 1 ≤ 10001) (by decide)
    show wpAny _ _ (if us.length < 0 then _ else _) _ _ _
    rw [if_neg (by omega)]
    show wpAny _ _ (newList (us.take (us.length - 0)) >>= fun D => pure ([u] ++ [D] ++ us.drop (us.length - 0))) _ _ _
    rw [Nat.sub_zero, List.take_length, List.drop_length]
    refine wpAny_bind (wpAny_newList (wpAny_pure ?_))
    have k2 : ∀ b o, s.heap.get? b = some o → h2.get? b = some o := fun b o e => hk b o (Nat.ne_of_lt (Heap.lt_size e)) ((hs1.2 b (Nat.ne_of_lt (Heap.lt_size e))).trans (Heap.get?_push_of_some _ e))
    have I1 : Inv X pins σ H { s with heap := h2, toks := tk } := I.kept (t' := tk) k2
    have fr : H h2.objs.size = none := I1.hok.fresh (Nat.le_refl _)
    have I2 : Inv X pins σ (upd H h2.objs.size (.lst tl)) { s with heap := h2.push { cls := .type "list", data := .seq us.toArray }, toks := tk } :=
      I1.laid (t' := tk) (fun b o e => Heap.get?_push_of_some _ e) (Nat.le_refl _) ⟨Nat.le_trans hl (by decide), us, 0, rt, Heap.get?_push_size _ rfl⟩
    refine pg2.run pins _ σ _ [hd, .ref h2.objs.size] [u, .ref h2.objs.size] Q I2 (.cons r0 (.cons rfl .nil)) ?_
    exact ⟨_, _, rfl, _, _, rfl, rfl, w _ fr⟩

section
variable {z : List Nat} {F : Fam} {e e2 a b c tg iter elt : Expr} {es ifs : List Expr} {L L1 L2' L' L3 : List Sl} {d d1 d2 r : PyData} {ds ds2 its rs ms ms' : List PyData} {i : Nat} {pos p p2 : Pos} {x y : Str} {σ σ' σ1 σ2 : L2.St} {G H G1 H1 G2 H2 G' H' : Hp} {scope : Scope}
theorem sd_star {px py ps : Pos} {kt : Nat} (i j : Nat) (h : ED F e L (.list (d :: ds)) L1) (hd : ds.length ≤ 10000) (hij : i ≠ j := by decide) (hz : i ∉ z ∧ j ∉ z := by decide) (hln : L1.length = F.N.length := by rfl) (hi : F.N[i]? = some x := by rfl) (hx : Loc F.sc x := by first | exact Or.inl rfl | exact Or.inr rfl) (hf : StF F x := by first | exact Or.inl rfl | exact Or.inr rfl)
    (hj : F.N[j]? = some y := by rfl) (hy : Loc F.sc y := by first | exact Or.inl rfl | exact Or.inr rfl) (hfy : StF F y := by first | exact Or.inl rfl | exact Or.inr rfl) (hn : F.N.Nodup := by exact of_decide_eq_true rfl)
    (hs : ∀ j, swapsWithSole [.Tuple [.Name x px, .Starred (.Name y py) ps] kt p] e pos.line (F.x j).env = pure false := by intro _; rfl) (hw : ∀ j, swappedStores [.Tuple [.Name x px, .Starred (.Name y py) ps] kt p] e (F.x j).env = pure none := by intro _; rfl) (h1 : ∀ env, (assignEach [.Tuple [.Name x px, .Starred (.Name y py) ps] kt p] env).map (·.2) = [assign (.Tuple [.Name x px, .Starred (.Name y py) ps] kt p) env] := by intro _; rfl) :
    SD z F (.Assign [.Tuple [.Name x px, .Starred (.Name y py) ps] kt p] e pos) L (.nx ((L1.set i (.va d)).set j (.ow ds))) := by
  obtain ⟨te, pe, run⟩ := h
  have pg : PGf F (.Tuple [.Name x px, .Starred (.Name y py) ps] kt p) (gStar F.K i j) := fun j0 => by
    rw [← F.hK j0]
    exact pg_star (F.hc j0) (by rw [F.hN]; exact hn) (by rw [F.hN]; exact hi) (locF hx j0) (hf.at j0) (by rw [F.hN]; exact hj) (locF hy j0) (hfy.at j0)
  refine ⟨_, fun j => ps_asg (pe j) (pg j) (hs j) (hw j) (h1 _), fun σ G H S D q => run σ G H S _ fun v G1 H1 S1 T1 r1 => ?_⟩
  cases r1 with
  | @lst a xs _ k1 k2 =>
    cases k2 with
    | @cons hd' tl _ _ r0 rt =>
      refine ⟨a, hd', tl, rfl, SqL.of (S1.gh _ _ k1), by rw [rt.len]; exact hd, fun Da hD => ?_⟩
      have li : i < L1.length := by rw [hln]; exact (List.getElem?_eq_some_iff.mp hi).1
      have lj : j < L1.length := by rw [hln]; exact (List.getElem?_eq_some_iff.mp hj).1
      obtain ⟨S2, T2⟩ := S1.set_va (i := i) li r0
      obtain ⟨S3, T3⟩ := S2.new (o := .lst tl) hD
      obtain ⟨S4, O4⟩ := S3.set_ow (i := j) (by rw [List.length_set]; exact lj) upd_same (S2.gn hD) (S2.own_ne hD) rt
      have T34 : Ts (L1.set i (.va d)) (σ.set i (some hd')) G1 H1 ((L1.set i (.va d)).set j (.ow ds)) ((σ.set i (some hd')).set j (some (.ref Da))) G1 (upd H1 Da (.lst tl)) :=
        ⟨T3.g, T3.fr, fun b w => (O4 b w).imp (fun h => h) (fun e => by rw [e]; exact hD), T3.th⟩
      exact q _ _ _ S4 ((T1.ts.trans S1.gh T2).trans S2.gh T34) ((Anc.set hz.1).trans (Anc.set hz.2))
/-! ### isinstance with a built-in class -/
def tyD : PyData → String
  | .none => "NoneType"
  | .bool _ => "bool"
  | .int _ => "int"
  | .str _ => "str"
  | .list _ => "list"
  | .tuple _ => "tuple"
  | .dict _ => "dict"
/-- isinstance of data; an error is asked by another rule -/
def kitD : PyData → String → Option Bool
  | .dict ((.str _, _) :: _), _ => none
  | d, T => kitB (tyD d) T
theorem isif (F : Fam) (j : F.J) : CallR (F.x j) (.builtin "isinstance") (rIsi F.K) := by
  rw [← F.hK j]
  exact call_isi
theorem ed_isi {T : String} {p3 : Pos} {k : Bool} (h : ED F e L d L') (hm : F.mg "isinstance" = none) (hmT : F.mg (Str.ofString T) = none) (hvT : bootBuiltins (Str.ofString T) = some (.type T)) (hk : kitD d T = some k) (hg : GlF F "isinstance" := by rfl) (hgT : GlF F (Str.ofString T) := by rfl)
    (hnT : Str.ofString T ≠ "__name__" := by decide) (hdT : (Str.ofString T == ("__debug__" : Str)) = false := by decide) (hs : ∀ env, starEach [e, .Name (Str.ofString T) p3] env = (false, eval e env) :: starEach [.Name (Str.ofString T) p3] env := by intro _; rfl) :
    ED F (.Call (.Name "isinstance" p) [e, .Name (Str.ofString T) p3] [] pos) L (.bool k) L' := by
  obtain ⟨te, pe, run⟩ := h
  have pT : PEf F (.Name (Str.ofString T) p3) (tC (.ty T)) := fun j => pe_bltn (hgT.gl j) (by rw [F.hmg]; exact hmT) hvT (by exact rfl) hnT hdT
  refine ⟨_, bt_any (isif F) hg hm (by decide +kernel) (fun j => pa_cons (pe j) (pa_cons (pT j) pa_nil) (hs _)) (by decide) (by decide) hs (fun _ => rfl), fun σ G H S Q q => run σ G H S _ fun v G' H' S' T' r => ?_⟩
  have hk2 : kitB (tyD d) T = some k := by
    cases r with
    | dct kvs h =>
      cases kvs with
      | nil => exact hk
      | cons a l => exact hk
    | dcs kvs h =>
      cases kvs with
      | nil => exact hk
      | cons a l => exact hk
    | dks kvs h =>
      cases kvs with
      | nil => exact hk
      | cons a l => cases hk
    | exc => cases hk
    | _ => exact hk
  refine ⟨v, .ty T, .type (tyD d), .type T, k, rfl, .ty T, ?_, kit_ty hk2, q _ _ _ S' T' (.bl k)⟩
  cases r with
  | non => exact .base .non
  | bl b => exact .base (.bl b)
  | int n => exact .base (.int n)
  | str s => exact .base (.str s)
  | lst h1 h2 => exact .base (.lst (S'.gh _ _ h1))
  | tup h1 h2 => exact .base (.tup (S'.gh _ _ h1))
  | dct kvs h => exact .base (.dK (S'.gh _ _ h))
  | dcs kvs h => exact .base (.dK (S'.gh _ _ h))
  | dks kvs h => exact .base (.dK (S'.gh _ _ h))
  | exc => cases hk
end
end DL
namespace DL
open PySem PyProof.Rows L2
variable [TabL]
section
variable {P : Program} {w : World} {K : PySem.W.Frag} {mg : Str → Option Value} {base : Heap} {x qual : Str} {st : Stmt} {f : Addr} {fd : FuncData} {N ps : List Str} {k : Nat}
/-- a def that hands back data -/
theorem funD {Φ : List PyData → PyData → Prop} (Fn : Fun K x qual st f fd) (S : FnScope N ps (defScope st)) (hl : ∀ ds r, Φ ds r → ds.length = ps.length)
    (hb : ∀ ds r, Φ ds r → ∃ L', SsD [] (famOf P w K mg base N qual (defScope st) f k) (defBody st) (startL N ds) (.rt r L')) : FnG P w K mg base (k + 1) f fd ps (spD Φ) := by
  obtain ⟨oc, od, kV, doc, pm, an, cdv, ct, osl, rfl, lk, hcd⟩ := Fn.ex
  refine fnBody lk hcd S (fun vs H Q E h => ?_) fun vs H Q h => bodyD (F := famOf P w K mg base N qual (defScope st) f k) rfl (fun ds r e => by rw [hl ds r e]; exact FnScope.fit S) hb vs H Q E0 h
  obtain ⟨ds, r, G, e, _, rp, _⟩ := h
  rw [rp.len]
  exact hl ds r e
theorem funL {Φ : List PyData → List PyData → Prop} (Fn : Fun K x qual st f fd) (S : FnScope N ps (defScope st)) (hl : ∀ ds r, Φ ds r → ds.length = ps.length)
    (hb : ∀ ds r, Φ ds r → ∃ L', SsD [] (famOf P w K mg base N qual (defScope st) f k) (defBody st) (startL N ds) (.rl r L')) : FnG P w K mg base (k + 1) f fd ps (spL Φ) := by
  obtain ⟨oc, od, kV, doc, pm, an, cdv, ct, osl, rfl, lk, hcd⟩ := Fn.ex
  refine fnBody lk hcd S (fun vs H Q E h => ?_) fun vs H Q h => bodyL (F := famOf P w K mg base N qual (defScope st) f k) (fun ds r e => by rw [hl ds r e]; exact FnScope.fit S) hb vs H Q E0 h
  obtain ⟨ds, r, G, e, _, rp, _⟩ := h
  rw [rp.len]
  exact hl ds r e
theorem funM {Φ : List PyData → List PyData → PyData × List PyData → Prop} (Fn : Fun K x qual st f fd) (S : FnScope N ps (defScope st)) (hl : ∀ ms ds r, Φ ms ds r → ds.length + 1 = ps.length)
    (hb : ∀ ms ds r ms', Φ ms ds (r, ms') → ∃ L', SsD [0] (famOf P w K mg base N qual (defScope st) f k) (defBody st) (startM N ms ds) (.rt r L') ∧ L'[0]? = some (Sl.ow ms')) : FnG P w K mg base (k + 1) f fd ps (spM Φ) := by
  obtain ⟨oc, od, kV, doc, pm, an, cdv, ct, osl, rfl, lk, hcd⟩ := Fn.ex
  refine fnBody lk hcd S (fun vs H Q E h => ?_) fun vs H Q h => bodyM (F := famOf P w K mg base N qual (defScope st) f k) (fun ms ds r e => by rw [hl ms ds r e]; exact FnScope.fit S) hb vs H Q E0 h
  obtain ⟨a, ws, xs, ms, ds, r, ms', G, rfl, e, _, rp, _⟩ := h
  rw [List.length_cons, rp.len]
  exact hl ms ds _ e
theorem funML {Φ : List PyData → List PyData → List PyData × List PyData → Prop} (Fn : Fun K x qual st f fd) (S : FnScope N ps (defScope st)) (hl : ∀ ms ds r, Φ ms ds r → ds.length + 1 = ps.length)
    (hb : ∀ ms ds r ms', Φ ms ds (r, ms') → ∃ L', SsD [0] (famOf P w K mg base N qual (defScope st) f k) (defBody st) (startM N ms ds) (.rl r L') ∧ L'[0]? = some (Sl.ow ms')) : FnG P w K mg base (k + 1) f fd ps (spML Φ) := by
  obtain ⟨oc, od, kV, doc, pm, an, cdv, ct, osl, rfl, lk, hcd⟩ := Fn.ex
  refine fnBody lk hcd S (fun vs H Q E h => ?_) fun vs H Q h => bodyML (F := famOf P w K mg base N qual (defScope st) f k) (fun ms ds r e => by rw [hl ms ds r e]; exact FnScope.fit S) hb vs H Q E0 h
  obtain ⟨a, ws, xs, ms, ds, r, ms', G, rfl, e, _, rp, _⟩ := h
  rw [List.length_cons, rp.len]
  exact hl ms ds _ e
/-- a def, as it may be called by place -/
theorem df_of {sp : Sp} (Fn : Fun K x qual st f fd) (G : FnG P w K mg base k f fd ps sp) (m : mg x = some (.ref f)) (b : Binds K fd ps []) : Df P w K mg base x k sp :=
  ⟨f, fd, ps, G, m, Fn.kp, fun s us inK hl => by
    have := b s us inK (by rw [List.append_nil]; exact hl)
    rw [List.append_nil] at this
    exact this⟩
end
end DL
namespace DL
open PySem PyProof.Rows L2
variable [TabL]
section
variable {z : List Nat} {F : Fam} {e e2 a b c tg iter elt : Expr} {es ifs : List Expr} {sts : List Stmt} {L L1 L2' L' L3 : List Sl} {d d1 d2 r : PyData} {ds ds2 its rs ms ms' : List PyData} {i : Nat} {pos p p2 : Pos} {x y : Str} {σ σ' σ1 σ2 : L2.St} {G H G1 H1 G2 H2 G' H' : Hp} {scope : Scope} {m n : Int}
theorem op_powW {X : Cx} : OpR X (binaryOp .Pow) (rI (fun i j => 0 ≤ j ∧ (Builtin.Int.intBits i : Int) * j ≤ 2 ^ 27) fun i j => .int (i ^ j.toNat)) := opI fun _ _ _ _ _ _ _ hc q => pow_int hc.1 hc.2 q
theorem ed_powW (hc : 0 ≤ n ∧ (Builtin.Int.intBits m : Int) * n ≤ 2 ^ 27) (ha : ED F a L (.int m) L1) (hb : ED F b L1 (.int n) L2') : ED F (.BinOp a .Pow b pos) L (.int (m ^ n.toNat)) L2' := ed_op (fun _ => op_powW) ha hb fun x y G H _ r1 r2 Q q => by
  cases r1; cases r2; exact ⟨m, n, rfl, rfl, hc, q _ (.int _)⟩
theorem ed_mulW (hc : CMulW m n) (ha : ED F a L (.int m) L1) (hb : ED F b L1 (.int n) L2') : ED F (.BinOp a .Mult b pos) L (.int (m * n)) L2' := ed_op (fun _ => op_mulW) ha hb fun x y G H _ r1 r2 Q q => by
  cases r1; cases r2; exact ⟨m, n, rfl, rfl, hc, q _ (.int _)⟩
theorem ed_fdivW (hc : CDivW m n) (ha : ED F a L (.int m) L1) (hb : ED F b L1 (.int n) L2') : ED F (.BinOp a .FloorDiv b pos) L (.int (m / n)) L2' := ed_op (fun _ => op_fdivW) ha hb fun x y G H _ r1 r2 Q q => by
  cases r1; cases r2; exact ⟨m, n, rfl, rfl, hc, q _ (.int _)⟩
theorem ed_neg (ha : ED F a L (.int m) L1) : ED F (.UnaryOp .USub a pos) L (.int (-m)) L1 := by
  obtain ⟨ta, pa, ra⟩ := ha
  refine ⟨_, fun j => pe_un un_neg (pa j), fun σ G H S Q q => ra σ G H S _ fun v G' H' S' T' r => ?_⟩
  cases r
  exact ⟨m, rfl, q _ _ _ S' T' (.int _)⟩
/-- the ints lo, lo + 1, .. (below hi) -/
def rgD (lo hi : Int) : List PyData := (List.range (hi - lo).toNat).map fun i => .int (lo + (i : Nat))
theorem RpA.rg (G : Hp) (lo hi : Int) : RpA G (rgV lo hi) (rgD lo hi) := by
  unfold rgV rgD
  induction (List.range (hi - lo).toNat) with
  | nil => exact .nil
  | cons a l ih => exact .cons (.int _) ih
/-- list(range(n)) -/
theorem fd_listRg {p3 p4 : Pos} (h : ED F e L (.int n) L') (hn : 0 ≤ n ∧ n ≤ 100000) (hm : F.mg "list" = none) (hm2 : F.mg "range" = none) (hg : GlF F "list" := by rfl) (hg2 : GlF F "range" := by rfl) (hs : ∀ env, starEach [e] env = (false, eval e env) :: starEach [] env := by intro _; rfl)
    (hs2 : ∀ env, starEach [.Call (.Name "range" p3) [e] [] p4] env = (false, eval (.Call (.Name "range" p3) [e] [] p4) env) :: starEach [] env := by intro _; rfl) :
    FD F (.Call (.Name "list" p) [.Call (.Name "range" p3) [e] [] p4] [] pos) L (rgD 0 n) L' := by
  obtain ⟨te, pe, run⟩ := h
  refine ⟨_, fun j => pe_listRg (F.hc j) (hg.gl j) (by rw [F.hmg]; exact hm) (prg_1 (hg2.gl j) (by rw [F.hmg]; exact hm2) (pe j) (hs _)) (hs2 _), fun σ G H S Q q => run σ G H S _ fun v G' H' S' T' r => ?_⟩
  cases r
  refine ⟨n, rfl, RgOk.of_le (Int.le_refl 0) (by omega) (by decide) hn.1, fun p hp => ?_⟩
  obtain ⟨S2, T2⟩ := S'.new (o := .lst (rgV 0 n)) hp
  exact q p _ G' _ S2 (T'.trans T2) (T'.back hp) upd_same (S'.gn hp) (RpA.rg G' 0 n)
/-- list(range(m, n)) -/
theorem fd_listRg2 {p3 p4 : Pos} (h : ED F e L (.int m) L1) (h2 : ED F e2 L1 (.int n) L') (hn : 0 ≤ m ∧ m ≤ 100000 ∧ 0 ≤ n ∧ n ≤ 100000) (hm : F.mg "list" = none) (hm2 : F.mg "range" = none) (hg : GlF F "list" := by rfl) (hg2 : GlF F "range" := by rfl) (hs : ∀ env, starEach [e, e2] env = (false, eval e env) :: starEach [e2] env := by intro _; rfl) (hsb : ∀ env, starEach [e2] env = (false, eval e2 env) :: starEach [] env := by intro _; rfl)
    (hpb : ∀ env, (backTo p4 (starEach [e2] env)).any (·.1) = false := by intro _; rfl) (hs2 : ∀ env, starEach [.Call (.Name "range" p3) [e, e2] [] p4] env = (false, eval (.Call (.Name "range" p3) [e, e2] [] p4) env) :: starEach [] env := by intro _; rfl) :
    FD F (.Call (.Name "list" p) [.Call (.Name "range" p3) [e, e2] [] p4] [] pos) L (rgD m n) L' := by
  obtain ⟨te, pe, run⟩ := h
  obtain ⟨te2, pe2, run2⟩ := h2
  refine ⟨_, fun j => pe_listRg (F.hc j) (hg.gl j) (by rw [F.hmg]; exact hm) (prg_2 (hg2.gl j) (by rw [F.hmg]; exact hm2) (pe j) (pe2 j) (hs _) (hsb _) (hpb _)) (hs2 _), fun σ G H S Q q => run σ G H S _ fun v G1 H1 S1 T1 r => run2 σ G1 H1 S1 _ fun v2 G' H' S' T' r2 => ?_⟩
  cases r
  cases r2
  refine ⟨m, n, rfl, rfl, RgOk.of_le hn.1 (by omega) (by omega) hn.2.2.1, fun p hp => ?_⟩
  obtain ⟨S2, T2⟩ := S'.new (o := .lst (rgV m n)) hp
  have TT := T1.trans T'
  exact q p _ G' _ S2 (TT.trans T2) (TT.back hp) upd_same (S'.gn hp) (RpA.rg G' m n)
end
section
variable {z : List Nat} {F : Fam} {tg iter : Expr} {sts : List Stmt} {L : List Sl} {its : List PyData} {pos : Pos} {T : List Nat} {ok : PyData → Prop} {u : PyData → List Sl → List Sl}
/-- a for whose turns all go on -/
theorem sd_forAll (M : Nat → List Sl) (hi : ItD F tg iter L its (M 0)) (ht : TgD F tg T ok u) (hM : ∀ i, (M i).length = F.N.length)
    (hb : ∀ i d, its[i]? = some d → ok d ∧ (SsD z F sts (u d (M i)) (.nx (M (i + 1))) ∨ SsD z F sts (u d (M i)) (.ct (M (i + 1))))) (hz : ∀ k ∈ T, k ∉ z := by decide) (hs : ∀ env x, foldedSetIterable iter env x = pure x := by intro _ _; rfl) : SD z F (.For tg iter sts [] pos) L (.nx (M its.length)) :=
  sd_for M its.length hi ht hz hM (Nat.le_refl _) (fun i d _ h => hb i d h) (by rw [List.getElem?_eq_none (Nat.le_refl _)]) hs
/-- .. and leave what is known as it is -/
theorem sd_forC {L1 : List Sl} (hi : ItD F tg iter L its L1) (ht : TgD F tg T ok u) (hM : L1.length = F.N.length) (hb : ∀ d, d ∈ its → ok d ∧ SsD z F sts (u d L1) (.nx L1)) (hz : ∀ k ∈ T, k ∉ z := by decide) (hs : ∀ env x, foldedSetIterable iter env x = pure x := by intro _ _; rfl) : SD z F (.For tg iter sts [] pos) L (.nx L1) :=
  sd_forAll (fun _ => L1) hi ht (fun _ => hM) (fun i d h => ⟨(hb d (List.mem_of_getElem? h)).1, .inl (hb d (List.mem_of_getElem? h)).2⟩) hz hs
end
section
variable {P : Program} {w : World} {K : PySem.W.Frag} {mg : Str → Option Value} {base : Heap} {x qual : Str} {st : Stmt} {f : Addr} {fd : FuncData} {N ps : List Str} {k : Nat}
/-- a def that falls off its end: None -/
theorem funN {Φ : List PyData → PyData → Prop} (Fn : Fun K x qual st f fd) (S : FnScope N ps (defScope st)) (hl : ∀ ds r, Φ ds r → ds.length = ps.length ∧ r = .none)
    (hb : ∀ ds r, Φ ds r → ∃ L', SsD [] (famOf P w K mg base N qual (defScope st) f k) (defBody st) (startL N ds) (.nx L')) : FnG P w K mg base (k + 1) f fd ps (spD Φ) := by
  obtain ⟨oc, od, kV, doc, pm, an, cdv, ct, osl, rfl, lk, hcd⟩ := Fn.ex
  refine fnBody lk hcd S (fun vs H Q E h => ?_) fun vs H Q h => ?_
  · obtain ⟨ds, r, G, e, _, rp, _⟩ := h
    rw [rp.len]
    exact (hl ds r e).1
  · obtain ⟨ds, r, G, e, gh, rp, q⟩ := h
    obtain ⟨hlen, rfl⟩ := hl ds r e
    obtain ⟨L', ts, ps, run⟩ := hb ds _ e
    refine ⟨ts, ps, run _ G H (staL gh rp (by rw [hlen]; exact FnScope.fit S)) _ fun σ' G' H' S' T' _ => ?_⟩
    exact q .non G' H' ⟨T'.g, S'.gh, fun b o hb gb _ => T'.fr b o hb gb noOwnL, T'.th⟩ .non
end
end DL
namespace DL
open PySem PyProof.Rows L2
variable [TabL]
section
variable {z : List Nat} {F : Fam} {st : Stmt} {sts : List Stmt} {L L1 L2' : List Sl}
theorem SD.to (h : SD z F st L (.nx L1)) (e : L1 = L2') : SD z F st L (.nx L2') := e ▸ h
theorem SsD.to (h : SsD z F sts L (.nx L1)) (e : L1 = L2') : SsD z F sts L (.nx L2') := e ▸ h
theorem SD.from (h : SD z F st L1 (.nx L)) (e : L1 = L2') : SD z F st L2' (.nx L) := e ▸ h
end
end DL
namespace DL
open PySem PyProof.Rows L2
variable [TabL]
section
variable {P : Program} {w : World} {K : PySem.W.Frag} {mg : Str → Option Value} {base : Heap} {x qual : Str} {st : Stmt} {f : Addr} {fd : FuncData} {N ps : List Str} {k : Nat} {dvs : List V} {kws : List (Str × V)}
/-- a def with defaults that hands back a new list -/
theorem funLD {Φ : List PyData → List PyData → Prop} (Fn : FunD K x qual (defArgs st) (defBody st) (defScope st) dvs kws f fd) (S : FnScope N ps (defScope st)) (hl : ∀ ds r, Φ ds r → ds.length = ps.length)
    (hb : ∀ ds r, Φ ds r → ∃ L', SsD [] (famOf P w K mg base N qual (defScope st) f k) (defBody st) (startL N ds) (.rl r L')) : FnG P w K mg base (k + 1) f fd ps (spL Φ) := by
  obtain ⟨oc, od, dV, kV, doc, pm, an, cdv, ct, osl, rfl, lk, hcd, _, _⟩ := Fn.ex
  refine fnBody lk hcd S (fun vs H Q E h => ?_) fun vs H Q h => bodyL (F := famOf P w K mg base N qual (defScope st) f k) (fun ds r e => by rw [hl ds r e]; exact FnScope.fit S) hb vs H Q E0 h
  obtain ⟨ds, r, G, e, _, rp, _⟩ := h
  rw [rp.len]
  exact hl ds r e
end
section
variable {F : Fam} {e a b c : Expr} {es : List Expr} {L L1 L2' L' : List Sl} {d r : PyData} {ds ds2 rs : List PyData} {pos p : Pos} {x : Str} {n : Nat} {ks : List Str} {g : List Value → List Value} {gV : List V → List V} {gD : List PyData → List PyData} {kws : List Keyword}
/-- keyword arguments -/
def KD (F : Fam) (kws : List Keyword) (L : List Sl) (ds : List PyData) (L' : List Sl) : Prop := ∃ tk, (∀ j, PK (F.x j) kws tk) ∧ ∀ σ G H, Sta L σ G H → ∀ Q : List V → Hp → Prop, (∀ vs G' H', Sta L' σ G' H' → Te L σ G H L' G' H' → RpA G' vs ds → Q vs H') → tk σ H Q
theorem kd_nil : KD F [] L [] L := ⟨_, fun _ => pk_nil, fun σ G H S Q q => q _ _ _ S .refl .nil⟩
theorem kd_cons {nm : Option Str} {kp : Pos} (h : ED F e L d L1) (h2 : KD F kws L1 ds L') (hx : ∀ X te t, PE X e te → PK X kws t → PK X (⟨nm, e, kp⟩ :: kws) (tCons te t) := by intro X te t a b; exact pk_cons a b) : KD F (⟨nm, e, kp⟩ :: kws) L (d :: ds) L' := by
  obtain ⟨te, pe, run⟩ := h
  obtain ⟨tk, pk, run2⟩ := h2
  refine ⟨_, fun j => hx _ _ _ (pe j) (pk j), fun σ G H S Q q => run σ G H S _ fun v G' H' S' T r => run2 σ G' H' S' _ fun vs G2 H2 S2 T2 r2 => ?_⟩
  exact q _ _ _ S2 (T.trans T2) (.cons (r.up T2.g) r2)
theorem fd_callK {Φ : List PyData → List PyData → Prop} (D : F.Dk x n ks g gV gD (spL Φ)) (ha : AD F (e :: es) L ds L1) (hk : KD F kws L1 ds2 L') (hΦ : Φ (gD (ds ++ ds2)) rs) (hn : ds.length = n := by rfl) (hn2 : ds2.length = ks.length := by rfl) (hg : GlF F x := by rfl) (hdb : (x == ("__debug__" : Str)) = false := by decide)
    (he : ∀ env, starEach (e :: es) env = (false, eval e env) :: starEach es env := by intro _; rfl) (hall : ∀ env, (backToKw pos (keywordEach kws env)).all (·.1.isSome) = true := by intro _; rfl) (hks : ∀ env, (backToKw pos (keywordEach kws env)).filterMap (·.1) = ks := by intro _; rfl)
    (hpl : ∀ env, ((backTo pos (starEach (e :: es) env)).any (·.1) || (backToKw pos (keywordEach kws env)).any (·.1.isNone)) = false := by intro _; rfl) : FD F (.Call (.Name x p) (e :: es) kws pos) L rs L' := by
  obtain ⟨ta, pa, ra⟩ := ha
  obtain ⟨tk, pk, rk⟩ := hk
  refine ⟨_, callK_any D hg pa pk hdb he hall hks hpl, fun σ G H S Q q => ra σ G H S _ fun vs G1 H1 S1 T1 r1 => rk σ G1 H1 S1 _ fun zs G2 H2 S2 T2 r2 => ⟨by rw [r1.len]; exact hn, by rw [r2.len]; exact hn2, _, rs, G2, hΦ, S2.gh, D.data G2 _ _ (by rw [List.length_append, r1.len, r2.len, hn, hn2]) ((r1.up T2.g).app r2), fun p xs G' H' A hp hp' gp rv => ?_⟩⟩
  obtain ⟨S3, T3⟩ := S2.aft A
  have TT := T1.trans T2
  exact q p xs G' H' S3 (TT.trans T3) (TT.back hp) hp' gp rv
theorem fd_callK0 {Φ : List PyData → List PyData → Prop} (D : F.Dk x 0 ks g gV gD (spL Φ)) (hk : KD F kws L ds2 L') (hΦ : Φ (gD ds2) rs) (hn2 : ds2.length = ks.length := by rfl) (hg : GlF F x := by rfl) (hdb : (x == ("__debug__" : Str)) = false := by decide)
    (hall : ∀ env, (backToKw pos (keywordEach kws env)).all (·.1.isSome) = true := by intro _; rfl) (hks : ∀ env, (backToKw pos (keywordEach kws env)).filterMap (·.1) = ks := by intro _; rfl)
    (hpl : ∀ env, ((backTo pos (starEach [] env)).any (·.1) || (backToKw pos (keywordEach kws env)).any (·.1.isNone)) = false := by intro _; rfl) : FD F (.Call (.Name x p) [] kws pos) L rs L' := by
  obtain ⟨tk, pk, rk⟩ := hk
  refine ⟨_, callK0_any D hg pk hdb hall hks hpl, fun σ G H S Q q => rk σ G H S _ fun zs G2 H2 S2 T2 r2 => ⟨by rw [r2.len]; exact hn2, _, rs, G2, hΦ, S2.gh, D.data G2 _ _ (by rw [r2.len, hn2]; simp) r2, fun p xs G' H' A hp hp' gp rv => ?_⟩⟩
  obtain ⟨S3, T3⟩ := S2.aft A
  exact q p xs G' H' S3 (T2.trans T3) (T2.back hp) hp' gp rv
theorem ed_callK {Φ : List PyData → PyData → Prop} (D : F.Dk x n ks g gV gD (spD Φ)) (ha : AD F (e :: es) L ds L1) (hk : KD F kws L1 ds2 L') (hΦ : Φ (gD (ds ++ ds2)) r) (hn : ds.length = n := by rfl) (hn2 : ds2.length = ks.length := by rfl) (hg : GlF F x := by rfl) (hdb : (x == ("__debug__" : Str)) = false := by decide)
    (he : ∀ env, starEach (e :: es) env = (false, eval e env) :: starEach es env := by intro _; rfl) (hall : ∀ env, (backToKw pos (keywordEach kws env)).all (·.1.isSome) = true := by intro _; rfl) (hks : ∀ env, (backToKw pos (keywordEach kws env)).filterMap (·.1) = ks := by intro _; rfl)
    (hpl : ∀ env, ((backTo pos (starEach (e :: es) env)).any (·.1) || (backToKw pos (keywordEach kws env)).any (·.1.isNone)) = false := by intro _; rfl) : ED F (.Call (.Name x p) (e :: es) kws pos) L r L' := by
  obtain ⟨ta, pa, ra⟩ := ha
  obtain ⟨tk, pk, rk⟩ := hk
  refine ⟨_, callK_any D hg pa pk hdb he hall hks hpl, fun σ G H S Q q => ra σ G H S _ fun vs G1 H1 S1 T1 r1 => rk σ G1 H1 S1 _ fun zs G2 H2 S2 T2 r2 => ⟨by rw [r1.len]; exact hn, by rw [r2.len]; exact hn2, _, r, G2, hΦ, S2.gh, D.data G2 _ _ (by rw [List.length_append, r1.len, r2.len, hn, hn2]) ((r1.up T2.g).app r2), fun v G' H' A rv => ?_⟩⟩
  obtain ⟨S3, T3⟩ := S2.aft A
  exact q v G' H' S3 ((T1.trans T2).trans T3) rv
theorem ed_callK0 {Φ : List PyData → PyData → Prop} (D : F.Dk x 0 ks g gV gD (spD Φ)) (hk : KD F kws L ds2 L') (hΦ : Φ (gD ds2) r) (hn2 : ds2.length = ks.length := by rfl) (hg : GlF F x := by rfl) (hdb : (x == ("__debug__" : Str)) = false := by decide)
    (hall : ∀ env, (backToKw pos (keywordEach kws env)).all (·.1.isSome) = true := by intro _; rfl) (hks : ∀ env, (backToKw pos (keywordEach kws env)).filterMap (·.1) = ks := by intro _; rfl)
    (hpl : ∀ env, ((backTo pos (starEach [] env)).any (·.1) || (backToKw pos (keywordEach kws env)).any (·.1.isNone)) = false := by intro _; rfl) : ED F (.Call (.Name x p) [] kws pos) L r L' := by
  obtain ⟨tk, pk, rk⟩ := hk
  refine ⟨_, callK0_any D hg pk hdb hall hks hpl, fun σ G H S Q q => rk σ G H S _ fun zs G2 H2 S2 T2 r2 => ⟨by rw [r2.len]; exact hn2, _, r, G2, hΦ, S2.gh, D.data G2 _ _ (by rw [r2.len, hn2]; simp) r2, fun v G' H' A rv => ?_⟩⟩
  obtain ⟨S3, T3⟩ := S2.aft A
  exact q v G' H' S3 (T2.trans T3) rv
end
end DL
namespace DL
open PySem PyProof.Rows L2
variable [TabL]
section
variable {z : List Nat} {F : Fam} {e e1 e2 a b c tg iter elt : Expr} {es ifs : List Expr} {sts body rest : List Stmt} {L L1 L2' L' L3 : List Sl} {d d1 d2 r : PyData} {ds ds2 its rs ms ms' us : List PyData} {i : Nat} {pos p p2 : Pos} {x y : Str} {σ σ' σ1 σ2 : L2.St} {G H G1 H1 G2 H2 G' H' : Hp} {scope : Scope} {m n : Int} {o : Out} {q : Addr} {ob : HO}

/-! ### x.pop(e) -/
theorem ed_popAt {py apos cpos : Pos} {k : Nat} (i : Nat) (h : ED F e L (.int n) L1) (hi : L1[i]? = some (Sl.ow ms)) (hk : ixN ms.length n = some k) (hd0 : ms[k]? = some d) (hb : -(2 ^ 63) ≤ n ∧ n < 2 ^ 63) (hL : ∃ us, L[i]? = some (Sl.ow us) := by exact ⟨_, rfl⟩) (hN : F.N[i]? = some y := by rfl) (hv : Vis F.sc y := by first | exact Or.inl rfl | exact Or.inr (Or.inl rfl) | exact Or.inr (Or.inr rfl)) (hd : (y == ("__debug__" : Str)) = false := by decide) (hcd : (y == ("__classdict__" : Str)) = false := by decide)
    (hbase : ∀ env, attributeBase (.Name y py) "pop" env (eval (.Name y py) env) = eval (.Name y py) env := by intro _; rfl)
    (hfew : ∀ env, ((backTo cpos (starEach [e] env)).all (fun x => !x.1) && (backToKw cpos (keywordEach [] env)).all (fun x => x.1.isSome) && decide (([e] : List Expr).length + ([] : List Keyword).length + (if ([] : List Keyword).isEmpty then 0 else 1) < 30)) = true := by intro _; rfl)
    (hline : (apos.endLine == cpos.line) = true := by rfl) (hs : ∀ env, starEach [e] env = (false, eval e env) :: starEach [] env := by intro _; rfl) (hplain : ∀ env, (backTo cpos (starEach [] env)).any (·.1) = false := by intro _; rfl) :
    ED F (.Call (.Attribute (.Name y py) "pop" apos) [e] [] cpos) L d (L1.set i (.ow (ms.eraseIdx k))) := by
  obtain ⟨te, pe, run⟩ := h
  have pc : PEf F (.Call (.Attribute (.Name y py) "pop" apos) [e] [] cpos) (tBM F.K "list" rPopAt (tVar i) (tCons te tNil)) := fun j => by
    rw [← F.hK j]
    exact pe_bm PySem.F.plainAttrs_list PySem.F.slot_list_pop PySem.F.type_list_pop mt_popAt (pvF F i hN hv hd hcd j) (pa_cons (pe j) pa_nil (hs _)) (hbase _) (hfew _) hline (hs _) (hplain _)
  refine ⟨_, pc, fun σ G H S Q w => ?_⟩
  obtain ⟨us, hus⟩ := hL
  obtain ⟨x0, e1, q0, xs0, rfl, k1, _, _⟩ := S.get hus
  refine ⟨.ref q0, e1, .inl ⟨rfl, _, SqL.of k1⟩, run σ G H S _ fun v G1 H1 S1 T1 r1 => ?_⟩
  cases r1
  obtain ⟨x1, e2, q1, xs, w1, h1, h2, h3⟩ := S1.get hi
  rw [e1] at e2
  cases e2
  cases w1
  obtain ⟨v, hv1, rv⟩ := h2.get hd0
  obtain ⟨sx, _, _, _⟩ := ixN_seq hk
  refine ⟨q0, xs, n, k, v, rfl, rfl, h1, hb.1, hb.2, by rw [h2.len]; exact sx, hv1, ?_⟩
  obtain ⟨S2, T2⟩ := S1.put hi e1 (h2.erase k)
  exact w v _ _ S2 (T1.trans T2) rv

/-! ### heaps that only grow -/
structure SmN (H H' : Hp) : Prop where
  nt : ∀ b o, H b = some o → Pl o → H' b = some o
  th : ∀ b o, H b = some o → ∃ u, H' b = some u
  tb : LamX.Tabs TabL.T H → LamX.Tabs TabL.T H'
theorem SmN.thr (a : SmN H H') : Thr G H G H' := ⟨a.th, a.tb, fun h => h⟩
theorem SmN.trans (a : SmN H H1) (b : SmN H1 H2) : SmN H H2 := ⟨fun c o h t => b.nt c o (a.nt c o h t) t, fun c o h => let ⟨u, h1⟩ := a.th c o h; b.th c u h1, fun h => b.tb (a.tb h)⟩
theorem Sta.more (S : Sta L σ G H) (gh : Same G H') (h : SmN H H') : Sta L σ G H' := by
  refine ⟨gh, S.ln, fun i x t e1 e2 => ?_, S.di⟩
  have q := S.sl i x t e1 e2
  cases t with
  | no => exact q
  | va d => exact q
  | ow ds =>
    obtain ⟨a, xs, e, h1, h2, h3⟩ := q
    exact ⟨a, xs, e, h.nt _ _ h1 pl_lst, h2, h3⟩
  | tb => exact h.thr.tabs q
  | fn f G1 => exact q
/-- an object that is neither frozen nor one's own changes -/
theorem Sta.off {us ys : List V} (S : Sta L σ G H) (hg : G q = none) (no : ¬ Own L σ q) (hq : H q = some (.lst us)) : Sta L σ G (upd H q (.lst ys)) := by
  refine ⟨fun b o hb => ?_, S.ln, fun i x t e1 e2 => ?_, S.di⟩
  · rw [upd_ne]
    · exact S.gh b o hb
    · rintro rfl
      rw [hg] at hb
      cases hb
  · have w := S.sl i x t e1 e2
    cases t with
    | no => exact w
    | va d => exact w
    | ow ds =>
      obtain ⟨a, xs, e, h1, h2, h3⟩ := w
      subst e
      refine ⟨a, xs, rfl, ?_, h2, h3⟩
      rw [upd_ne]
      · exact h1
      · rintro rfl
        exact no ⟨i, ds, e2, e1⟩
    | tb => exact Thr.tabs (.put hq) w
    | fn f G1 => exact w
theorem Sta.set_no {v : Option V} (S : Sta L σ G H) : Sta (L.set i .no) (σ.set i v) G H ∧ ∀ b, Own (L.set i .no) (σ.set i v) b → Own L σ b := by
  have own : ∀ (j : Nat) (us : List PyData), (L.set i Sl.no)[j]? = some (Sl.ow us) → i ≠ j ∧ L[j]? = some (Sl.ow us) := fun j us e => by
    by_cases hj : i = j
    · subst hj
      have hi : i < L.length := by
        have := (List.getElem?_eq_some_iff.mp e).1
        rwa [List.length_set] at this
      rw [List.getElem?_set_self hi] at e
      cases e
    · rw [List.getElem?_set_ne hj] at e
      exact ⟨hj, e⟩
  refine ⟨⟨S.gh, by rw [List.length_set, List.length_set]; exact S.ln, fun j x t e1 e2 => ?_, fun j k b us ws f1 f2 f3 f4 => ?_⟩, fun b ⟨j, us, f1, f2⟩ => ?_⟩
  · by_cases hj : i = j
    · subst hj
      have hi : i < L.length := by
        have := (List.getElem?_eq_some_iff.mp e2).1
        rwa [List.length_set] at this
      rw [List.getElem?_set_self hi] at e2
      cases e2
      trivial
    · rw [List.getElem?_set_ne hj] at e1 e2
      exact S.sl j x t e1 e2
  · obtain ⟨n1, g1⟩ := own j us f1
    obtain ⟨n2, g2⟩ := own k ws f2
    rw [List.getElem?_set_ne n1] at f3
    rw [List.getElem?_set_ne n2] at f4
    exact S.di j k b us ws g1 g2 f3 f4
  · obtain ⟨n1, g1⟩ := own j us f1
    rw [List.getElem?_set_ne n1] at f2
    exact ⟨j, us, g1, f2⟩

/-! ### a list of two new lists, looked at, then changed -/
def hid : Sl → Sl
  | .va d => .va d
  | _ => .no
theorem hid_own {L : List Sl} {j : Nat} {us : List PyData} : (L.map hid)[j]? ≠ some (Sl.ow us) := by
  rw [List.getElem?_map]
  intro h
  cases e : L[j]? with
  | none => rw [e] at h; cases h
  | some t =>
    rw [e] at h
    cases t <;> cases h
def allZ : List Nat := List.range 40
/-- a statement that only looks, nothing of one's own about -/
theorem mid_run {st : Stmt} {L : List Sl} (h : SD allZ F st L (.nx L)) (no : ∀ (j : Nat) (us : List PyData), L[j]? ≠ some (Sl.ow us)) (hl : L.length ≤ 40) : ∃ ts, PSf F st ts ∧ ∀ σ G H, Sta L σ G H → ∀ D : Ends, (∀ G' H', Sta L σ G' H' → Same G G' → SmN H H' → D.nx σ H') → ts D σ H := by
  obtain ⟨ts, ps, run⟩ := h
  refine ⟨ts, ps, fun σ G H S D w => run σ G H S D fun σ' G' H' S' T' A' => ?_⟩
  have e : σ' = σ := by
    apply List.ext_getElem?
    intro k
    by_cases hk : k < 40
    · exact A' k (List.mem_range.mpr hk)
    · rw [List.getElem?_eq_none (by rw [S'.ln]; omega), List.getElem?_eq_none (by rw [S.ln]; omega)]
  subst e
  refine w G' H' S' T'.g ⟨fun b o hb nt => ?_, T'.th.th, T'.th.tb⟩
  cases eg : G b with
  | none => exact (T'.fr b o hb eg (fun ⟨j, us, f1, _⟩ => no j us f1) nt).1
  | some u =>
    have h1 := S'.gh b u (T'.g b u eg)
    have h2 := S.gh b u eg
    rw [hb] at h2
    cases h2
    exact h1
theorem scratch_core {tm tr : TS} {te1 te2 : TE} (i : Nat) (hi : i < L.length) (r1 : ∀ σ G H, Sta L σ G H → ∀ Q : VK, (∀ p xs G' H', Sta L σ G' H' → Te L σ G H L G' H' → H p = none → H' p = some (.lst xs) → G' p = none → RpA G' xs ds → Q (.ref p) H') → te1 σ H Q)
    (r2 : ∀ σ G H, Sta L σ G H → ∀ Q : VK, (∀ p xs G' H', Sta L σ G' H' → Te L σ G H L G' H' → H p = none → H' p = some (.lst xs) → G' p = none → RpA G' xs us → Q (.ref p) H') → te2 σ H Q)
    (hz : i ∉ z) (hlen : ds.length < 100000)
    (rm : ∀ σ G H, Sta ((L.map hid).set i (.va (.list [.list ds, .list us]))) σ G H → ∀ D : Ends, (∀ G' H', Sta ((L.map hid).set i (.va (.list [.list ds, .list us]))) σ G' H' → Same G G' → SmN H H' → D.nx σ H') → tm D σ H)
    (rr : ∀ σ G H, Sta (L.set i .no) σ G H → ∀ D, EndOk z (L.set i .no) σ G H D o → tr D σ H) (σ : L2.St) (S : Sta L σ G H) (D : Ends) (w : EndOk z L σ G H D o) (K : PySem.W.Frag) :
    tSeq (tAsg (tLst (tCons te1 (tCons te2 tNil))) (gName i)) (tSeq tm (tSeq (tDrop (tBM K "list" rAppend (tOp (rIxL K) (tVar i) (tC (.int 0))) (tCons (tC .non) tNil))) tr)) D σ H := by
  have hs : i < σ.length := by rw [S.ln]; exact hi
  refine r1 σ G H S _ fun p1 xs1 G1 H1 S1 T1 f1 h1 g1 rp1 => r2 σ G1 H1 S1 _ fun p2 xs2 G2 H2 S2 T2 f2 h2 g2 rp2 => ⟨by show 2 ≤ sizeLine; decide, fun a ha => ?_⟩
  have no1 : ¬ Own L σ p1 := S.own_ne f1
  obtain ⟨h1', g1'⟩ := T2.fr p1 _ h1 g1 no1 pl_lst
  have n12 : p1 ≠ p2 := ne_of_none h1 f2
  have na1 : p1 ≠ a := ne_of_none h1' ha
  have na2 : p2 ≠ a := ne_of_none h2 ha
  have f0 : H a = none := (T1.trans T2).back ha
  have noa : ¬ Own L σ a := S.own_ne f0
  have ga : G2 a = none := S2.gn ha
  obtain ⟨S3, T3⟩ := S2.new (o := .lst [.ref p1, .ref p2]) ha
  obtain ⟨S4, O4⟩ := S3.set_no (i := i) (v := some (.ref a))
  -- the frozen view
  let Gf := upd (upd (upd G2 p1 (.lst xs1)) p2 (.lst xs2)) a (.lst [.ref p1, .ref p2])
  have u1 : Same G2 (upd G2 p1 (.lst xs1)) := Same.upd_ g1'
  have u2 : Same (upd G2 p1 (.lst xs1)) (upd (upd G2 p1 (.lst xs1)) p2 (.lst xs2)) := Same.upd_ (by rw [upd_ne n12.symm]; exact g2)
  have u3 : Same (upd (upd G2 p1 (.lst xs1)) p2 (.lst xs2)) Gf := Same.upd_ (by rw [upd_ne na2.symm, upd_ne na1.symm]; exact ga)
  have uG : Same G2 Gf := (u1.trans u2).trans u3
  let H3 := upd H2 a (.lst [.ref p1, .ref p2])
  have ghf : Same Gf H3 := fun b ob hb => by
    by_cases e1 : b = a
    · subst e1
      rw [show Gf b = _ from upd_same] at hb
      rw [← hb]
      exact upd_same
    · rw [show Gf b = _ from upd_ne e1] at hb
      show upd H2 a _ b = _
      rw [upd_ne e1]
      by_cases e2 : b = p2
      · subst e2
        rw [upd_same] at hb
        rw [← hb]
        exact h2
      · rw [upd_ne e2] at hb
        by_cases e3 : b = p1
        · subst e3
          rw [upd_same] at hb
          rw [← hb]
          exact h1'
        · rw [upd_ne e3] at hb
          exact S2.gh b ob hb
  have rpf : Rp Gf (.ref a) (.list [.list ds, .list us]) := by
    refine .lst upd_same (.cons (.lst (xs := xs1) ?_ (rp1.up (T2.g.trans uG))) (.cons (.lst (xs := xs2) ?_ (rp2.up uG)) .nil))
    · show upd _ a _ p1 = _
      rw [upd_ne na1, upd_ne n12]
      exact upd_same
    · show upd _ a _ p2 = _
      rw [upd_ne na2]
      exact upd_same
  have Sf : Sta ((L.map hid).set i (.va (.list [.list ds, .list us]))) (σ.set i (some (.ref a))) Gf H3 := by
    refine ⟨ghf, by rw [List.length_set, List.length_set, List.length_map]; exact S.ln, fun j x t e1 e2 => ?_, fun j k b ws vs f1 _ _ _ => ?_⟩
    · by_cases hj : i = j
      · subst hj
        rw [List.getElem?_set_self hs] at e1
        rw [List.getElem?_set_self (by rw [List.length_map]; exact hi)] at e2
        cases e1
        cases e2
        exact ⟨_, rfl, rpf⟩
      · rw [List.getElem?_set_ne hj] at e1 e2
        rw [List.getElem?_map] at e2
        cases eL : L[j]? with
        | none => rw [eL] at e2; cases e2
        | some t0 =>
          rw [eL] at e2
          have q0 := S2.sl j x t0 e1 eL
          cases t0 with
          | no =>
            cases e2
            trivial
          | ow vs =>
            cases e2
            trivial
          | tb =>
            cases e2
            trivial
          | fn f G1 =>
            cases e2
            trivial
          | va d0 =>
            cases e2
            obtain ⟨v, ev, rv⟩ := q0
            exact ⟨v, ev, rv.up uG⟩
    · by_cases hj : i = j
      · subst hj
        rw [List.getElem?_set_self (by rw [List.length_map]; exact hi)] at f1
        cases f1
      · rw [List.getElem?_set_ne hj] at f1
        exact (hid_own f1).elim
  refine rm _ Gf H3 Sf _ fun G5 H5 S5' g5 hh => ?_
  -- back to what was known
  have S5 := S4.more ((uG.trans g5).trans S5'.gh) hh
  have a5 : H5 a = some (.lst [.ref p1, .ref p2]) := hh.nt a _ upd_same pl_lst
  have p5 : H5 p1 = some (.lst xs1) := hh.nt p1 _ (by show upd H2 a _ p1 = _; rw [upd_ne na1]; exact h1') pl_lst
  have S6 : Sta (L.set i .no) (σ.set i (some (.ref a))) G2 (upd H5 p1 (.lst (xs1 ++ [.non]))) := S5.off g1' (fun w => no1 (O4 p1 w)) p5
  refine ⟨.ref a, List.getElem?_set_self hs, a, [.ref p1, .ref p2], 0, .ref p1, rfl, rfl, SqL.of a5, rfl, .inl ⟨rfl, _, SqL.of p5⟩, ?_⟩
  refine ⟨p1, xs1, .non, rfl, rfl, p5, Nat.lt_of_lt_of_le (by rw [rp1.len]; exact hlen) (by decide), ?_⟩
  refine rr _ G2 _ S6 D (w.from S6 ⟨T1.g.trans T2.g, fun b o hb gb nb nt => ?_, fun b v => .inl (O4 b v), ((T1.trans T2).th.trans (T3.th.trans hh.thr)).trans (.put p5)⟩ (Anc.set hz))
  obtain ⟨k1, k2⟩ := (T1.trans T2).fr b o hb gb nb nt
  refine ⟨?_, k2⟩
  rw [upd_ne (ne_of_none hb f1)]
  exact hh.nt b o (by show upd H2 a _ b = _; rw [upd_ne (ne_of_none k1 ha)]; exact k1) nt

theorem app0_any {py sp apos cpos epos c0 c1 : Pos} {j0 j1 : Nat} (i : Nat) (hN : F.N[i]? = some x) (hv : Vis F.sc x) (hd : (x == ("__debug__" : Str)) = false) (hcd : (x == ("__classdict__" : Str)) = false)
    (hbase : ∀ env, attributeBase (.Subscript (.Name x py) (.Constant (.int 0) j0 c0) sp) "append" env (eval (.Subscript (.Name x py) (.Constant (.int 0) j0 c0) sp) env) = eval (.Subscript (.Name x py) (.Constant (.int 0) j0 c0) sp) env) (hline : (apos.endLine == cpos.line) = true)
    (hsw : ∀ env, swapsWith (.Call (.Attribute (.Subscript (.Name x py) (.Constant (.int 0) j0 c0) sp) "append" apos) [.Constant .none j1 c1] [] cpos) none epos.line env = pure false) :
    PSf F (.Expr (.Call (.Attribute (.Subscript (.Name x py) (.Constant (.int 0) j0 c0) sp) "append" apos) [.Constant .none j1 c1] [] cpos) epos) (tDrop (tBM F.K "list" rAppend (tOp (rIxL F.K) (tVar i) (tC (.int 0))) (tCons (tC .non) tNil))) := fun j => by
  refine ps_expr ?_ (hsw _)
  rw [← F.hK j]
  exact pe_bm PySem.F.plainAttrs_list PySem.F.slot_list_append PySem.F.type_list_append mt_append (pe_ix ix_list (pvF F i hN hv hd hcd j) pe_int fun _ _ => rfl) (pa_cons pe_non pa_nil) (hbase _) rfl hline rfl rfl
section
variable {px lp ap py sp apos cpos epos c0 c1 : Pos} {j0 j1 : Nat} {m1 m2 : Stmt}
/-- x = [e1, e2]; two looks; x[0].append(None); .. -/
theorem ss_scratch2 (i : Nat) (h1 : FD F e1 L ds L) (h2 : FD F e2 L us L) (k1 : SD allZ F m1 ((L.map hid).set i (.va (.list [.list ds, .list us]))) (.nx ((L.map hid).set i (.va (.list [.list ds, .list us]))))) (k2 : SD allZ F m2 ((L.map hid).set i (.va (.list [.list ds, .list us]))) (.nx ((L.map hid).set i (.va (.list [.list ds, .list us])))))
    (k3 : SsD z F rest (L.set i .no) o) (hlen : ds.length < 100000) (hz : i ∉ z := by decide) (hi : F.N[i]? = some x := by rfl) (hl : i < L.length := by exact Nat.le_of_ble_eq_true rfl) (hl40 : L.length ≤ 40 := by exact Nat.le_of_ble_eq_true rfl) (hx : Loc F.sc x := by first | exact Or.inl rfl | exact Or.inr rfl) (hf : StF F x := by first | exact Or.inl rfl | exact Or.inr rfl) (hn : F.N.Nodup := by exact of_decide_eq_true rfl) (hv : Vis F.sc x := by first | exact Or.inl rfl | exact Or.inr (Or.inl rfl) | exact Or.inr (Or.inr rfl))
    (hs : ∀ j, swapsWith (.List [e1, e2] lp) (some (.Name x px)) ap.line (F.x j).env = pure false := by intro _; rfl) (hs1 : ∀ env, starEach [e1, e2] env = (false, eval e1 env) :: starEach [e2] env := by intro _; rfl) (hs2 : ∀ env, starEach [e2] env = (false, eval e2 env) :: starEach [] env := by intro _; rfl) (hd : (x == ("__debug__" : Str)) = false := by decide) (hcd : (x == ("__classdict__" : Str)) = false := by decide)
    (hbase : ∀ env, attributeBase (.Subscript (.Name x py) (.Constant (.int 0) j0 c0) sp) "append" env (eval (.Subscript (.Name x py) (.Constant (.int 0) j0 c0) sp) env) = eval (.Subscript (.Name x py) (.Constant (.int 0) j0 c0) sp) env := by intro _; rfl) (hline : (apos.endLine == cpos.line) = true := by rfl)
    (hsw : ∀ env, swapsWith (.Call (.Attribute (.Subscript (.Name x py) (.Constant (.int 0) j0 c0) sp) "append" apos) [.Constant .none j1 c1] [] cpos) none epos.line env = pure false := by intro _; rfl) :
    SsD z F (.Assign [.Name x px] (.List [e1, e2] lp) ap :: m1 :: m2 :: .Expr (.Call (.Attribute (.Subscript (.Name x py) (.Constant (.int 0) j0 c0) sp) "append" apos) [.Constant .none j1 c1] [] cpos) epos :: rest) L o := by
  obtain ⟨te1, pe1, r1⟩ := h1
  obtain ⟨te2, pe2, r2⟩ := h2
  have noo : ∀ (j : Nat) (ws : List PyData), ((L.map hid).set i (.va (.list [.list ds, .list us])))[j]? ≠ some (Sl.ow ws) := fun j ws h => by
    by_cases hj : i = j
    · subst hj
      exact set_noown h
    · rw [List.getElem?_set_ne hj] at h
      exact hid_own h
  have l40 : ((L.map hid).set i (.va (.list [.list ds, .list us]))).length ≤ 40 := by rw [List.length_set, List.length_map]; exact hl40
  obtain ⟨t1, q1, w1⟩ := mid_run k1 noo l40
  obtain ⟨t2, q2, w2⟩ := mid_run k2 noo l40
  obtain ⟨t3, q3, w3⟩ := k3
  refine ⟨tSeq (tAsg (tLst (tCons te1 (tCons te2 tNil))) (gName i)) (tSeq t1 (tSeq t2 (tSeq (tDrop (tBM F.K "list" rAppend (tOp (rIxL F.K) (tVar i) (tC (.int 0))) (tCons (tC .non) tNil))) t3))), fun j => ?_, fun σ G H S D w => ?_⟩
  · exact pss_cons (set_any (fun j => pe_lst (pa_cons (pe1 j) (pa_cons (pe2 j) pa_nil (hs2 _)) (hs1 _))) hn hi hx hf hs j) (pss_cons (q1 j) (pss_cons (q2 j) (pss_cons (app0_any i hi hv hd hcd hbase hline hsw j) (q3 j))))
  · exact scratch_core (tm := tSeq t1 t2) (tr := t3) i hl r1 r2 hz hlen (fun σ G H S D v => w1 σ G H S _ fun G' H' S' g' h' => w2 σ G' H' S' _ fun G'' H'' S'' g'' h'' => v G'' H'' S'' (g'.trans g'') (h'.trans h'')) w3 σ S D w F.K
/-- x = [e1, e2]; one look; x[0].append(None); .. -/
theorem ss_scratch1 (i : Nat) (h1 : FD F e1 L ds L) (h2 : FD F e2 L us L) (k1 : SD allZ F m1 ((L.map hid).set i (.va (.list [.list ds, .list us]))) (.nx ((L.map hid).set i (.va (.list [.list ds, .list us])))))
    (k3 : SsD z F rest (L.set i .no) o) (hlen : ds.length < 100000) (hz : i ∉ z := by decide) (hi : F.N[i]? = some x := by rfl) (hl : i < L.length := by exact Nat.le_of_ble_eq_true rfl) (hl40 : L.length ≤ 40 := by exact Nat.le_of_ble_eq_true rfl) (hx : Loc F.sc x := by first | exact Or.inl rfl | exact Or.inr rfl) (hf : StF F x := by first | exact Or.inl rfl | exact Or.inr rfl) (hn : F.N.Nodup := by exact of_decide_eq_true rfl) (hv : Vis F.sc x := by first | exact Or.inl rfl | exact Or.inr (Or.inl rfl) | exact Or.inr (Or.inr rfl))
    (hs : ∀ j, swapsWith (.List [e1, e2] lp) (some (.Name x px)) ap.line (F.x j).env = pure false := by intro _; rfl) (hs1 : ∀ env, starEach [e1, e2] env = (false, eval e1 env) :: starEach [e2] env := by intro _; rfl) (hs2 : ∀ env, starEach [e2] env = (false, eval e2 env) :: starEach [] env := by intro _; rfl) (hd : (x == ("__debug__" : Str)) = false := by decide) (hcd : (x == ("__classdict__" : Str)) = false := by decide)
    (hbase : ∀ env, attributeBase (.Subscript (.Name x py) (.Constant (.int 0) j0 c0) sp) "append" env (eval (.Subscript (.Name x py) (.Constant (.int 0) j0 c0) sp) env) = eval (.Subscript (.Name x py) (.Constant (.int 0) j0 c0) sp) env := by intro _; rfl) (hline : (apos.endLine == cpos.line) = true := by rfl)
    (hsw : ∀ env, swapsWith (.Call (.Attribute (.Subscript (.Name x py) (.Constant (.int 0) j0 c0) sp) "append" apos) [.Constant .none j1 c1] [] cpos) none epos.line env = pure false := by intro _; rfl) :
    SsD z F (.Assign [.Name x px] (.List [e1, e2] lp) ap :: m1 :: .Expr (.Call (.Attribute (.Subscript (.Name x py) (.Constant (.int 0) j0 c0) sp) "append" apos) [.Constant .none j1 c1] [] cpos) epos :: rest) L o := by
  obtain ⟨te1, pe1, r1⟩ := h1
  obtain ⟨te2, pe2, r2⟩ := h2
  have noo : ∀ (j : Nat) (ws : List PyData), ((L.map hid).set i (.va (.list [.list ds, .list us])))[j]? ≠ some (Sl.ow ws) := fun j ws h => by
    by_cases hj : i = j
    · subst hj
      exact set_noown h
    · rw [List.getElem?_set_ne hj] at h
      exact hid_own h
  have l40 : ((L.map hid).set i (.va (.list [.list ds, .list us]))).length ≤ 40 := by rw [List.length_set, List.length_map]; exact hl40
  obtain ⟨t1, q1, w1⟩ := mid_run k1 noo l40
  obtain ⟨t3, q3, w3⟩ := k3
  refine ⟨tSeq (tAsg (tLst (tCons te1 (tCons te2 tNil))) (gName i)) (tSeq t1 (tSeq (tDrop (tBM F.K "list" rAppend (tOp (rIxL F.K) (tVar i) (tC (.int 0))) (tCons (tC .non) tNil))) t3)), fun j => ?_, fun σ G H S D w => ?_⟩
  · exact pss_cons (set_any (fun j => pe_lst (pa_cons (pe1 j) (pa_cons (pe2 j) pa_nil (hs2 _)) (hs1 _))) hn hi hx hf hs j) (pss_cons (q1 j) (pss_cons (app0_any i hi hv hd hcd hbase hline hsw j) (q3 j)))
  · exact scratch_core (tm := t1) (tr := t3) i hl r1 r2 hz hlen w1 w3 σ S D w F.K
end
end
end DL
namespace DL
open PySem PyProof.Rows L2
variable [TabL]
section
variable {z : List Nat} {F : Fam} {e e1 e2 a b c tg iter elt : Expr} {es : List Expr} {sts body rest : List Stmt} {d d1 d2 r : PyData} {ds ds2 its rs ms ms' us : List PyData} {i : Nat} {pos p p2 : Pos} {x y : Str} {σ σ' σ1 σ2 : L2.St} {G H G1 H1 G2 H2 G' H' : Hp} {scope : Scope} {n : Nat} {o : Out} {ob : HO}

/-! ### a row of new lists -/
def noL (n : Nat) : List Sl := List.replicate n .no
theorem noL_at {k : Nat} {t : Sl} (h : (noL n)[k]? = some t) : t = .no := by
  unfold noL at h
  exact List.eq_of_mem_replicate (List.mem_of_getElem? h)
theorem noL_own {q : Addr} : ¬ Own (noL n) σ q := fun ⟨k, us, e, _⟩ => by cases noL_at e
theorem staNo (hl : σ.length = n) (gh : Same G H) : Sta (noL n) σ G H :=
  ⟨gh, by rw [hl]; simp [noL], fun k x t _ e => by rw [noL_at e]; trivial, fun i j q ds es e _ _ _ => by cases noL_at e⟩
structure Pen (G H : Hp) (rs : List (Addr × List PyData)) : Prop where
  it : ∀ q ∈ rs, ∃ xs, H q.1 = some (.lst xs) ∧ G q.1 = none ∧ RpA G xs q.2
  nd : (rs.map (·.1)).Nodup
def ItC (C : L2.St → Hp → Prop) (F : Fam) (tg iter : Expr) (L : List Sl) (its : List PyData) : Prop := ∃ wi, PIf F tg iter wi ∧ ∀ σ G H, Sta L σ G H → C σ H → ∀ R : It → Hp → Prop, (∀ J G' H', Sta L σ G' H' → Te L σ G H L G' H' → RunsJ J its G' → R J H') → wi σ H R
/-- the row is made -/
theorem comp_fresh {C : L2.St → Hp → Prop} {own : List (Str × Nat)} {T : List Nat} {ok : PyData → Prop} {u : PyData → List Sl → List Sl} (fr : PyData → List PyData) (hn : n = F.N.length) (hi : ItC C F tg iter (noL n) its) (hb : BlkOk F.N F.sc scope own) (ht : TgD (F.blk scope) tg T ok u)
    (hT : ∀ k ∈ T, k ∈ own.map (·.2)) (he : ∀ d, d ∈ its → ok d ∧ (∀ (k : Nat) (ds : List PyData), (u d (noL n))[k]? ≠ some (Sl.ow ds)) ∧ FD (F.blk scope) elt (u d (noL n)) (fr d) (u d (noL n)))
    (hlen : its.length ≤ 100000) (hN : F.N.Nodup) (hs : ∀ env x, foldedSetIterable iter env x = pure x) :
    ∃ tl, PEf F (.ListComp elt [⟨tg, iter, [], 0⟩] scope pos) tl ∧ ∀ σ G H, Sta (noL n) σ G H → C σ H → ∀ Q : VK, (∀ q rs G' H', Sta (noL n) σ G' H' → Te (noL n) σ G H (noL n) G' H' → H' q = some (.lst (rs.map fun w => V.ref w.1)) → G' q = none → Pen G' H' rs → rs.map (·.2) = its.map fr → (∀ w ∈ rs, w.1 ≠ q ∧ H w.1 = none) → Q (.ref q) H') → tl σ H Q := by
  obtain ⟨wi, pi, runI⟩ := hi
  obtain ⟨⟨g, pg, runG⟩, out, nown, ulen⟩ := ht
  refine ⟨_, lc_any hN pi hb pg hs, fun σ G0 H0 S0 cH Q q => runI σ G0 H0 S0 cH _ fun J G1 H1 S1 T1 RJ => fun Dl hD => ?_⟩
  have hDG : G1 Dl = none := S1.gn hD
  have hsl : σ.length = n := by rw [S0.ln]; simp [noL]
  refine ⟨fun i k H => k = its.length - i ∧ i ≤ its.length ∧ ∃ G rs, Sta (noL n) σ G H ∧ Te (noL n) σ G1 H1 (noL n) G H ∧ H Dl = some (.lst (rs.map fun w => V.ref w.1)) ∧ G Dl = none ∧ Pen G H rs ∧ rs.map (·.2) = (its.take i).map fr ∧ (∀ w ∈ rs, w.1 ≠ Dl ∧ H0 w.1 = none), ⟨its.length, by simp, Nat.zero_le _, G1, [], ?_⟩, ?_⟩
  · obtain ⟨S2, T2⟩ := S1.new (o := .lst []) hD
    exact ⟨S2, T2, upd_same, hDG, ⟨fun w hw => (by cases hw), .nil⟩, rfl, fun w hw => (by cases hw)⟩
  rintro i k H ⟨rfl, him, G, rs, S, T0, hDl, hGD, pen, hrs, hne⟩
  obtain ⟨stop, go⟩ := RJ i G H T0.g S.gh
  by_cases h : i < its.length
  case neg =>
    obtain rfl : i = its.length := by omega
    rw [List.take_length] at hrs
    exact .inl ⟨stop (Nat.le_refl _), q Dl rs G H S (T1.trans T0) hDl hGD pen hrs hne⟩
  obtain ⟨hg, hy⟩ := go its[i] (List.getElem?_eq_getElem h)
  obtain ⟨okd, noo, te, pe, run⟩ := he its[i] (List.getElem_mem h)
  refine .inr ⟨hg, fun H' => i + 1 ≤ its.length ∧ ∃ G rs, Sta (noL n) σ G H' ∧ Te (noL n) σ G1 H1 (noL n) G H' ∧ H' Dl = some (.lst (rs.map fun w => V.ref w.1)) ∧ G Dl = none ∧ Pen G H' rs ∧ rs.map (·.2) = (its.take (i + 1)).map fr ∧ (∀ w ∈ rs, w.1 ≠ Dl ∧ H0 w.1 = none),
    fun H' ⟨l1, w⟩ => ⟨its.length - (i + 1), by omega, rfl, l1, w⟩, fun x H' hx => ?_⟩
  obtain ⟨G2, S2, T2, r2⟩ := yielded S (hy x H' hx)
  have SW : Sta (noL n) (wipe σ (own.map (·.2))) G2 H' := staNo (by rw [wipe_length]; exact hsl) S2.gh
  refine runG _ okd _ _ _ _ _ (by show _ = F.N.length; rw [← hn]; simp [noL]) SW r2 _ fun σ3 S3 T3 A3 => ?_
  have l3 : σ3.length = σ.length := by rw [S3.ln, ulen _ _ okd, ← S2.ln]
  have agree : ∀ k, k ∉ own.map (·.2) → σ3[k]? = σ[k]? := fun k hk => by
    have := A3 k fun hkT => hk (hT k hkT)
    rw [wipe_get, if_neg hk] at this
    exact this
  have weq : wipe σ3 (own.map (·.2)) = wipe σ (own.map (·.2)) := wipe_eq (fun k hk => by rw [wipe_get, if_neg hk]; exact agree k hk) l3
  refine ⟨weq, ?_⟩
  have noU : ∀ q, ¬ Own (u its[i] (noL n)) σ3 q := fun q ⟨k, us, e, _⟩ => noo k us e
  refine IfsD.run (k := true) .nil S3 _ fun G4 H4 S4 T4 => iteT ⟨te, pe, run σ3 G4 H4 S4 _ fun q0 xs G5 H5 S5 T5 hp hp5 gp5 r5 => ?_⟩
  have keep : ∀ b o, H b = some o → G b = none → Pl o → H5 b = some o ∧ G5 b = none := fun b o e1 e2 nt => by
    obtain ⟨f1, f2⟩ := T2.fr b o e1 e2 noL_own nt
    obtain ⟨f3, f4⟩ := T4.fr b o f1 f2 (noU b) nt
    exact T5.fr b o f3 f4 (noU b) nt
  have old : ∀ b o, H b = some o → q0 ≠ b := fun b o e1 z => by
    obtain ⟨v0, hv0⟩ := T2.th.th b o e1
    obtain ⟨v, hv⟩ := T4.th.th b v0 hv0
    rw [z] at hp
    rw [hp] at hv
    cases hv
  obtain ⟨k1, k2⟩ := keep Dl _ hDl hGD pl_lst
  have nD : q0 ≠ Dl := old Dl _ hDl
  have gg : Same G G5 := (T2.g.trans T4.g).trans T5.g
  refine ⟨_, k1, ?_, by omega, G5, rs ++ [(q0, fr its[i])], ?_, ?_, ?_, k2, ⟨fun w hw => ?_, ?_⟩, ?_, fun w hw => ?_⟩
  · have e := congrArg List.length hrs
    rw [List.length_map, List.length_map, List.length_take] at e
    rw [List.length_map]
    exact Nat.lt_of_lt_of_le (by omega : rs.length < 200000) (by decide)
  · refine staNo hsl fun b o hb' => ?_
    rw [upd_ne]
    · exact S5.gh b o hb'
    · rintro rfl
      rw [k2] at hb'
      cases hb'
  · refine ⟨T0.g.trans gg, fun b o hb' gb _ nt => ?_, fun b w => w, (((T0.th.trans T2.th).trans T4.th).trans T5.th).trans (.put k1)⟩
    obtain ⟨q1, q2⟩ := T0.fr b o hb' gb noL_own nt
    obtain ⟨q3, q4⟩ := keep b o q1 q2 nt
    refine ⟨?_, q4⟩
    rw [upd_ne (ne_of_none hb' hD)]
    exact q3
  · rw [upd_same, List.map_append]
    rfl
  · rcases List.mem_append.mp hw with hw | hw
    · obtain ⟨ys, w1, w2, w3⟩ := pen.it w hw
      obtain ⟨w4, w5⟩ := keep _ _ w1 w2 pl_lst
      refine ⟨ys, ?_, w5, w3.up gg⟩
      rw [upd_ne (hne w hw).1]
      exact w4
    · rw [List.mem_singleton.mp hw]
      refine ⟨xs, ?_, gp5, r5⟩
      show upd H5 Dl _ q0 = _
      rw [upd_ne nD]
      exact hp5
  · rw [List.map_append]
    refine List.nodup_append.mpr ⟨pen.nd, by simp, fun b hb' c hc => ?_⟩
    obtain ⟨w, hw, rfl⟩ := List.mem_map.mp hb'
    obtain ⟨ys, w1, _, _⟩ := pen.it w hw
    have hc' : c = q0 := by simpa using hc
    rw [hc']
    exact (old _ _ w1).symm
  · rw [List.map_append, hrs, List.take_succ, List.getElem?_eq_getElem h, List.map_append]
    rfl
  · rcases List.mem_append.mp hw with hw | hw
    · exact hne w hw
    · rw [List.mem_singleton.mp hw]
      exact ⟨nD, (T1.trans (T0.trans T2)).back (T4.back hp)⟩
/-- for x in a row of new lists, each one's own while its turn goes on -/
theorem for_fresh {C : L2.St → Hp → Prop} {px fp : Pos} (i0 : Nat) (fr : PyData → List PyData) (hn : n = F.N.length) {le : Expr}
    (hl : ∃ tl, PEf F le tl ∧ ∀ σ G H, Sta (noL n) σ G H → C σ H → ∀ Q : VK, (∀ q rs G' H', Sta (noL n) σ G' H' → Te (noL n) σ G H (noL n) G' H' → H' q = some (.lst (rs.map fun w => V.ref w.1)) → G' q = none → Pen G' H' rs → rs.map (·.2) = its.map fr → (∀ w ∈ rs, w.1 ≠ q ∧ H w.1 = none) → Q (.ref q) H') → tl σ H Q)
    (hb : ∀ d, d ∈ its → SsD [] F body ((noL n).set i0 (.ow (fr d))) (.nx (noL n)))
    (hs : ∀ env x, foldedSetIterable le env x = pure x) (hi : F.N[i0]? = some x := by rfl) (hx : Loc F.sc x := by first | exact Or.inl rfl | exact Or.inr rfl) (hf : StF F x := by first | exact Or.inl rfl | exact Or.inr rfl) (hN : F.N.Nodup := by exact of_decide_eq_true rfl) :
    ∃ ts, PSf F (.For (.Name x px) le body [] fp) ts ∧ ∀ σ G H, Sta (noL n) σ G H → C σ H → ∀ D, EndOk [] (noL n) σ G H D (.nx (noL n)) → ts D σ H := by
  obtain ⟨tl, pe, run⟩ := hl
  have pg : PGf F (.Name x px) (gName i0) := fun j => pg_name (by rw [F.hN]; exact hN) (by rw [F.hN]; exact hi) (locF hx j) (hf.at j)
  refine ⟨_, for_any (plf F pe) pg hs, fun σ0 G0 H0 S0 cH D q => run σ0 G0 H0 S0 cH _ fun p0 rs G1 H1 S1 T1 hp gp pen hrs hne => ?_⟩
  have hi0 : i0 < n := by rw [hn]; exact (List.getElem?_eq_some_iff.mp hi).1
  refine ⟨p0, rfl, ⟨_, SqL.of hp⟩, fun i k σ H => k = rs.length - i ∧ i ≤ rs.length ∧ ∃ G, Sta (noL n) σ G H ∧ Ts (noL n) σ0 G0 H0 (noL n) σ G H ∧ H p0 = some (.lst (rs.map fun w => V.ref w.1)) ∧ G p0 = none ∧ Pen G H (rs.drop i), ⟨rs.length, by simp, Nat.zero_le _, G1, S1, T1.ts, hp, gp, pen⟩, ?_⟩
  rintro i k σ H ⟨rfl, him, G, S, T0, hpi, gpi, peni⟩
  by_cases h : i < rs.length
  case neg =>
    refine .inl ⟨⟨_, SqL.of hpi, by rw [List.length_map]; omega⟩, ?_⟩
    exact q σ G H S T0 fun k hk => by cases hk
  have ed : rs.drop i = rs[i] :: rs.drop (i + 1) := List.drop_eq_getElem_cons h
  refine .inr ⟨⟨_, V.ref rs[i].1, SqL.of hpi, by rw [List.getElem?_map, List.getElem?_eq_getElem h]; rfl⟩, fun σ' H' => i + 1 ≤ rs.length ∧ ∃ G, Sta (noL n) σ' G H' ∧ Ts (noL n) σ0 G0 H0 (noL n) σ' G H' ∧ H' p0 = some (.lst (rs.map fun w => V.ref w.1)) ∧ G p0 = none ∧ Pen G H' (rs.drop (i + 1)), fun σ' H' ⟨h1, w⟩ => ⟨rs.length - (i + 1), by omega, rfl, h1, w⟩, fun v H' hv => ?_⟩
  obtain ⟨rfl, hv2⟩ := hv
  have ev := hv2 _ (SqL.of hpi)
  rw [List.getElem?_map, List.getElem?_eq_getElem h] at ev
  obtain rfl : v = V.ref rs[i].1 := (Option.some.inj ev).symm
  rw [ed] at peni
  obtain ⟨xs, w1, w2, w3⟩ := peni.it rs[i] (List.mem_cons_self ..)
  have hmem : rs[i].2 ∈ its.map fr := by
    rw [← hrs]
    exact List.mem_map_of_mem (List.getElem_mem h)
  obtain ⟨d, hd, efr⟩ := List.mem_map.mp hmem
  obtain ⟨S2, O2⟩ := S.set_ow (i := i0) (by simp [noL]; exact hi0) w1 w2 noL_own w3
  rw [← efr] at S2 O2
  obtain ⟨tb, pb, runb⟩ := hb d hd
  refine ⟨tb, pb, runb _ G H' S2 _ fun σ' G' H2 S' T' A' => ?_⟩
  have only : ∀ b, Own ((noL n).set i0 (Sl.ow (fr d))) (σ.set i0 (some (V.ref rs[i].1))) b → b = rs[i].1 := fun b w => (O2 b w).elim (fun w => (noL_own w).elim) id
  have nd := peni.nd
  rw [List.map_cons, List.nodup_cons] at nd
  have keep : ∀ b o, H' b = some o → G b = none → b ≠ rs[i].1 → Pl o → H2 b = some o ∧ G' b = none := fun b o e1 e2 e3 nt => T'.fr b o e1 e2 (fun w => e3 (only b w)) nt
  obtain ⟨k1, k2⟩ := keep p0 _ hpi gpi (hne _ (List.getElem_mem h)).1.symm pl_lst
  refine ⟨by omega, G', S', ?_, k1, k2, ⟨fun w hw => ?_, nd.2⟩⟩
  · refine ⟨T0.g.trans T'.g, fun b o hb' gb _ nt => ?_, fun b w => (noL_own w).elim, T0.th.trans T'.th⟩
    obtain ⟨q1, q2⟩ := T0.fr b o hb' gb noL_own nt
    exact keep b o q1 q2 (ne_of_none hb' (hne _ (List.getElem_mem h)).2) nt
  · obtain ⟨ys, f1, f2, f3⟩ := peni.it w (List.mem_cons_of_mem _ hw)
    obtain ⟨f4, f5⟩ := keep _ _ f1 f2 (fun e => nd.1 (by rw [← e]; exact List.mem_map_of_mem hw)) pl_lst
    exact ⟨ys, f4, f5, f3.up T'.g⟩
end
end DL
namespace DL
open PySem PyProof.Rows L2
variable [TabL]
section
variable {z : List Nat} {F : Fam} {e e1 e2 a b c tg iter elt : Expr} {L L1 L2' L' L3 : List Sl} {ds its rs : List PyData} {x : Str}
/-- the signs of a text -/
def signsD (x : Str) : List PyData := x.cps.toList.map fun c => .str ⟨#[c]⟩
theorem it_str (h : ED F iter L (.str x) L') : ItD F tg iter L (signsD x) L' := by
  obtain ⟨te, pe, run⟩ := h
  refine ⟨_, fun j => pi_str (pe j), fun σ G H S R q => run σ G H S _ fun v G' H' S' T' r => ?_⟩
  cases r
  have hl : (signsD x).length = x.cps.size := by simp [signsD]
  refine ⟨x, rfl, q _ G' H' S' T' fun i G2 H2 g gh => ⟨fun hi => by rw [hl] at hi; exact hi, fun d hd => ?_⟩⟩
  have hi : i < x.cps.size := by
    rw [← hl]
    exact (List.getElem?_eq_some_iff.mp hd).1
  refine ⟨hi, fun v H3 hy => .inl ⟨hy.1, ?_⟩⟩
  obtain ⟨_, c, hc, rfl⟩ := hy
  have e : d = .str ⟨#[c]⟩ := by
    unfold signsD at hd
    rw [List.getElem?_map, Array.getElem?_toList, hc] at hd
    exact (Option.some.inj hd).symm
  rw [e]
  exact .str _
end
end DL
namespace DL
open PySem PyProof.Rows L2
variable [TabL]
section
variable {z : List Nat} {F : Fam} {e e1 e2 a b c : Expr} {L L1 L2' L' L3 : List Sl} {d d1 d2 : PyData} {ds its rs : List PyData} {x : Str} {pos : Pos}
theorem inDf (F : Fam) (j : F.J) : OpR (F.x j) (compareOp .In) (rInD F.K) := by
  rw [← F.hK j]
  exact op_inD (by have := (F.hr j).un; omega)
theorem ninDf (F : Fam) (j : F.J) : OpR (F.x j) (compareOp .NotIn) (rNotInD F.K) := by
  rw [← F.hK j]
  exact op_notInD (by have := (F.hr j).un; omega)
theorem cd_inD (ha : ED F a L d L1) (hb : HD F b L1 (.list ds) L2') (s1 : SeqAt.shaped d = true) (s2 : SeqAt.shaped (.list ds) = true) (hm : behindInMarks .In b = false := by rfl) : CD F (.Compare a [.In] [b] pos) L (ds.any fun z => PyData.eqv z d) L2' :=
  cd_cmpH (fun j => inDf F j) hm ha hb fun x y H r1 r2 Q q => ⟨d, ds, Rp.dp _ _ (noDict_shaped s1) r1, Rp.dp _ _ (noDict_shaped s2) r2, s1, s2, q⟩
theorem cd_ninD (ha : ED F a L d L1) (hb : HD F b L1 (.list ds) L2') (s1 : SeqAt.shaped d = true) (s2 : SeqAt.shaped (.list ds) = true) (hm : behindInMarks .NotIn b = false := by rfl) : CD F (.Compare a [.NotIn] [b] pos) L (!ds.any fun z => PyData.eqv z d) L2' :=
  cd_cmpH (fun j => ninDf F j) hm ha hb fun x y H r1 r2 Q q => ⟨d, ds, Rp.dp _ _ (noDict_shaped s1) r1, Rp.dp _ _ (noDict_shaped s2) r2, s1, s2, q⟩
end
end DL
namespace DL
open PySem PyProof.Rows L2
variable [TabL]
section
variable {z : List Nat} {F : Fam} {e e1 e2 a b c tg iter elt tg1 iter1 : Expr} {L L1 L2' L' L3 : List Sl} {d d1 d2 : PyData} {ds its rs : List PyData} {x : Str} {pos p : Pos} {ns : List Int} {σ σ' : L2.St} {G H G' H' : Hp} {scope : Scope}
/-! ### sorted, min of whole numbers -/
theorem sorted_unique : ∀ {ms ns : List Int}, ms.Perm ns → ms.Pairwise (· ≤ ·) → ns.Pairwise (· ≤ ·) → ms = ns
  | [], ns, p, _, _ => p.nil_eq
  | m :: ms, [], p, _, _ => p.eq_nil
  | m :: ms, n :: ns, p, hm, hn => by
    have h1 : m ≤ n := by
      rcases List.mem_cons.mp (p.mem_iff.mpr (List.mem_cons_self ..)) with h | h
      · omega
      · exact (List.pairwise_cons.mp hm).1 n h
    have h2 : n ≤ m := by
      rcases List.mem_cons.mp (p.mem_iff.mp (List.mem_cons_self ..)) with h | h
      · omega
      · exact (List.pairwise_cons.mp hn).1 m h
    obtain rfl : m = n := by omega
    rw [sorted_unique (List.Perm.cons_inv p) (List.pairwise_cons.mp hm).2 (List.pairwise_cons.mp hn).2]
theorem sortf (F : Fam) (j : F.J) : CallR (F.x j) (.builtin "sorted") (rSortedI F.K) := by
  rw [← F.hK j]
  exact cr_sortedI
theorem fd_sorted {rs : List Int} (h : LD F e L (ns.map .int) L') (hu : rs.Perm ns ∧ rs.Pairwise (· ≤ ·)) (hm : F.mg "sorted" = none) (hg : GlF F "sorted" := by rfl) (hs : ∀ env, starEach [e] env = (false, eval e env) :: starEach [] env := by intro _; rfl) : FD F (.Call (.Name "sorted" p) [e] [] pos) L (rs.map .int) L' := by
  obtain ⟨te, pe, run⟩ := h
  refine ⟨_, bt_any (sortf F) hg hm (by decide +kernel) (pa1 pe hs) (by decide) (by decide) hs (fun _ => rfl), fun σ G H S Q q => run σ G H S _ fun a xs G' H' S' T h1 r => ⟨a, ns, rfl, SqL.of (by rw [h1, r.of_ints]), fun ms l hp hw hl => ?_⟩⟩
  obtain rfl := sorted_unique (hp.trans hu.1.symm) hw hu.2
  obtain ⟨S2, T2⟩ := S'.new (o := .lst (ms.map V.int)) hl
  exact q l _ G' _ S2 (T.trans T2) (T.back hl) upd_same (S'.gn hl) (RpA.ints ms)
theorem minf (F : Fam) (j : F.J) : CallR (F.x j) (.builtin "min") (rMin F.K) := by
  rw [← F.hK j]
  exact cr_min (F.hc j)
theorem ed_min {r : Int} (h : LD F e L (ns.map .int) L') (h0 : 0 < ns.length) (hu : ∀ m, m ∈ ns → (∀ y, y ∈ ns → m ≤ y) → m = r) (hm : F.mg "min" = none) (hg : GlF F "min" := by rfl) (hs : ∀ env, starEach [e] env = (false, eval e env) :: starEach [] env := by intro _; rfl) : ED F (.Call (.Name "min" p) [e] [] pos) L (.int r) L' := by
  obtain ⟨te, pe, run⟩ := h
  refine ⟨_, bt_any (minf F) hg hm (by decide +kernel) (pa1 pe hs) (by decide) (by decide) hs (fun _ => rfl), fun σ G H S Q q => run σ G H S _ fun a xs G' H' S' T h1 r => ⟨a, ns, rfl, SqL.of (by rw [h1, r.of_ints]), h0, fun m m1 m2 => ?_⟩⟩
  rw [hu m m1 m2]
  exact q _ _ _ S' T (.int _)
/-! ### into a block and back -/
structure Blk (M M' : List Sl) (W : List Nat) (σ σ' : L2.St) : Prop where
  no : ∀ k ∈ W, ∀ t, M[k]? = some t → t = .no
  out : ∀ k, k ∉ W → M'[k]? = M[k]?
  nown : ∀ k ∈ W, ∀ ds, M'[k]? ≠ some (Sl.ow ds)
  agree : ∀ k, k ∉ W → σ'[k]? = σ[k]?
  ln : M.length = σ.length
theorem Blk.own {M M' : List Sl} {W : List Nat} (B : Blk M M' W σ σ') {q : Addr} : Own M' σ' q ↔ Own M σ q := by
  constructor
  · rintro ⟨k, us, h1, h2⟩
    have hk : k ∉ W := fun hk => B.nown k hk us h1
    exact ⟨k, us, by rw [← B.out k hk]; exact h1, by rw [← B.agree k hk]; exact h2⟩
  · rintro ⟨k, us, h1, h2⟩
    have hk : k ∉ W := fun hk => by cases B.no k hk _ h1
    exact ⟨k, us, by rw [B.out k hk]; exact h1, by rw [B.agree k hk]; exact h2⟩
theorem Blk.back {M M' : List Sl} {W : List Nat} (B : Blk M M' W σ σ') (S : Sta M' σ' G H) : Sta M σ G H := by
  refine ⟨S.gh, B.ln.symm, fun k y t h1 h2 => ?_, fun k l q us ws h1 h2 h3 h4 => ?_⟩
  · by_cases hk : k ∈ W
    · obtain rfl := B.no k hk t h2
      trivial
    · exact S.sl k y t (by rw [B.agree k hk]; exact h1) (by rw [B.out k hk]; exact h2)
  · have k1 : k ∉ W := fun hk => by cases B.no k hk _ h1
    have k2 : l ∉ W := fun hk => by cases B.no l hk _ h2
    exact S.di k l q us ws (by rw [B.out k k1]; exact h1) (by rw [B.out l k2]; exact h2) (by rw [B.agree k k1]; exact h3) (by rw [B.agree l k2]; exact h4)
theorem Blk.te {M M' : List Sl} {W : List Nat} (B : Blk M M' W σ σ') (T : Te M' σ' G H M' G' H') : Te M σ G H M G' H' :=
  ⟨T.g, fun b o hb gb nb => T.fr b o hb gb fun w => nb (B.own.mp w), fun b w => w, T.th⟩
theorem wipeSta {M : List Sl} {W : List Nat} (no : ∀ k ∈ W, ∀ t, M[k]? = some t → t = .no) (S : Sta M σ G H) : Sta M (wipe σ W) G H := by
  refine ⟨S.gh, by rw [wipe_length]; exact S.ln, fun k y t h1 h2 => ?_, fun k l q us ws h1 h2 h3 h4 => ?_⟩
  · by_cases hk : k ∈ W
    · obtain rfl := no k hk t h2
      trivial
    · rw [wipe_get, if_neg hk] at h1
      exact S.sl k y t h1 h2
  · have k1 : k ∉ W := fun hk => by cases no k hk _ h1
    have k2 : l ∉ W := fun hk => by cases no l hk _ h2
    rw [wipe_get, if_neg k1] at h3
    rw [wipe_get, if_neg k2] at h4
    exact S.di k l q us ws h1 h2 h3 h4
/-! ### two loops in one comprehension -/
def wiA (F : Fam) (tg iter : Expr) : TI := fun σ H R => ∃ wi, PIf F tg iter wi ∧ wi σ H R
theorem pi_any (F : Fam) (tg iter : Expr) : PIf F tg iter (wiA F tg iter) := fun j => ⟨fun pins s σ H R I h => let ⟨wi, pi, q⟩ := h; (pi j).run pins s σ H R I q⟩
def ttB (F : Fam) (c : Expr) : TT := ttsA F [c]
theorem lc2_any {wi : TI} {g g1 : TG} {own : List (Str × Nat)} {vs1 : List Nat} (hn : F.N.Nodup) (pi : PIf F tg iter wi) (ok : BlkOk F.N F.sc scope own) (hv : ∀ i ∈ vs1, i ∈ own.map (·.2)) (pg : PGf (F.blk scope) tg g) (pg1 : PGf (F.blk scope) tg1 g1) (hs : ∀ env x, foldedSetIterable iter env x = pure x) (hs1 : ∀ env x, foldedSetIterable iter1 env x = pure x) :
    PEf F (.ListComp elt [⟨tg, iter, [], 0⟩, ⟨tg1, iter1, [c], 0⟩] scope pos) (tLc2 wi g (ttsA (F.blk scope) []) (wiA (F.blk scope) tg1 iter1) g1 (ttsA (F.blk scope) [c]) (teA (F.blk scope) elt) (own.map (·.2)) vs1) := fun j => by
  refine pe_lc2 (F.hc j) (by rw [F.hN]; exact hn) (pi j) (by rw [F.hN, F.hsc]; exact ok) hv (fun s H C cl fp => ?_) (fun s H C cl fp => ?_) (fun s H C cl fp => ?_) (fun s H C cl fp => ?_) (fun s H C cl fp => ?_) (fun s H C cl fp => ?_) (hs _) hs1
  · exact pg (j, s, H, C, cl, fp)
  · exact pts_any (F.blk scope) [] (j, s, H, C, cl, fp)
  · exact pi_any (F.blk scope) tg1 iter1 (j, s, H, C, cl, fp)
  · exact pg1 (j, s, H, C, cl, fp)
  · exact pts_any (F.blk scope) [c] (j, s, H, C, cl, fp)
  · exact pe_any (F.blk scope) elt (j, s, H, C, cl, fp)
/-- the frame's slots stand as L1 tells through both loops -/
theorem fd_lc2 {own : List (Str × Nat)} {T T1 : List Nat} {ok ok1 : PyData → Prop} {u u1 : PyData → List Sl → List Sl} (vs1 : List Nat) (its2 : PyData → List PyData) (t : PyData → PyData → Bool) (f : PyData → PyData → PyData) (hi : ItD F tg iter L its L1) (hb : BlkOk F.N F.sc scope own) (ht : TgD (F.blk scope) tg T ok u) (ht1 : TgD (F.blk scope) tg1 T1 ok1 u1)
    (hT : ∀ k ∈ T, k ∈ own.map (·.2)) (hT1 : ∀ k ∈ T1, k ∈ vs1) (hv : ∀ k ∈ vs1, k ∈ own.map (·.2)) (hd : ∀ k ∈ T, k ∉ vs1) (hM : L1.length = F.N.length) (hno : AllNo (own.map (·.2)) L1)
    (he : ∀ d, d ∈ its → ok d ∧ ItD (F.blk scope) tg1 iter1 (u d L1) (its2 d) (u d L1) ∧ ∀ d2, d2 ∈ its2 d → ok1 d2 ∧ BD (F.blk scope) c (u1 d2 (u d L1)) (t d d2) (u1 d2 (u d L1)) ∧ (t d d2 = true → ED (F.blk scope) elt (u1 d2 (u d L1)) (f d d2) (u1 d2 (u d L1))))
    (hlen : (its.flatMap fun d => its2 d).length ≤ 100000) (hn : F.N.Nodup := by exact of_decide_eq_true rfl) (hs : ∀ env x, foldedSetIterable iter env x = pure x := by intro _ _; rfl) (hs1 : ∀ env x, foldedSetIterable iter1 env x = pure x := by intro _ _; rfl) :
    FD F (.ListComp elt [⟨tg, iter, [], 0⟩, ⟨tg1, iter1, [c], 0⟩] scope pos) L (its.flatMap fun d => ((its2 d).filter (t d)).map (f d)) L1 := by
  obtain ⟨wi, pi, runI⟩ := hi
  obtain ⟨⟨g, pg, runG⟩, out, nown, ulen⟩ := ht
  obtain ⟨⟨g1, pg1, runG1⟩, out1, nown1, ulen1⟩ := ht1
  refine ⟨_, lc2_any hn pi hb hv pg pg1 hs hs1, fun σ G0 H0 S0 Q q => runI σ G0 H0 S0 _ fun J G1 H1 S1 T1' RJ => fun Dl hD => ?_⟩
  have hDG : G1 Dl = none := S1.gn hD
  have no0 : ∀ k ∈ own.map (·.2), ∀ t, L1[k]? = some t → t = .no := hno.at
  have acc_lt : ∀ {n : Nat}, n ≤ 100000 → n < sizeLine := fun h => Nat.lt_of_lt_of_le (by omega : _ < 200000) (by decide)
  let R : Nat → List PyData := fun i => (its.take i).flatMap fun d => ((its2 d).filter (t d)).map (f d)
  refine ⟨fun i k H => k = its.length - i ∧ i ≤ its.length ∧ ∃ G acc, Sta L1 σ G H ∧ Te L1 σ G1 H1 L1 G H ∧ H Dl = some (.lst acc) ∧ G Dl = none ∧ RpA G acc (R i) ∧ ¬ Own L1 σ Dl, ⟨its.length, by simp, Nat.zero_le _, G1, [], ?_⟩, ?_⟩
  · obtain ⟨S2, T2⟩ := S1.new (o := .lst []) hD
    exact ⟨S2, T2, upd_same, hDG, .nil, S1.own_ne hD⟩
  rintro i k H ⟨rfl, him, G, acc, S, T0, hDl, hGD, racc, nO⟩
  obtain ⟨stop, go⟩ := RJ i G H T0.g S.gh
  by_cases h : i < its.length
  case neg =>
    obtain rfl : i = its.length := by omega
    have e : R its.length = its.flatMap fun d => ((its2 d).filter (t d)).map (f d) := by
      show (its.take its.length).flatMap _ = _
      rw [List.take_length]
    rw [e] at racc
    exact .inl ⟨stop (Nat.le_refl _), q Dl acc G H S (T1'.trans T0) (T1'.back hD) hDl hGD racc⟩
  obtain ⟨hg, hy⟩ := go its[i] (List.getElem?_eq_getElem h)
  obtain ⟨okd, ⟨wi2, pi2, runI2⟩, inner⟩ := he its[i] (List.getElem_mem h)
  obtain ⟨dd, hdd⟩ : ∃ dd, dd = its[i] := ⟨_, rfl⟩
  have eR : R (i + 1) = R i ++ ((its2 dd).filter (t dd)).map (f dd) := by
    show (its.take (i + 1)).flatMap _ = _
    rw [List.take_succ, List.getElem?_eq_getElem h, List.flatMap_append, hdd]
    simp [R]
  have lenR : (R i).length + (its2 dd).length ≤ 100000 := by
    have e1 : (its.flatMap fun d => its2 d) = (its.take i).flatMap (fun d => its2 d) ++ (its2 dd ++ (its.drop (i + 1)).flatMap fun d => its2 d) := by
      conv => lhs; rw [← List.take_append_drop i its, List.drop_eq_getElem_cons h]
      rw [List.flatMap_append, List.flatMap_cons, hdd]
    have e2 : (R i).length ≤ ((its.take i).flatMap fun d => its2 d).length := by
      show ((its.take i).flatMap _).length ≤ _
      generalize its.take i = l
      induction l with
      | nil => exact Nat.le_refl _
      | cons a l ih =>
        rw [List.flatMap_cons, List.flatMap_cons, List.length_append, List.length_append, List.length_map]
        have := List.length_filter_le (t a) (its2 a)
        omega
    rw [e1, List.length_append, List.length_append] at hlen
    omega
  rw [← hdd] at hy okd runI2 inner
  refine .inr ⟨hg, fun H' => i + 1 ≤ its.length ∧ ∃ G acc, Sta L1 σ G H' ∧ Te L1 σ G1 H1 L1 G H' ∧ H' Dl = some (.lst acc) ∧ G Dl = none ∧ RpA G acc (R (i + 1)) ∧ ¬ Own L1 σ Dl,
    fun H' ⟨l1, w⟩ => ⟨its.length - (i + 1), by omega, rfl, l1, w⟩, fun x H' hx => ?_⟩
  obtain ⟨G2, S2, T2, r2⟩ := yielded S (hy x H' hx)
  refine runG _ okd _ _ _ _ _ (by show _ = F.N.length; exact hM) (wipeSta no0 S2) r2 _ fun σ3 S3 T3 A3 => ?_
  have l3 : σ3.length = σ.length := by rw [S3.ln, ulen _ _ okd, ← S2.ln]
  have agree : ∀ k, k ∉ own.map (·.2) → σ3[k]? = σ[k]? := fun k hk => by
    have := A3 k fun hkT => hk (hT k hkT)
    rw [wipe_get, if_neg hk] at this
    exact this
  have weq : wipe σ3 (own.map (·.2)) = wipe σ (own.map (·.2)) := wipe_eq (fun k hk => by rw [wipe_get, if_neg hk]; exact agree k hk) l3
  refine ⟨weq, ?_⟩
  have nw0 : ∀ k ∈ own.map (·.2), ∀ ds, (u dd L1)[k]? ≠ some (Sl.ow ds) := fun k hk ds e => by
    by_cases hkT : k ∈ T
    · exact nown _ _ k ds okd hkT e
    · rw [out _ _ k okd hkT] at e
      cases no0 k hk _ e
  have B0 : Blk L1 (u dd L1) (own.map (·.2)) σ σ3 := ⟨no0, fun k hk => out _ _ k okd fun hkT => hk (hT k hkT), nw0, agree, S2.ln.symm⟩
  have no1 : ∀ k ∈ vs1, ∀ t, (u dd L1)[k]? = some t → t = .no := fun k hk t' e => by
    rw [out _ _ k okd fun hkT => hd k hkT hk] at e
    exact no0 k (hv k hk) t' e
  have nO3 : ¬ Own (u dd L1) σ3 Dl := fun w => nO (B0.own.mp w)
  have hD2 := T2.fr Dl _ hDl hGD nO pl_lst
  refine IfsD.run (k := true) .nil S3 _ fun G4 H4 S4 T4 => iteT ⟨wi2, pi2, runI2 σ3 G4 H4 S4 _ fun J1 G5 H5 S5 T5 RJ1 => ?_⟩
  have hD4 := T4.fr Dl _ hD2.1 hD2.2 nO3 pl_lst
  have hD5 := T5.fr Dl _ hD4.1 hD4.2 nO3 pl_lst
  let R2 : Nat → List PyData := fun j => (((its2 dd).take j).filter (t dd)).map (f dd)
  refine ⟨fun j k H => k = (its2 dd).length - j ∧ j ≤ (its2 dd).length ∧ ∃ G acc, Same G5 G ∧ Sta (u dd L1) σ3 G H ∧ Te L1 σ G1 H1 L1 G H ∧ H Dl = some (.lst acc) ∧ G Dl = none ∧ RpA G acc (R i ++ R2 j), ⟨(its2 dd).length, by simp, Nat.zero_le _, G5, acc, Same.refl _, S5, (T0.trans T2).trans (B0.te (T4.trans T5)), hD5.1, hD5.2, ?_⟩, ?_⟩
  · have e : R i ++ R2 0 = R i := List.append_nil _
    rw [e]
    exact racc.up ((T2.g.trans T4.g).trans T5.g)
  rintro j k H ⟨rfl, hjm, G6, acc6, g56, S6, T6, hD6, gD6, racc6⟩
  obtain ⟨stop1, go1⟩ := RJ1 j G6 H g56 S6.gh
  by_cases hj : j < (its2 dd).length
  case neg =>
    obtain rfl : j = (its2 dd).length := by omega
    refine .inl ⟨stop1 (Nat.le_refl _), by omega, G6, acc6, B0.back S6, T6, hD6, gD6, ?_, nO⟩
    · have e : R2 (its2 dd).length = ((its2 dd).filter (t dd)).map (f dd) := by
        show (((its2 dd).take (its2 dd).length).filter _).map _ = _
        rw [List.take_length]
      rw [eR, ← e]
      exact racc6
  obtain ⟨hg1, hy1⟩ := go1 (its2 dd)[j] (List.getElem?_eq_getElem hj)
  obtain ⟨okd1, bd, ed⟩ := inner (its2 dd)[j] (List.getElem_mem hj)
  obtain ⟨d2, hd2⟩ : ∃ d2, d2 = (its2 dd)[j] := ⟨_, rfl⟩
  have eR2 : R2 (j + 1) = R2 j ++ if t dd d2 = true then [f dd d2] else [] := by
    show (((its2 dd).take (j + 1)).filter _).map _ = _
    rw [List.take_succ, List.getElem?_eq_getElem hj, List.filter_append, List.map_append, ← hd2]
    congr 1
    cases ht2 : t dd d2 <;> simp [ht2]
  rw [← hd2] at hy1 okd1 bd ed
  have l6 : acc6.length ≤ 100000 := by
    rw [racc6.len, List.length_append]
    have : (R2 j).length ≤ (its2 dd).length := by
      show ((((its2 dd).take j).filter _).map _).length ≤ _
      rw [List.length_map]
      have h1 := List.length_filter_le (t dd) ((its2 dd).take j)
      rw [List.length_take] at h1
      omega
    omega
  refine .inr ⟨hg1, fun H' => j + 1 ≤ (its2 dd).length ∧ ∃ G acc, Same G5 G ∧ Sta (u dd L1) σ3 G H' ∧ Te L1 σ G1 H1 L1 G H' ∧ H' Dl = some (.lst acc) ∧ G Dl = none ∧ RpA G acc (R i ++ R2 (j + 1)),
    fun H' ⟨l1, w⟩ => ⟨(its2 dd).length - (j + 1), by omega, rfl, l1, w⟩, fun x1 H7 hx1 => ?_⟩
  obtain ⟨G7, S7, T7, r7⟩ := yielded S6 (hy1 x1 H7 hx1)
  refine runG1 _ okd1 _ _ _ _ _ (by show _ = F.N.length; rw [ulen _ _ okd]; exact hM) (wipeSta no1 S7) r7 _ fun σ4 S8 T8 A8 => ?_
  have agree1 : ∀ k, k ∉ vs1 → σ4[k]? = σ3[k]? := fun k hk => by
    have := A8 k fun hkT => hk (hT1 k hkT)
    rw [wipe_get, if_neg hk] at this
    exact this
  have l4 : σ4.length = σ3.length := by rw [S8.ln, ulen1 _ _ okd1, ← S7.ln]
  have weq1 : wipe σ4 vs1 = wipe σ3 vs1 := wipe_eq (fun k hk => by rw [wipe_get, if_neg hk]; exact agree1 k hk) l4
  refine ⟨weq1, ?_⟩
  have nw1 : ∀ k ∈ vs1, ∀ ds, (u1 d2 (u dd L1))[k]? ≠ some (Sl.ow ds) := fun k hk ds e => by
    by_cases hkT : k ∈ T1
    · exact nown1 _ _ k ds okd1 hkT e
    · rw [out1 _ _ k okd1 hkT] at e
      cases no1 k hk _ e
  have B1 : Blk (u dd L1) (u1 d2 (u dd L1)) vs1 σ3 σ4 := ⟨no1, fun k hk => out1 _ _ k okd1 fun hkT => hk (hT1 k hkT), nw1, agree1, S7.ln.symm⟩
  have nO8 : ¬ Own (u1 d2 (u dd L1)) σ4 Dl := fun w => nO3 (B1.own.mp w)
  have hD7 := T7.fr Dl _ hD6 gD6 nO3 pl_lst
  refine IfsD.run (.one bd) S8 _ fun G9 H9 S9 T9 => ?_
  have hD9 := T9.fr Dl _ hD7.1 hD7.2 nO8 pl_lst
  cases htk : t dd d2 with
  | false =>
    refine iteF ⟨by omega, G9, acc6, (g56.trans T7.g).trans T9.g, B1.back S9, T6.trans (B0.te (T7.trans (B1.te T9))), hD9.1, hD9.2, ?_⟩
    rw [eR2, htk]
    simp only [Bool.false_eq_true, if_false, List.append_nil]
    exact racc6.up (T7.g.trans T9.g)
  | true =>
    obtain ⟨te, pe, run⟩ := ed htk
    refine iteT ⟨te, pe, run σ4 G9 H9 S9 _ fun v GA HA SA TA rA => ?_⟩
    have hDA := TA.fr Dl _ hD9.1 hD9.2 nO8 pl_lst
    have SB := B1.back SA
    have TB := T6.trans (B0.te (T7.trans (B1.te (T9.trans TA))))
    refine ⟨acc6, hDA.1, acc_lt l6, by omega, GA, acc6 ++ [v], ((g56.trans T7.g).trans T9.g).trans TA.g, ?_, ?_, upd_same, hDA.2, ?_⟩
    · refine ⟨fun b o hb => ?_, SB.ln, fun k x t e1 e2 => ?_, SB.di⟩
      · rw [upd_ne]
        · exact SB.gh b o hb
        · rintro rfl
          rw [hDA.2] at hb
          cases hb
      · have qs := SB.sl k x t e1 e2
        cases t with
        | no => exact qs
        | va d => exact qs
        | ow us =>
          obtain ⟨a, ys, e, q1, q2, q3⟩ := qs
          subst e
          refine ⟨a, ys, rfl, ?_, q2, q3⟩
          rw [upd_ne]
          · exact q1
          · rintro rfl
            exact nO3 ⟨k, us, e2, e1⟩
        | tb => exact Thr.tabs (.put hDA.1) qs
        | fn f G1 => exact qs
    · refine ⟨TB.g, fun b o hb gb nb nt => ?_, TB.ow, TB.th.trans (.put hDA.1)⟩
      obtain ⟨q1, q2⟩ := TB.fr b o hb gb nb nt
      refine ⟨?_, q2⟩
      rw [upd_ne (ne_of_none hb hD)]
      exact q1
    · rw [eR2, htk]
      simp only [if_true]
      rw [← List.append_assoc]
      exact (racc6.up ((T7.g.trans T9.g).trans TA.g)).app (.one rA)
end
end DL
namespace DL
open PySem PyProof.Rows L2
variable [TabL]
section
variable {z : List Nat} {F : Fam} {e e1 e2 a b c tg iter elt : Expr} {L L1 L2' L' L3 : List Sl} {d d1 d2 : PyData} {ds its rs : List PyData} {x : Str} {pos p : Pos} {σ σ' : L2.St} {G H G' H' : Hp}
/-! ### dicts of whole numbers -/
def kvD (kvs : List (Int × Int)) : List (PyData × PyData) := kvs.map fun q => (PyData.int q.1, PyData.int q.2)
def kvV (kvs : List (Int × Int)) : List (Key × V) := kvs.map fun q => (Sum.inl q.1, V.int q.2)
def kvT (q : Int × Int) : PyData := .tuple [.int q.1, .int q.2]
theorem merge_new : ∀ (more done : List (Int × Int)), ((done ++ more).map (·.1)).Nodup → mergeK (kvV done) (kvV more) = kvV (done ++ more)
  | [], done, _ => by
    rw [List.append_nil]
    rfl
  | q :: more, done, h => by
    have e : putK (kvV done) (Sum.inl q.1) (V.int q.2) = kvV (done ++ [q]) := by
      unfold putK
      rw [if_neg]
      · unfold kvV
        rw [List.map_append]
        rfl
      · intro hh
        obtain ⟨w, hw, e⟩ := List.any_eq_true.mp hh
        obtain ⟨u, hu, rfl⟩ := List.mem_map.mp hw
        have e2 : u.1 = q.1 := by
          have := of_decide_eq_true e
          exact Sum.inl.inj this
        rw [List.map_append, List.map_cons, List.nodup_append] at h
        exact h.2.2 u.1 (List.mem_map_of_mem hu) q.1 (List.mem_cons_self ..) e2
    have ih := merge_new more (done ++ [q]) (by rw [List.append_assoc]; exact h)
    rw [List.append_assoc] at ih
    show mergeK (putK (kvV done) (Sum.inl q.1) (V.int q.2)) (kvV more) = _
    rw [e]
    exact ih
theorem pairsP {K : PySem.W.Frag} {H : Hp} : ∀ {kvs : List (Int × Int)} {xs : List V}, RpA H xs (kvs.map kvT) → ∃ ps : List Addr, xs = ps.map V.ref ∧ Paired (fun p (kv : Key × V) => SqT K H p [kV kv.1, kv.2]) ps (kvV kvs)
  | [], _, .nil => ⟨[], rfl, .nil⟩
  | q :: kvs, _, .cons r t => by
    obtain ⟨ps, e, pr⟩ := pairsP (K := K) t
    cases r with
    | @tup a ys _ h1 h2 =>
      refine ⟨a :: ps, by rw [e]; rfl, .cons ?_ pr⟩
      cases h2 with
      | cons r1 t1 =>
        cases r1
        cases t1 with
        | cons r2 t2 =>
          cases r2
          cases t2
          exact SqT.of h1
theorem dictf (F : Fam) (j : F.J) : CallR (F.x j) (.type "dict") (fun xs H Q => ∃ (a : Addr) (ps : List Addr) (kvs : List (Key × V)), xs = [.ref a] ∧ SqL F.K H a (ps.map V.ref) ∧ Paired (fun p kv => SqT F.K H p [kV kv.1, kv.2]) ps kvs ∧
    ∀ p, H p = none → Q (.ref p) (upd H p (.dK (mergeK [] kvs)))) := by
  rw [← F.hK j]
  exact call_dictP (F.hc j)
theorem ed_dict {kvs : List (Int × Int)} (h : ED F e L (.list (kvs.map kvT)) L') (nd : (kvs.map (·.1)).Nodup) (hm : F.mg "dict" = none) (hg : GlF F "dict" := by rfl) (hs : ∀ env, starEach [e] env = (false, eval e env) :: starEach [] env := by intro _; rfl) : ED F (.Call (.Name "dict" p) [e] [] pos) L (.dict (kvD kvs)) L' := by
  obtain ⟨te, pe, run⟩ := h
  refine ⟨_, ty_any (dictf F) hg hm (by decide +kernel) (pa1 pe hs) (by decide) (by decide) hs (fun _ => rfl), fun σ G H S Q q => run σ G H S _ fun v G' H' S' T r => ?_⟩
  cases r with
  | @lst a xs _ h1 h2 =>
    obtain ⟨ps, e, pr⟩ := pairsP (K := F.K) (h2.up S'.gh)
    refine ⟨a, ps, kvV kvs, rfl, SqL.of (by rw [S'.gh _ _ h1, e]), pr, fun p0 hp => ?_⟩
    have em := merge_new kvs [] nd
    rw [List.nil_append] at em
    rw [show mergeK [] (kvV kvs) = kvV kvs from em]
    obtain ⟨S2, T2⟩ := S'.newG (o := .dK (kvV kvs)) hp
    exact q _ _ _ S2 (T.trans T2) (.dct kvs upd_same)
theorem valV_get {kvs : List (Int × Int)} {k v : Int} (nd : (kvs.map (·.1)).Nodup) (h : (k, v) ∈ kvs) : valV (kvV kvs) (Sum.inl k) = some (V.int v) := by
  induction kvs with
  | nil => cases h
  | cons q kvs ih =>
    rw [List.map_cons, List.nodup_cons] at nd
    rcases List.mem_cons.mp h with h | h
    · subst h
      unfold valV kvV
      simp
    · have hne : q.1 ≠ k := fun e => nd.1 (by rw [e]; exact List.mem_map_of_mem (f := fun x : Int × Int => x.1) h)
      have := ih nd.2 h
      unfold valV kvV at this ⊢
      rw [List.map_cons, List.find?_cons]
      have : decide ((Sum.inl q.1 : Key) = Sum.inl k) = false := by
        rw [decide_eq_false]
        intro e
        exact hne (Sum.inl.inj e)
      rw [this]
      assumption
theorem kvD_inj : ∀ {a b : List (Int × Int)}, kvD a = kvD b → a = b
  | [], [], _ => rfl
  | [], _ :: _, h => by cases h
  | _ :: _, [], h => by cases h
  | q2 :: l2, q :: l, h2 => by
    unfold kvD at h2
    rw [List.map_cons, List.map_cons, List.cons.injEq, Prod.mk.injEq] at h2
    obtain ⟨⟨h3, h4⟩, h5⟩ := h2
    have e1 : q2 = q := Prod.ext (PyData.int.inj h3) (PyData.int.inj h4)
    rw [e1, kvD_inj (a := l2) (b := l) h5]
theorem ed_ixD {kvs : List (Int × Int)} {k v : Int} (ha : ED F a L (.dict (kvD kvs)) L1) (hb : ED F b L1 (.int k) L') (nd : (kvs.map (·.1)).Nodup) (h : (k, v) ∈ kvs) (hs : NoSl b := by exact fun _ _ => rfl) : ED F (.Subscript a b pos) L (.int v) L' := by
  obtain ⟨ta, pa, ra⟩ := ha
  obtain ⟨tb, pb, rb⟩ := hb
  refine ⟨_, fun j => pe_dget (by have := (F.hr j).un; omega) (pa j) (pb j) hs, fun σ G H S Q q => ra σ G H S _ fun x G1 H1 S1 T1 r1 => rb σ G1 H1 S1 _ fun y G2 H2 S2 T2 r2 => ?_⟩
  cases r2
  generalize hd : PyData.dict (kvD kvs) = dd at r1
  cases r1 with
  | @dct a0 kvs2 h1 =>
    have e : kvs2 = kvs := kvD_inj (PyData.dict.inj hd).symm
    rw [e] at h1
    refine ⟨a0, V.int v, rfl, ?_, q _ _ _ S2 (T1.trans T2) (.int v)⟩
    have := DGet.k (k := Sum.inl k) (S2.gh _ _ (T2.g _ _ h1))
    rw [show valV (kvs.map fun q => ((Sum.inl q.1 : Key), V.int q.2)) (Sum.inl k) = some (V.int v) from valV_get nd h] at this
    exact this
  | dcs kvs2 h1 =>
    cases kvs with
    | nil => cases h
    | cons q l =>
      have h2 := PyData.dict.inj hd
      cases kvs2 with
      | nil => simp [kvD] at h2
      | cons q2 l2 => simp [kvD] at h2
  | dks kvs2 h1 =>
    cases kvs with
    | nil => cases h
    | cons q l =>
      have h2 := PyData.dict.inj hd
      cases kvs2 with
      | nil => simp [kvD] at h2
      | cons q2 l2 => simp [kvD] at h2
  | exc =>
    cases kvs with
    | nil => cases hd
    | cons q l =>
      have h2 := PyData.dict.inj hd
      simp [kvD] at h2
  | _ => cases hd
end
end DL
namespace DL
open PySem PyProof.Rows L2
variable [TabL]

/-! ### from a context that lets nothing out to one that does -/
section
variable {X : Cx}
theorem pg_nox {e : Expr} {t : TG} (h : PG X.nox e t) : PG X e t := ⟨fun pins s σ H v u Q I r hw =>
  wpAny_mono (h.run pins s σ H v u Q (I.wish _) r hw) (fun _ _ ⟨σ', H', I', q⟩ => ⟨σ', H', I'.unwish, q⟩) fun _ _ z => False.elim z⟩
theorem pi_nox {tg e : Expr} {wi : TI} (h : PI X.nox tg e wi) : PI X tg e wi := ⟨fun pins s σ H R I hw =>
  wpAny_mono (h.run pins s σ H R (I.wish _) hw) (fun _ _ z => wpAny_mono z (fun _ _ ⟨it, fp, tn, J, H', e, I', T, t0, f, r⟩ => ⟨it, fp, tn, J, H', e, I'.unwish, T, t0, fun b hb => f b hb, r⟩) fun _ _ z => False.elim z) fun _ _ z => False.elim z⟩
theorem ps_nox {st : Stmt} {t : TS} (h : PS X.nox st t) : PS X st t := ⟨fun pins s σ H D I hw =>
  wpAny_mono (h.run pins s σ H D (I.wish _) hw) (fun _ _ q => q.unwish) fun _ _ z => False.elim z⟩
theorem pa_nox {es : List Expr} {t : TA} (h : PA X.nox es t) : PA X es t := ⟨fun pos pins s σ H Q I hw =>
  wpAny_mono (h.run pos pins s σ H Q (I.wish _) hw) (fun _ _ ⟨vs, H', I', r, q⟩ => ⟨vs, H', I'.unwish, r, q⟩) fun _ _ z => False.elim z⟩
theorem pk_nox {es : List Keyword} {t : TA} (h : PK X.nox es t) : PK X es t := ⟨fun pos pins s σ H Q I hw =>
  wpAny_mono (h.run pos pins s σ H Q (I.wish _) hw) (fun _ _ ⟨vs, H', I', r, q⟩ => ⟨vs, H', I'.unwish, r, q⟩) fun _ _ z => False.elim z⟩
theorem pss_no (X : Cx) (b : List Stmt) : PSs X b (fun _ _ _ => False) := ⟨fun _ _ _ _ _ _ h => h.elim⟩
theorem ps_no (X : Cx) (b : Stmt) : PS X b (fun _ _ _ => False) := ⟨fun _ _ _ _ _ _ h => h.elim⟩
theorem pg_no (X : Cx) (e : Expr) : PG X e (fun _ _ _ _ => False) := ⟨fun _ _ _ _ _ _ _ _ _ h => h.elim⟩
end

/-! ### what is raised -/
/-- the class stands at C; the error's field f holds d -/
structure Er where
  C : Addr
  f : Str
  d : PyData
def ErOk (G : Hp) (er : Er) (cls : Value) (dd : Option Addr) : Prop := cls = .ref er.C ∧ ∃ a v, dd = some a ∧ G a = some (.xd [(er.f, v)]) ∧ Rp G v er.d
theorem ErOk.up {G G' : Hp} {er : Er} {cls : Value} {dd : Option Addr} (h : ErOk G er cls dd) (e : Same G G') : ErOk G' er cls dd := by
  obtain ⟨h1, a, v, h2, h3, h4⟩ := h
  exact ⟨h1, a, v, h2, e _ _ h3, h4.up e⟩
/-- a def that raises -/
def spE (Φ : List PyData → Er → Prop) : Sp := fun vs H _ E => ∃ ds er G, Φ ds er ∧ Same G H ∧ RpA G vs ds ∧ ∀ cls dd G' H', Aft N0 G H G' H' → ErOk G' er cls dd → E cls dd H'

/-- a def's promise with its raising, where no repr is under way -/
structure FnE (P : Program) (w : World) (K : PySem.W.Frag) (mg : Str → Option Value) (base : Heap) (k : Nat) (f : Addr) (fd : FuncData) (ps : List Str) (sp : Sp) : Prop where
  len : ∀ vs H Q E, sp vs H Q E → vs.length = ps.length
  go : ∀ (A : Around) (outer : List Env) (s : Shared) (H : Hp) (args : Args) (us : List Value) (vs : List V) (Q : VK) (E : XK), A.guards = some [] → Room k A → Env0 P w K mg base A outer s H → BindsTo s fd args (ps.zip us) → Vals vs us → sp vs H Q E →
    codeAny (model P w) A (.call (.ref f) args) (CR (L2.CX P w) outer P w H s Q E) s
section
variable {P : Program} {w : World} {K : PySem.W.Frag} {mg : Str → Option Value} {base : Heap} {j k : Nat} {f : Addr} {fd : FuncData} {ps : List Str} {sp : Sp}
theorem FnE.up (h : FnE P w K mg base j f fd ps sp) (le : j ≤ k) : FnE P w K mg base k f fd ps sp :=
  ⟨h.len, fun A outer s H args us vs Q E g r => h.go A outer s H args us vs Q E g (r.mono le)⟩
end
theorem runE {X : Cx} {W : WX} {k : Nat} {f : Addr} {fd : FuncData} {ps : List Str} {sp : Sp} {pins : List (Addr × Obj)} {σ : L2.St} {H : Hp} {s : Shared} {Q : VK} {us ws : List Value} {kw : List (Str × Value)} {vs : List V}
    (Fn : FnE X.prog X.w X.K X.mg X.base k f fd ps sp) (tk : Takes X W) (hg : X.A.guards = some []) (hr : Room k X.A) (I : Inv X pins σ H s) (hb : BindsTo s fd ⟨us, kw⟩ (ps.zip ws)) (r : Vals vs ws) (h : sp vs H Q (WE W σ)) :
    wpAny (model X.prog X.w) X.A (call (.ref f) us kw) (EP X pins σ Q) X.xe s := by
  have c := Fn.go X.A X.stack s H ⟨us, kw⟩ ws vs Q (WE W σ) hg hr I.env0 hb r h
  refine wpAny_call (codeAny_mono c fun res t ht => ?_)
  match res, ht with
  | .ok (.ret u), ht => exact I.after ht
  | .ok .next, ht => exact ht.elim
  | .ok .brk, ht => exact ht.elim
  | .ok .cont, ht => exact ht.elim
  | .error e, ht => exact passAt tk σ pins H s e t I ht
/-- a def by its body -/
theorem fnE_of {P : Program} {w : World} {K : PySem.W.Frag} {mg : Str → Option Value} {base : Heap} {k : Nat} {f : Addr} {fname qual : Str} {params : Arguments} {body : List Stmt} {scope : Scope} {dV kV doc pm cdv ct oc : Value} {an od : Option Addr} {osl : Array (Option Value)} {N ps : List Str} {sp : Sp}
    (lk : K.lookup f = some ⟨oc, od, .func (PySem.W.fnOf fname qual params body scope dV kV doc pm an cdv ct), osl⟩) (hcd : PySem.W.codeIn K cdv qual = true) (S : FnScope N ps scope) (len : ∀ vs H Q E, sp vs H Q E → vs.length = ps.length)
    (hbody : ∀ (A : Around) (outer : List Env) (s : Shared) (H : Hp) (vs : List V) (Q : VK) (E : XK), A.guards = some [] → Room k (A.deeper (PyProof.Rows.envOfC qual scope s.heap.objs.size f cdv)) → sp vs H Q E →
      ∃ t, PSs (cxOf (L2.CX P w) P w K mg base N qual scope f cdv A outer s H E) body t ∧ t { nx := fun _ H' => Q .non H', rt := Q } (start N vs) H) :
    FnE P w K mg base (k + 1) f (PySem.W.fnOf fname qual params body scope dV kV doc pm an cdv ct) ps sp := by
  constructor
  · exact len
  intro A outer s H args us vs Q E hg hr e0 hb r hsp
  have bk : ∀ b o, base.get? b = some o → s.heap.get? b = some o := fun b o e => (e0.bs b o e).1
  have inK := e0.mod.kin.keeps bk
  have kinds : ∀ y ∈ ps.zip us, scope.names.lookup y.1 = some .local ∨ (scope.names.lookup y.1 = some .cell ∧ ((cellsFrom (s.heap.objs.size + 1) scope.names []).lookup y.1).isSome = true) := by
    rintro ⟨n, v⟩ hy
    have hn := (List.of_mem_zip hy).1
    cases S.par n hn with
    | inl q => exact .inl q
    | inr q => exact .inr ⟨q, PySem.W.cellsFrom_some _ _ _ (.inl q)⟩
  apply codeAny_call_function hr.depth (inK _ _ lk) rfl S.co S.gen rfl (PySem.W.codeRec_of inK hcd)
  apply hb
  apply wpAny_newFunctionEnv_cells S.kind kinds
  rintro env rfl s1 x
  refine ⟨(e0.mod.nolimit.keeps bk).keeps x.toInCall.keep, codeAny_func ?_⟩
  obtain ⟨t, ht, hq⟩ := hbody A outer s H vs Q E hg (hr.deeper _) hsp
  have I := inv_start (CX := L2.CX P w) (P := P) (N := N) (qual := qual) (f := f) (cd := cdv) (E := E) S hr.hd e0 (len _ _ _ _ hsp) r x
  have run := ht.run [] s1 (start N vs) H _ I hq
  refine wpAny_mono run (fun fl t2 h2 => ?_) fun e t2 h2 => h2
  match fl, h2 with
  | .ret u, ⟨v, σ2, H2, J, rv, q⟩ => exact ⟨v, H2, J.os, J.bare, J.base, J.hok, rv, q⟩
  | .next, ⟨σ2, H2, J, q⟩ => exact ⟨.non, H2, J.os, J.bare, J.base, J.hok, rfl, q⟩
  | .brk, ⟨_, _, _, q⟩ => exact q.elim
  | .cont, ⟨_, _, _, q⟩ => exact q.elim

/-! ### families that let something out -/
structure FamW where
  F : Fam
  W : F.J → WX
  y : F.J → Cx
  hy : ∀ j, (y j).nox = F.x j
  hst : ∀ j, (y j).stack = (y j).env :: (y j).outer
  hfr : ∀ j, (y j).env.frame = some (y j).env.locals
  hex : ∀ j, (y j).ex = []
  po : ∀ j, PassesOwn (model (y j).prog (y j).w) (y j).A (y j).env (y j).xe
  tk : ∀ j, Takes (y j) (W j)
section
variable {Y : FamW}
theorem FamW.pe {e : Expr} {t : TE} (h : PEf Y.F e t) (j : Y.F.J) : PE (Y.y j) e t := by
  have := h j
  rw [← Y.hy j] at this
  exact this.nox
theorem FamW.pt {e : Expr} {t : TT} (h : PTf Y.F e t) (j : Y.F.J) : PT (Y.y j) e t := by
  have := h j
  rw [← Y.hy j] at this
  exact this.nox
theorem FamW.pa {e : List Expr} {t : TA} (h : PAf Y.F e t) (j : Y.F.J) : PA (Y.y j) e t := by
  have := h j
  rw [← Y.hy j] at this
  exact pa_nox this
theorem FamW.pk {e : List Keyword} {t : TA} (h : ∀ j, PK (Y.F.x j) e t) (j : Y.F.J) : PK (Y.y j) e t := by
  have := h j
  rw [← Y.hy j] at this
  exact pk_nox this
theorem FamW.ps {e : Stmt} {t : TS} (h : PSf Y.F e t) (j : Y.F.J) : PS (Y.y j) e t := by
  have := h j
  rw [← Y.hy j] at this
  exact ps_nox this
theorem FamW.pg {e : Expr} {t : TG} (h : PGf Y.F e t) (j : Y.F.J) : PG (Y.y j) e t := by
  have := h j
  rw [← Y.hy j] at this
  exact pg_nox this
theorem FamW.pi {tg e : Expr} {t : TI} (h : PIf Y.F tg e t) (j : Y.F.J) : PI (Y.y j) tg e t := by
  have := h j
  rw [← Y.hy j] at this
  exact pi_nox this
theorem FamW.hK (j : Y.F.J) : (Y.y j).K = Y.F.K := by
  have := Y.F.hK j
  rw [← Y.hy j] at this
  exact this
theorem FamW.hmg (j : Y.F.J) : (Y.y j).mg = Y.F.mg := by
  have := Y.F.hmg j
  rw [← Y.hy j] at this
  exact this
theorem FamW.hP (j : Y.F.J) : (Y.y j).prog = Y.F.P := by
  have := Y.F.hP j
  rw [← Y.hy j] at this
  exact this
theorem FamW.hw (j : Y.F.J) : (Y.y j).w = Y.F.w := by
  have := Y.F.hw j
  rw [← Y.hy j] at this
  exact this
theorem FamW.hbase (j : Y.F.J) : (Y.y j).base = Y.F.base := by
  have := Y.F.hbase j
  rw [← Y.hy j] at this
  exact this
theorem FamW.hc (j : Y.F.J) : (Y.y j).calm = true := by
  have := Y.F.hc j
  rw [← Y.hy j] at this
  exact this
theorem FamW.hr (j : Y.F.J) : Room Y.F.k (Y.y j).A := by
  have := Y.F.hr j
  rw [← Y.hy j] at this
  exact this
theorem FamW.hg (j : Y.F.J) : (Y.y j).A.guards = some [] := by
  have := Y.F.hg j
  rw [← Y.hy j] at this
  exact this
theorem FamW.gl {x : Str} (h : GlF Y.F x) (j : Y.F.J) : Gl (Y.y j) x := by
  have := h.gl j
  rw [← Y.hy j] at this
  exact this
end

/-! ### judgements: it raises er; L' tells the slots then -/
section
variable (Y : FamW)
def XeD (e : Expr) (L : List Sl) (er : Er) (L' : List Sl) : Prop := ∃ te : Y.F.J → TE, (∀ j, PE (Y.y j) e (te j)) ∧ ∀ j σ G H, Sta L σ G H → ∀ Q : VK, (∀ cls dd G' H', Sta L' σ G' H' → Te L σ G H L' G' H' → ErOk G' er cls dd → Y.W j cls dd σ H') → te j σ H Q
def XD (st : Stmt) (L : List Sl) (er : Er) (L' : List Sl) : Prop := ∃ ts : Y.F.J → TS, (∀ j, PS (Y.y j) st (ts j)) ∧ ∀ j σ G H, Sta L σ G H → ∀ D : Ends, (∀ cls dd σ' G' H', Sta L' σ' G' H' → Ts L σ G H L' σ' G' H' → ErOk G' er cls dd → Y.W j cls dd σ' H') → ts j D σ H
def XsD (b : List Stmt) (L : List Sl) (er : Er) (L' : List Sl) : Prop := ∃ ts : Y.F.J → TS, (∀ j, PSs (Y.y j) b (ts j)) ∧ ∀ j σ G H, Sta L σ G H → ∀ D : Ends, (∀ cls dd σ' G' H', Sta L' σ' G' H' → Ts L σ G H L' σ' G' H' → ErOk G' er cls dd → Y.W j cls dd σ' H') → ts j D σ H
end
section
variable {Y : FamW} {z : List Nat} {e a b c : Expr} {es : List Expr} {s : Stmt} {sts sa sb : List Stmt} {L L1 L2' L' : List Sl} {er : Er} {d : PyData} {ds ds2 : List PyData} {pos p : Pos} {x : Str}
theorem xs_hd (h : XD Y s L er L') : XsD Y (s :: sts) L er L' := by
  obtain ⟨ts, ps, run⟩ := h
  exact ⟨fun j => tSeq (ts j) (fun _ _ _ => False), fun j => pss_cons (ps j) (pss_no _ _), fun j σ G H S D q => run j σ G H S _ q⟩
theorem xs_tl (h : SD z Y.F s L (.nx L1)) (h2 : XsD Y sts L1 er L') : XsD Y (s :: sts) L er L' := by
  obtain ⟨ts, ps, run⟩ := h
  obtain ⟨us, pu, run2⟩ := h2
  refine ⟨fun j => tSeq ts (us j), fun j => pss_cons (Y.ps ps j) (pu j), fun j σ G H S D q => run σ G H S _ fun σ1 G1 H1 S1 T1 _ => ?_⟩
  exact run2 j σ1 G1 H1 S1 D fun cls dd σ' G' H' S' T' r => q cls dd σ' G' H' S' (T1.trans S1.gh T') r
theorem x_if {k : Bool} (h : BD Y.F c L k L1) (h1 : k = true → XsD Y sa L1 er L') (h2 : k = false → XsD Y sb L1 er L') : XD Y (.If c sa sb pos) L er L' := by
  obtain ⟨tc, pc, run⟩ := h
  cases k with
  | true =>
    obtain ⟨ts, ps, run1⟩ := h1 rfl
    refine ⟨fun j => tIfS tc (ts j) (fun _ _ _ => False), fun j => ps_if (Y.pt pc j) (ps j) (pss_no _ _), fun j σ G H S D q => run σ G H S _ fun G1 H1 S1 T1 => ?_⟩
    exact iteT (run1 j σ G1 H1 S1 D fun cls dd σ' G' H' S' T' r => q cls dd σ' G' H' S' (T1.ts.trans S1.gh T') r)
  | false =>
    obtain ⟨ts, ps, run1⟩ := h2 rfl
    refine ⟨fun j => tIfS tc (fun _ _ _ => False) (ts j), fun j => ps_if (Y.pt pc j) (pss_no _ _) (ps j), fun j σ G H S D q => run σ G H S _ fun G1 H1 S1 T1 => ?_⟩
    exact iteF (run1 j σ G1 H1 S1 D fun cls dd σ' G' H' S' T' r => q cls dd σ' G' H' S' (T1.ts.trans S1.gh T') r)
theorem x_expr (h : XeD Y e L er L') (hsw : ∀ env, swapsWith e none pos.line env = pure false := by intro _; rfl) : XD Y (.Expr e pos) L er L' := by
  obtain ⟨te, pe, run⟩ := h
  exact ⟨fun j => tDrop (te j), fun j => ps_expr (pe j) (hsw _), fun j σ G H S D q => run j σ G H S _ fun cls dd G' H' S' T' r => q cls dd σ G' H' S' T'.ts r⟩
theorem x_ret (h : XeD Y e L er L') : XD Y (.Return (some e) pos) L er L' := by
  obtain ⟨te, pe, run⟩ := h
  exact ⟨fun j => tRet (te j), fun j => ps_ret (pe j), fun j σ G H S D q => run j σ G H S _ fun cls dd G' H' S' T' r => q cls dd σ G' H' S' T'.ts r⟩
theorem x_asg {tg : Expr} (h : XeD Y e L er L') (hs : ∀ j, swapsWithSole [tg] e pos.line (Y.y j).env = pure false := by intro _; rfl) (hw : ∀ j, swappedStores [tg] e (Y.y j).env = pure none := by intro _; rfl) (h1 : ∀ env, (assignEach [tg] env).map (·.2) = [assign tg env] := by intro _; rfl) : XD Y (.Assign [tg] e pos) L er L' := by
  obtain ⟨te, pe, run⟩ := h
  exact ⟨fun j => tAsg (te j) (fun _ _ _ _ => False), fun j => ps_asg (pe j) (pg_no _ _) (hs j) (hw j) (h1 _), fun j σ G H S D q => run j σ G H S _ fun cls dd G' H' S' T' r => q cls dd σ G' H' S' T'.ts r⟩
end
end DL
namespace DL
open PySem PyProof.Rows L2
variable [TabL]

/-! ### calls that raise -/
/-- a def that raises, as it may be called by place -/
structure De (P : Program) (w : World) (K : PySem.W.Frag) (mg : Str → Option Value) (base : Heap) (x : Str) (k : Nat) (sp : Sp) : Prop where
  ex : ∃ f fd ps, FnE P w K mg base k f fd ps sp ∧ mg x = some (.ref f) ∧ PySem.W.keepIn K (.ref f) = true ∧ ∀ (s : Shared) (us : List Value), K.In s.heap → us.length = ps.length → BindsTo s fd ⟨us, []⟩ (ps.zip us)
structure Dke (P : Program) (w : World) (K : PySem.W.Frag) (mg : Str → Option Value) (base : Heap) (x : Str) (k : Nat) (n : Nat) (ks : List Str) (g : List Value → List Value) (gV : List V → List V) (gD : List PyData → List PyData) (sp : Sp) : Prop where
  ex : ∃ f fd ps, FnE P w K mg base k f fd ps sp ∧ mg x = some (.ref f) ∧ PySem.W.keepIn K (.ref f) = true ∧ ∀ (s : Shared) (us ws : List Value), K.In s.heap → us.length = n → ws.length = ks.length → BindsTo s fd ⟨us, ks.zip ws⟩ (ps.zip (g (us ++ ws)))
  vals : ∀ (vs : List V) (us : List Value), vs.length = n + ks.length → Vals vs us → Vals (gV vs) (g us)
  data : ∀ (G : Hp) (vs : List V) (ds : List PyData), vs.length = n + ks.length → RpA G vs ds → RpA G (gV vs) (gD ds)
theorem De.mono {P : Program} {w : World} {K : PySem.W.Frag} {mg : Str → Option Value} {base : Heap} {x : Str} {j k : Nat} {sp : Sp} (D : De P w K mg base x j sp) (h : j ≤ k := by exact Nat.le_of_ble_eq_true rfl) : De P w K mg base x k sp := by
  obtain ⟨f, fd, ps, F, q⟩ := D.ex
  exact ⟨f, fd, ps, F.up h, q⟩
theorem Dke.mono {P : Program} {w : World} {K : PySem.W.Frag} {mg : Str → Option Value} {base : Heap} {x : Str} {j k n : Nat} {ks : List Str} {g : List Value → List Value} {gV : List V → List V} {gD : List PyData → List PyData} {sp : Sp} (D : Dke P w K mg base x j n ks g gV gD sp) (h : j ≤ k := by exact Nat.le_of_ble_eq_true rfl) : Dke P w K mg base x k n ks g gV gD sp := by
  obtain ⟨f, fd, ps, F, q⟩ := D.ex
  exact ⟨⟨f, fd, ps, F.up h, q⟩, D.vals, D.data⟩
abbrev FamW.De (Y : FamW) (x : Str) (sp : Sp) : Prop := DL.De Y.F.P Y.F.w Y.F.K Y.F.mg Y.F.base x Y.F.k sp
abbrev FamW.Dke (Y : FamW) (x : Str) (n : Nat) (ks : List Str) (g : List Value → List Value) (gV : List V → List V) (gD : List PyData → List PyData) (sp : Sp) : Prop := DL.Dke Y.F.P Y.F.w Y.F.K Y.F.mg Y.F.base x Y.F.k n ks g gV gD sp

section
variable {Y : FamW} {z : List Nat} {e a b c tg iter : Expr} {es : List Expr} {s : Stmt} {sts sa sb : List Stmt} {L L1 L2' L' : List Sl} {er : Er} {d : PyData} {ds ds2 its : List PyData} {pos p p2 : Pos} {x : Str}
theorem calle_any {sp : Sp} {ta : TA} (D : Y.De x sp) (hg : GlF Y.F x) (pa : PAf Y.F (e :: es) ta) (hdb : (x == ("__debug__" : Str)) = false) (he : ∀ env, starEach (e :: es) env = (false, eval e env) :: starEach es env) (hpl : ∀ env, (backTo pos (starEach es env)).any (·.1) = false) (j : Y.F.J) :
    PE (Y.y j) (.Call (.Name x p) (e :: es) [] pos) (fun σ H Q => ta σ H fun vs H1 => sp vs H1 Q (WE (Y.W j) σ)) := by
  obtain ⟨f, fd, ps, Fn, mf, kp, hb⟩ := D.ex
  have Fj : FnE (Y.y j).prog (Y.y j).w (Y.y j).K (Y.y j).mg (Y.y j).base Y.F.k f fd ps sp := by
    rw [Y.hP, Y.hw, Y.hK, Y.hmg, Y.hbase]
    exact Fn
  refine ⟨fun pins s σ H Q I h => ?_⟩
  refine wpAny_Call_Name_kw (ld_glob I (Y.gl hg j) (by rw [Y.hmg]; exact mf) ?_ hdb)
  refine PySem.W.callWith_K (K := Y.F.K) (h₀ := (Y.y j).base) (by rw [← Y.hK j]; exact I.ok.mod.kin) kp (thn ((Y.pa pa j).run pos pins s σ H _ I h) fun us s1 ⟨vs, H1, I1, r, q⟩ => ?_) (he _) (hpl _)
  have inK : Y.F.K.In s1.heap := by
    rw [← Y.hK j]
    exact I1.kIn
  refine ⟨inK, ?_⟩
  exact runE Fj (Y.tk j) (Y.hg j) (Y.hr j) I1 (hb s1 us inK (by rw [← r.length]; exact Fn.len _ _ _ _ q)) r q
theorem callKe_any {sp : Sp} {ta tk : TA} {n : Nat} {ks : List Str} {g : List Value → List Value} {gV : List V → List V} {gD : List PyData → List PyData} {kws : List Keyword} (D : Y.Dke x n ks g gV gD sp) (hg : GlF Y.F x) (pa : PAf Y.F (e :: es) ta) (pk : ∀ j, PK (Y.F.x j) kws tk) (hdb : (x == ("__debug__" : Str)) = false)
    (he : ∀ env, starEach (e :: es) env = (false, eval e env) :: starEach es env) (hall : ∀ env, (backToKw pos (keywordEach kws env)).all (·.1.isSome) = true) (hks : ∀ env, (backToKw pos (keywordEach kws env)).filterMap (·.1) = ks)
    (hpl : ∀ env, ((backTo pos (starEach (e :: es) env)).any (·.1) || (backToKw pos (keywordEach kws env)).any (·.1.isNone)) = false) (j : Y.F.J) :
    PE (Y.y j) (.Call (.Name x p) (e :: es) kws pos) (fun σ H Q => ta σ H fun vs H1 => tk σ H1 fun zs H2 => vs.length = n ∧ zs.length = ks.length ∧ sp (gV (vs ++ zs)) H2 Q (WE (Y.W j) σ)) := by
  obtain ⟨f, fd, ps, Fn, mf, kp, hb⟩ := D.ex
  have Fj : FnE (Y.y j).prog (Y.y j).w (Y.y j).K (Y.y j).mg (Y.y j).base Y.F.k f fd ps sp := by
    rw [Y.hP, Y.hw, Y.hK, Y.hmg, Y.hbase]
    exact Fn
  refine ⟨fun pins s σ H Q I h => ?_⟩
  refine wpAny_Call_Name_kw (ld_glob I (Y.gl hg j) (by rw [Y.hmg]; exact mf) ?_ hdb)
  refine PySem.W.callWith_KW (K := Y.F.K) (h₀ := (Y.y j).base) (by rw [← Y.hK j]; exact I.ok.mod.kin) kp (hall _) (thn ((Y.pa pa j).run pos pins s σ H _ I h) fun us s1 ⟨vs, H1, I1, r, q⟩ => ?_) (hpl _) (he _)
  refine thn ((Y.pk pk j).run pos pins s1 σ H1 _ I1 q) fun ws s2 ⟨zs, H2, I2, rz, l1, l2, q2⟩ => ?_
  have inK : Y.F.K.In s2.heap := by
    rw [← Y.hK j]
    exact I2.kIn
  refine ⟨inK, ?_⟩
  rw [hks]
  exact runE Fj (Y.tk j) (Y.hg j) (Y.hr j) I2 (hb s2 us ws inK (by rw [← r.length]; exact l1) (by rw [← rz.length]; exact l2)) (D.vals _ _ (by rw [List.length_append, l1, l2]) (r.append rz)) q2
theorem callK0e_any {sp : Sp} {tk : TA} {ks : List Str} {g : List Value → List Value} {gV : List V → List V} {gD : List PyData → List PyData} {kws : List Keyword} (D : Y.Dke x 0 ks g gV gD sp) (hg : GlF Y.F x) (pk : ∀ j, PK (Y.F.x j) kws tk) (hdb : (x == ("__debug__" : Str)) = false)
    (hall : ∀ env, (backToKw pos (keywordEach kws env)).all (·.1.isSome) = true) (hks : ∀ env, (backToKw pos (keywordEach kws env)).filterMap (·.1) = ks)
    (hpl : ∀ env, ((backTo pos (starEach [] env)).any (·.1) || (backToKw pos (keywordEach kws env)).any (·.1.isNone)) = false) (j : Y.F.J) :
    PE (Y.y j) (.Call (.Name x p) [] kws pos) (fun σ H Q => tk σ H fun zs H2 => zs.length = ks.length ∧ sp (gV zs) H2 Q (WE (Y.W j) σ)) := by
  obtain ⟨f, fd, ps, Fn, mf, kp, hb⟩ := D.ex
  have Fj : FnE (Y.y j).prog (Y.y j).w (Y.y j).K (Y.y j).mg (Y.y j).base Y.F.k f fd ps sp := by
    rw [Y.hP, Y.hw, Y.hK, Y.hmg, Y.hbase]
    exact Fn
  refine ⟨fun pins s σ H Q I h => ?_⟩
  refine wpAny_Call_Name_kw (ld_glob I (Y.gl hg j) (by rw [Y.hmg]; exact mf) ?_ hdb)
  refine PySem.W.callWith_KW0 (K := Y.F.K) (h₀ := (Y.y j).base) (by rw [← Y.hK j]; exact I.ok.mod.kin) kp (hall _) (thn ((Y.pk pk j).run pos pins s σ H _ I h) fun ws s2 ⟨zs, H2, I2, rz, l2, q2⟩ => ?_) (hpl _)
  have inK : Y.F.K.In s2.heap := by
    rw [← Y.hK j]
    exact I2.kIn
  refine ⟨inK, ?_⟩
  rw [hks]
  exact runE Fj (Y.tk j) (Y.hg j) (Y.hr j) I2 (hb s2 [] ws inK rfl (by rw [← rz.length]; exact l2)) (D.vals _ _ (by rw [l2]; simp) rz) q2
theorem xe_call {Φ : List PyData → Er → Prop} (D : Y.De x (spE Φ)) (ha : AD Y.F (e :: es) L ds L') (hΦ : Φ ds er) (hg : GlF Y.F x := by rfl) (hdb : (x == ("__debug__" : Str)) = false := by decide)
    (he : ∀ env, starEach (e :: es) env = (false, eval e env) :: starEach es env := by intro _; rfl) (hpl : ∀ env, (backTo pos (starEach es env)).any (·.1) = false := by intro _; rfl) : XeD Y (.Call (.Name x p) (e :: es) [] pos) L er L' := by
  obtain ⟨ta, pa, ra⟩ := ha
  refine ⟨_, fun j => calle_any D hg pa hdb he hpl j, fun j σ G H S Q q => ra σ G H S _ fun vs G1 H1 S1 T1 r1 => ⟨ds, er, G1, hΦ, S1.gh, r1, fun cls dd G' H' A ok => ?_⟩⟩
  obtain ⟨S2, T2⟩ := S1.aft A
  exact q cls dd G' H' S2 (T1.trans T2) ok
theorem xe_callK {Φ : List PyData → Er → Prop} {n : Nat} {ks : List Str} {g : List Value → List Value} {gV : List V → List V} {gD : List PyData → List PyData} {kws : List Keyword} (D : Y.Dke x n ks g gV gD (spE Φ)) (ha : AD Y.F (e :: es) L ds L1) (hk : KD Y.F kws L1 ds2 L') (hΦ : Φ (gD (ds ++ ds2)) er) (hn : ds.length = n := by rfl) (hn2 : ds2.length = ks.length := by rfl) (hg : GlF Y.F x := by rfl) (hdb : (x == ("__debug__" : Str)) = false := by decide)
    (he : ∀ env, starEach (e :: es) env = (false, eval e env) :: starEach es env := by intro _; rfl) (hall : ∀ env, (backToKw pos (keywordEach kws env)).all (·.1.isSome) = true := by intro _; rfl) (hks : ∀ env, (backToKw pos (keywordEach kws env)).filterMap (·.1) = ks := by intro _; rfl)
    (hpl : ∀ env, ((backTo pos (starEach (e :: es) env)).any (·.1) || (backToKw pos (keywordEach kws env)).any (·.1.isNone)) = false := by intro _; rfl) : XeD Y (.Call (.Name x p) (e :: es) kws pos) L er L' := by
  obtain ⟨ta, pa, ra⟩ := ha
  obtain ⟨tk, pk, rk⟩ := hk
  refine ⟨_, fun j => callKe_any D hg pa pk hdb he hall hks hpl j, fun j σ G H S Q q => ra σ G H S _ fun vs G1 H1 S1 T1 r1 => rk σ G1 H1 S1 _ fun zs G2 H2 S2 T2 r2 => ⟨by rw [r1.len]; exact hn, by rw [r2.len]; exact hn2, _, er, G2, hΦ, S2.gh, D.data G2 _ _ (by rw [List.length_append, r1.len, r2.len, hn, hn2]) ((r1.up T2.g).app r2), fun cls dd G' H' A ok => ?_⟩⟩
  obtain ⟨S3, T3⟩ := S2.aft A
  exact q cls dd G' H' S3 ((T1.trans T2).trans T3) ok
theorem xe_callK0 {Φ : List PyData → Er → Prop} {ks : List Str} {g : List Value → List Value} {gV : List V → List V} {gD : List PyData → List PyData} {kws : List Keyword} (D : Y.Dke x 0 ks g gV gD (spE Φ)) (hk : KD Y.F kws L ds2 L') (hΦ : Φ (gD ds2) er) (hn2 : ds2.length = ks.length := by rfl) (hg : GlF Y.F x := by rfl) (hdb : (x == ("__debug__" : Str)) = false := by decide)
    (hall : ∀ env, (backToKw pos (keywordEach kws env)).all (·.1.isSome) = true := by intro _; rfl) (hks : ∀ env, (backToKw pos (keywordEach kws env)).filterMap (·.1) = ks := by intro _; rfl)
    (hpl : ∀ env, ((backTo pos (starEach [] env)).any (·.1) || (backToKw pos (keywordEach kws env)).any (·.1.isNone)) = false := by intro _; rfl) : XeD Y (.Call (.Name x p) [] kws pos) L er L' := by
  obtain ⟨tk, pk, rk⟩ := hk
  refine ⟨_, fun j => callK0e_any D hg pk hdb hall hks hpl j, fun j σ G H S Q q => rk σ G H S _ fun zs G2 H2 S2 T2 r2 => ⟨by rw [r2.len]; exact hn2, _, er, G2, hΦ, S2.gh, D.data G2 _ _ (by rw [r2.len, hn2]; simp) r2, fun cls dd G' H' A ok => ?_⟩⟩
  obtain ⟨S3, T3⟩ := S2.aft A
  exact q cls dd G' H' S3 (T2.trans T3) ok
/-- a comparison whose first side raises -/
theorem xe_cmp {op : CmpOp} {r : R2} (ho : ∀ j, OpR (Y.y j) (compareOp op) r) (h : XeD Y a L er L') (hm : behindInMarks op b = false := by rfl) : XeD Y (.Compare a [op] [b] pos) L er L' := by
  obtain ⟨te, pe, run⟩ := h
  exact ⟨_, fun j => pe_cmpR (ho j) (pe j) (pe_no _ b) hm, fun j σ G H S Q q => run j σ G H S _ q⟩
theorem xe_isN {j0 : Nat} {pos' : Pos} (h : XeD Y a L er L') : XeD Y (.Compare a [.Is] [.Constant .none j0 pos'] pos) L er L' := xe_cmp (fun _ => op_isN) h (nomark _)

/-! ### raise C(e), C's own __init__ keeping e in the field f -/
/-- what the written part says of the class nm -/
structure ErC (K : PySem.W.Frag) (mg : Str → Option Value) (nm : Str) (C : Addr) (f : Str) : Prop where
  gC : mg nm = some (.ref C)
  oex : OexC K C
  no : PySem.W.findIn K (.ref C) f = some none
  ga : PySem.W.findIn K (.ref C) "__getattribute__" = some (some (.builtin "BaseException.__getattribute__"))
  gg : PySem.W.findIn K (.ref C) "__getattr__" = some none
  hd : PySem.W.hasDictIn K C = true
  ha : PySem.W.findIn K (.ref C) "__class__" = some (some (.builtin "object.__class__"))
  hm : PySem.W.mroIn K C (.type "object") = some true
/-- __init__ -/
def spI (C : Addr) (f : Str) : Sp := fun vs H Q _ => ∃ a v, vs = [.ref a, v] ∧ H a = some (exo a C none) ∧ ∀ dx, H dx = none → dx ≠ a → Q .non (upd (upd H dx (exd dx [(f, v)])) a (exo a C (some dx)))
structure ErI (P : Program) (w : World) (K : PySem.W.Frag) (mg : Str → Option Value) (base : Heap) (k : Nat) (nm : Str) (C : Addr) (f : Str) : Prop where
  c : ErC K mg nm C f
  ex : ∃ fI fd ps, PySem.W.findIn K (.ref C) "__init__" = some (some (.ref fI)) ∧ PySem.W.typeIn K (.ref fI) = some (.type "function") ∧ FnOk P w K mg base CX0 k fI fd ps (spI C f) ∧ Binds K fd ps []
abbrev FamW.ErI (Y : FamW) (k : Nat) (nm : Str) (C : Addr) (f : Str) : Prop := DL.ErI Y.F.P Y.F.w Y.F.K Y.F.mg Y.F.base k nm C f
theorem x_raise {nm f : Str} {C : Addr} {k : Nat} {cp : Pos} (T : Y.ErI k nm C f) (hk : k + 1 ≤ Y.F.k) (h : ED Y.F e L d L') (hg : GlF Y.F nm := by rfl) (hdb : (nm == ("__debug__" : Str)) = false := by decide)
    (hs : ∀ env, starEach [e] env = (false, eval e env) :: starEach [] env := by intro _; rfl) : XD Y (.Raise (some (.Call (.Name nm p) [e] [] cp)) none pos) L ⟨C, f, d⟩ L' := by
  obtain ⟨te, pe, run⟩ := h
  obtain ⟨fI, fd, ps, iC, tI, F1, hb⟩ := T.ex
  have mk : ∀ j, PMk (Y.y j) (.Call (.Name nm p) [e] [] cp) (tMkO C (spI C f) [] (tCons te tNil)) := fun j => by
    have F1' : FnOk (Y.y j).prog (Y.y j).w (Y.y j).K (Y.y j).mg (Y.y j).base CX0 k fI fd ps (spI C f) := by
      rw [Y.hP, Y.hw, Y.hK, Y.hmg, Y.hbase]
      exact F1
    exact pmk_oex (X := Y.y j) (by rw [Y.hK]; exact T.c.oex) (by rw [Y.hK]; exact iC) (by rw [Y.hK]; exact tI) F1' ((Y.hr j).mono hk) (by rw [Y.hK]; exact hb) .nil pass0 (Y.gl hg j) (by rw [Y.hmg]; exact T.c.gC) (Y.pa (fun j => pa_cons (pe j) pa_nil (hs _)) j) hdb (hs _) rfl
  refine ⟨fun j => fun _ σ H => tMkO C (spI C f) [] (tCons te tNil) σ H fun cls d H' => Y.W j cls d σ H', fun j => ps_raise (Y.hc j) (Y.tk j) (mk j), fun j σ G H S D q => run σ G H S _ fun v G1 H1 S1 T1 r1 => ?_⟩
  refine ⟨by simp, fun a ha => ⟨a, v, rfl, upd_same, fun dx hdx hne => ⟨rfl, dx, [(f, v)], upd_same, ?_, ?_, ?_⟩⟩⟩
  · rw [upd_ne hne, upd_same]
  · rw [upd_ne hne] at hdx
    exact hdx
  · rw [upd_ne hne] at hdx
    have e1 : upd (del (upd (upd (upd H1 a (exo a C none)) dx (exd dx [(f, v)])) a (exo a C (some dx))) a) dx (.xd [(f, v)]) = upd H1 dx (.xd [(f, v)]) := by
      funext b
      by_cases h1 : b = dx
      · subst h1
        rw [upd_same, upd_same]
      · rw [upd_ne h1, upd_ne h1]
        by_cases h2 : b = a
        · subst h2
          rw [del_same, ha]
        · rw [del_ne h2, upd_ne h2, upd_ne h1, upd_ne h2]
    rw [e1]
    obtain ⟨S2, T2⟩ := S1.newG (o := .xd [(f, v)]) hdx
    exact q _ _ σ _ _ S2 (T1.trans T2).ts ⟨rfl, dx, v, rfl, upd_same, r1.up T2.g⟩

/-! ### a for that raises in turn m -/
def tssW (X : Cx) (b : List Stmt) : TS := fun D σ H => ∃ ts, PSs X b ts ∧ ts D σ H
theorem pss_w (X : Cx) (b : List Stmt) : PSs X b (tssW X b) := ⟨fun pins s σ H Q I h => let ⟨te, pe, q⟩ := h; pe.run pins s σ H Q I q⟩
theorem x_for {ok : PyData → Prop} {u : PyData → List Sl → List Sl} {T : List Nat} (M : Nat → List Sl) (m : Nat) (dm : PyData) (hi : ItD Y.F tg iter L its (M 0)) (ht : TgD Y.F tg T ok u) (hM : ∀ i, (M i).length = Y.F.N.length) (hm : its[m]? = some dm)
    (hb : ∀ i d, i < m → its[i]? = some d → ok d ∧ SsD [] Y.F sts (u d (M i)) (.nx (M (i + 1)))) (hl : ok dm ∧ XsD Y sts (u dm (M m)) er L')
    (hs : ∀ env x, foldedSetIterable iter env x = pure x := by intro _ _; rfl) : XD Y (.For tg iter sts [] pos) L er L' := by
  obtain ⟨wi, pi, runI⟩ := hi
  obtain ⟨⟨g, pg, runG⟩, _, _, _⟩ := ht
  refine ⟨fun j => tFor wi g (tssW (Y.y j) sts), fun j => ps_for (Y.po j) (Y.hc j) (Y.pi pi j) (Y.pg pg j) (pss_w _ _) (hs _), fun j σ0 G0 H0 S0 D q => runI σ0 G0 H0 S0 _ fun J G1 H1 S1 T1 RJ => ?_⟩
  refine ⟨fun i k σ H => k = its.length - i ∧ i ≤ m ∧ ∃ G, Sta (M i) σ G H ∧ Ts (M 0) σ0 G1 H1 (M i) σ G H, ⟨its.length, by simp, Nat.zero_le _, G1, S1, .refl⟩, ?_⟩
  rintro i k σ H ⟨rfl, him, G, S, T0⟩
  obtain ⟨stop, go⟩ := RJ i G H T0.g S.gh
  have hml : m < its.length := (List.getElem?_eq_some_iff.mp hm).1
  by_cases h : i < m
  · have hlt : i < its.length := by omega
    obtain ⟨hg, hy⟩ := go its[i] (List.getElem?_eq_getElem hlt)
    obtain ⟨okd, ts, ps, run⟩ := hb i its[i] h (List.getElem?_eq_getElem hlt)
    refine .inr ⟨hg, fun σ' H' => i + 1 ≤ m ∧ ∃ G', Sta (M (i + 1)) σ' G' H' ∧ Ts (M 0) σ0 G1 H1 (M (i + 1)) σ' G' H', fun σ' H' ⟨h1, w⟩ => ⟨its.length - (i + 1), by omega, rfl, h1, w⟩, fun x H' hx => ?_⟩
    obtain ⟨G2, S2, T2, r2⟩ := yielded S (hy x H' hx)
    refine runG _ okd _ _ _ _ _ (hM i) S2 r2 _ fun σ3 S3 T3 A30 => ?_
    have T4 := (T0.trans S.gh T2.ts).trans S2.gh T3
    refine ⟨ts, ?_, run σ3 G2 H' S3 _ fun σ' G' H'' S5 T5 A5 => ⟨by omega, _, S5, T4.trans S3.gh T5⟩⟩
    have := ps j
    rw [← Y.hy j] at this
    exact this.nox
  · obtain rfl : i = m := by omega
    obtain ⟨okd, ts, ps, run⟩ := hl
    obtain ⟨hg, hy⟩ := go dm hm
    refine .inr ⟨hg, fun _ _ => False, fun _ _ w => w.elim, fun x H' hx => ?_⟩
    obtain ⟨G2, S2, T2, r2⟩ := yielded S (hy x H' hx)
    refine runG _ okd _ _ _ _ _ (hM i) S2 r2 _ fun σ3 S3 T3 A30 => ?_
    have T4 := (T0.trans S.gh T2.ts).trans S2.gh T3
    exact ⟨ts j, ps j, run j σ3 G2 H' S3 _ fun cls dd σ' G' H'' S5 T5 ok5 => q cls dd σ' G' H'' S5 ((T1.ts.trans S1.gh T4).trans S3.gh T5) ok5⟩
end

/-! ### defs -/
section
variable {P : Program} {w : World} {K : PySem.W.Frag} {mg : Str → Option Value} {base : Heap} {x qual : Str} {st : Stmt} {f : Addr} {fd : FuncData} {N ps : List Str} {k : Nat}
/-- the contexts of a family, more of them -/
def Fam.pull (F : Fam) (J : Type) (g : J → F.J) : Fam where
  J := J
  x := fun j => F.x (g j)
  P := F.P
  w := F.w
  K := F.K
  mg := F.mg
  base := F.base
  N := F.N
  sc := F.sc
  fn := F.fn
  k := F.k
  hP := fun j => F.hP (g j)
  hw := fun j => F.hw (g j)
  hK := fun j => F.hK (g j)
  hmg := fun j => F.hmg (g j)
  hbase := fun j => F.hbase (g j)
  hN := fun j => F.hN (g j)
  hsc := fun j => F.hsc (g j)
  hfn := fun j => F.hfn (g j)
  hc := fun j => F.hc (g j)
  hr := fun j => F.hr (g j)
  hxe := fun j => F.hxe (g j)
  hg := fun j => F.hg (g j)
def famW (P : Program) (w : World) (K : PySem.W.Frag) (mg : Str → Option Value) (base : Heap) (N : List Str) (qual : Str) (sc : Scope) (f : Addr) (k : Nat) : FamW where
  F := (famOf P w K mg base N qual sc f k).pull (FamJ qual sc f k × XK) Prod.fst
  W := fun j => fun cls d _ H => j.2 cls d H
  y := fun j => cxOf (L2.CX P w) P w K mg base N qual sc f j.1.1.1 j.1.1.2.1 j.1.1.2.2.1 j.1.1.2.2.2.1 j.1.1.2.2.2.2 j.2
  hy := fun _ => rfl
  hst := fun _ => rfl
  hfr := fun _ => rfl
  hex := fun _ => rfl
  po := fun _ => passes_of rfl
  tk := fun _ => takes_of rfl rfl rfl rfl
theorem funE {Φ : List PyData → Er → Prop} (Fn : Fun K x qual st f fd) (S : FnScope N ps (defScope st)) (hl : ∀ ds r, Φ ds r → ds.length = ps.length)
    (hb : ∀ ds r, Φ ds r → ∃ L', XsD (famW P w K mg base N qual (defScope st) f k) (defBody st) (startL N ds) r L') : FnE P w K mg base (k + 1) f fd ps (spE Φ) := by
  obtain ⟨oc, od, kV, doc, pm, an, cdv, ct, osl, rfl, lk, hcd⟩ := Fn.ex
  refine fnE_of lk hcd S (fun vs H Q E h => ?_) fun A outer s H vs Q E hg hr h => ?_
  · obtain ⟨ds, r, G, e, _, rp, _⟩ := h
    rw [rp.len]
    exact hl ds r e
  · obtain ⟨ds, er, G, e, gh, rp, q⟩ := h
    obtain ⟨L', ts, ps, run⟩ := hb ds er e
    refine ⟨_, ps ⟨⟨(cdv, A, outer, s, H), hg, hr⟩, E⟩, run _ _ G H (staL gh rp (by rw [hl ds er e]; exact FnScope.fit S)) _ fun cls dd σ' G' H' S' T' ok => ?_⟩
    exact q cls dd G' H' ⟨T'.g, S'.gh, fun b o hb gb _ => T'.fr b o hb gb noOwnL, T'.th⟩ ok
/-- a def with defaults -/
theorem funED {dvs : List V} {kws : List (Str × V)} {Φ : List PyData → Er → Prop} (Fn : FunD K x qual (defArgs st) (defBody st) (defScope st) dvs kws f fd) (S : FnScope N ps (defScope st)) (hl : ∀ ds r, Φ ds r → ds.length = ps.length)
    (hb : ∀ ds r, Φ ds r → ∃ L', XsD (famW P w K mg base N qual (defScope st) f k) (defBody st) (startL N ds) r L') : FnE P w K mg base (k + 1) f fd ps (spE Φ) := by
  obtain ⟨oc, od, dV, kV, doc, pm, an, cdv, ct, osl, rfl, lk, hcd, _, _⟩ := Fn.ex
  refine fnE_of lk hcd S (fun vs H Q E h => ?_) fun A outer s H vs Q E hg hr h => ?_
  · obtain ⟨ds, r, G, e, _, rp, _⟩ := h
    rw [rp.len]
    exact hl ds r e
  · obtain ⟨ds, er, G, e, gh, rp, q⟩ := h
    obtain ⟨L', ts, ps, run⟩ := hb ds er e
    refine ⟨_, ps ⟨⟨(cdv, A, outer, s, H), hg, hr⟩, E⟩, run _ _ G H (staL gh rp (by rw [hl ds er e]; exact FnScope.fit S)) _ fun cls dd σ' G' H' S' T' ok => ?_⟩
    exact q cls dd G' H' ⟨T'.g, S'.gh, fun b o hb gb _ => T'.fr b o hb gb noOwnL, T'.th⟩ ok
theorem de_of {sp : Sp} (Fn : Fun K x qual st f fd) (G : FnE P w K mg base k f fd ps sp) (m : mg x = some (.ref f)) (b : Binds K fd ps []) : De P w K mg base x k sp :=
  ⟨f, fd, ps, G, m, Fn.kp, fun s us inK hl => by
    have := b s us inK (by rw [List.append_nil]; exact hl)
    rw [List.append_nil] at this
    exact this⟩
end
end DL
namespace DL
open PySem PyProof.Rows L2
variable [TabL]

section
variable {X : Cx} {pins : List (Addr × Obj)} {σ : L2.St} {H : Hp} {s : Shared}
/-- an error that was caught is tracked from now on -/
theorem inv_track {a C dd : Addr} {oe : Obj} {vs : Array Value} (I : Inv X pins σ H s) (ha : s.heap.get? a = some oe) (hc : oe.cls = .ref C) (hd : oe.dict = some dd) (hdat : oe.data = .fields vs) (na : H a = none) (n0 : X.s_0.heap.get? a = none) (nL : a ≠ X.env.locals)
    (npin : ∀ p ∈ X.pn ++ pins, p.1 ≠ a) : Inv X pins σ (upd H a (exV a C dd)) s := by
  have ne : ∀ {b : Addr} {o : HO}, H b = some o → b ≠ a := fun {b o} q => ne_of_none q na
  have nc : ∀ x c, X.env.cells.lookup x = some c → c ≠ a := fun x c e z => by
    obtain ⟨v, q⟩ := I.cell x c e
    obtain ⟨o, ho, hv⟩ := q
    rw [z, ha] at ho
    cases ho
    rw [hdat] at hv
    cases hv
  refine ⟨I.ok, I.os, I.bare, ⟨I.base.keep, I.base.slot, fun b o e n hx => ?_, I.base.there, fun b xs e => ?_, fun b o u e => ?_, fun b ps e => ?_⟩, I.loc, I.cell, ?_, fun x c e => ?_, fun p hp => ?_, fun b o e => ?_, I.len⟩
  · have hb : b ≠ a := fun z => by rw [z, n0] at e; cases e
    rw [upd_ne hb]
    exact I.base.free b o e n hx
  · have q := I.base.tups b xs e
    rw [upd_ne (ne q)]
    exact q
  · have q := I.base.frzs b o u e
    rw [upd_ne (ne q)]
    exact q
  · obtain ⟨more, q⟩ := I.base.tbls b ps e
    exact ⟨more, by rw [upd_ne (ne q)]; exact q⟩
  · rw [upd_ne (Ne.symm nL)]
    exact I.free
  · rw [upd_ne (nc x c e)]
    exact I.freeC x c e
  · obtain ⟨e1, e2, e3⟩ := I.pin p hp
    exact ⟨e1, by rw [upd_ne (npin p hp)]; exact e2, e3⟩
  · by_cases hb : b = a
    · subst hb
      rw [upd_same] at e
      cases e
      exact ⟨⟨oe, vs, ha, hc, hd, hdat⟩, ⟨oe, ha⟩, fun h1 h2 ⟨oe, vs, q1, q2⟩ st => ⟨oe, vs, st _ q1, q2⟩⟩
    · rw [upd_ne hb] at e
      exact (I.hok b o e).stay (fun _ _ _ q => q) (fun c q => by rw [upd_ne (ne q)]; exact q) fun c xs q => by rw [upd_ne (ne q)]; exact q
end

/-- the classes that an except clause names -/
def TestC (X : Cx) (t : Expr) (cls : Value) : Prop := ∀ (a : Addr) (oe : Obj) (pn : List (Addr × Obj)) (σ : L2.St) (H : Hp) (s : Shared), Inv (X.suite a ((a, oe) :: pn)) [] σ H s → PySem.W.Looks (model X.prog X.w) s.heap (typeOf (.ref a)) cls →
  ∀ (Q : Bool → Shared → Prop) (E : Value → Shared → Prop), (∀ h', (∀ b o, s.heap.get? b = some o → h'.get? b = some o) → Q true { s with heap := h' }) → wpAny (model X.prog X.w) (X.A.mark (some (.ref a))) (eval t X.env) (fun c s1 => wpAny (model X.prog X.w) (X.A.mark (some (.ref a))) (excMatches (.ref a) c) Q E s1) E s
section
variable {X : Cx} {cls : Value}
theorem nm_here {X : Cx} {x : Str} {np : Pos} {c : Value} (hc : Names X x c) {a : Addr} {oe : Obj} {pn : List (Addr × Obj)} {σ : L2.St} {H : Hp} {s : Shared} (S3 : Inv (X.suite a ((a, oe) :: pn)) [] σ H s) {Q : Value → Shared → Prop} {E : Value → Shared → Prop} (q : Q c s) :
    wpAny (model X.prog X.w) (X.A.mark (some (.ref a))) (eval (.Name x np) X.env) Q E s := by
  obtain ⟨hg, hdbg, hm | ⟨hm, hv, hnn⟩⟩ := hc
  · exact ld_glob (X := X.suite a ((a, oe) :: pn)) S3 hg hm q hdbg
  · exact ld_blt (X := X.suite a ((a, oe) :: pn)) S3 hg hm hv q hnn hdbg
theorem test1 {x : Str} {np : Pos} {c : Value} (hc : Names X x c) (he : PySem.W.exmOne X.K cls c = some true) : TestC X (.Name x np) cls := fun a oe pn σ H s S3 LT Q E q =>
  nm_here hc S3 ((PySem.W.exm_one (M := model X.prog X.w) S3.kIn LT he).here (q s.heap fun _ _ z => z))
theorem test2 {x1 x2 : Str} {p1 p2 tpos : Pos} {kk : Nat} {c1 c2 : Value} (n1 : Names X x1 c1) (n2 : Names X x2 c2) (he : PySem.W.exmAny X.K cls [c1, c2] = some true) : TestC X (.Tuple [.Name x1 p1, .Name x2 p2] kk tpos) cls := fun a oe pn σ H s S3 LT Q E q => by
  refine wpAny_Tuple ?_
  refine wpAny_items_cons (nm_here n1 S3 ?_)
  refine wpAny_items_cons (nm_here n2 S3 ?_)
  refine wpAny_items_nil ⟨by size_fits, ?_⟩
  have kp : ∀ q o, s.heap.get? q = some o → (s.heap.push { cls := .type "tuple", data := .seq [c1, c2].toArray }).get? q = some o := fun _ _ z => Heap.get?_push_of_some _ z
  exact (PySem.W.exm_tup2 (S3.kIn.keeps kp) (LT.keeps kp) (Heap.get?_push_size s.heap rfl) he).here (q _ kp)
theorem test4 {x1 x2 x3 x4 : Str} {p1 p2 p3 p4 tpos : Pos} {kk : Nat} {c1 c2 c3 c4 : Value} (n1 : Names X x1 c1) (n2 : Names X x2 c2) (n3 : Names X x3 c3) (n4 : Names X x4 c4) (he : PySem.W.exmAny X.K cls [c1, c2, c3, c4] = some true) : TestC X (.Tuple [.Name x1 p1, .Name x2 p2, .Name x3 p3, .Name x4 p4] kk tpos) cls := fun a oe pn σ H s S3 LT Q E q => by
  refine wpAny_Tuple ?_
  refine wpAny_items_cons (nm_here n1 S3 ?_)
  refine wpAny_items_cons (nm_here n2 S3 ?_)
  refine wpAny_items_cons (nm_here n3 S3 ?_)
  refine wpAny_items_cons (nm_here n4 S3 ?_)
  refine wpAny_items_nil ⟨by size_fits, ?_⟩
  have kp : ∀ q o, s.heap.get? q = some o → (s.heap.push { cls := .type "tuple", data := .seq [c1, c2, c3, c4].toArray }).get? q = some o := fun _ _ z => Heap.get?_push_of_some _ z
  exact (PySem.W.exm_tup4 (S3.kIn.keeps kp) (LT.keeps kp) (Heap.get?_push_size s.heap rfl) he).here (q _ kp)
end
theorem flyingZ_keeps {B : Heap} {l : List Env} {a : Addr} {Z : Obj → Prop} {h h' : Heap} (x : PySem.HandSPX.FlyingZ B l a Z h) (k : ∀ b o, h.get? b = some o → h'.get? b = some o) : PySem.HandSPX.FlyingZ B l a Z h' := by
  obtain ⟨f1, f2, f3, oe, vs, T, oT, ts, he, hz, hd, h1, hnT, hTe, hT, hdT, h3⟩ := x
  exact ⟨fun b o q => k b o (f1 b o q), f2, f3.of_keeps fun b o q _ => ⟨o, k b o q, rfl⟩, oe, vs, T, oT, ts, k _ _ he, hz, hd, h1, hnT, hTe, k _ _ hT, hdT, h3⟩

/-- what the clause wishes of an exception of the body: it is of class cls0, and y = e keeps it -/
def wKeep (cls0 : Value) (i k : Nat) (D : Ends) : WX := fun cls d σ H => cls = cls0 ∧ ∃ C dd, cls = .ref C ∧ d = some dd ∧ ∀ a, H a = none → D.nx (((σ.set i (some (.ref a))).set k (some (.ref a))).set i none) (upd H a (exV a C dd))
section
variable {X : Cx} {t : Expr} {n y : Str} {cls0 : Value} {i k : Nat} {body : List Stmt} {p1 p2 p3 pos pos' : Pos} {tb : WX → TS}
theorem ps_try_keep (hs : X.stack = X.env :: X.outer) (hf : X.env.frame = some X.env.locals) (hex : X.ex = []) (hN : X.N.Nodup) (hi : X.N[i]? = some n) (hln : X.env.kindOf n = some .local) (hk : X.N[k]? = some y) (hly : X.env.kindOf y = some .local) (ht : TestC X t cls0)
    (hb : ∀ (W : WX) (pn : List (Addr × Obj)) (xe : Value → Shared → Prop), Takes (X.tr pn xe) W → PassesOwn (model X.prog X.w) X.A X.env xe → PSs (X.tr pn xe) body (tb W))
    (hsw : swapsWith (.Name n p2) (some (.Name y p1)) p3.line X.env = pure false) (hd : (n == ("__debug__" : Str)) = false) (hcd : (n == ("__classdict__" : Str)) = false) (hil : i < X.N.length) :
    PS X (.Try body [.ExceptHandler (some t) (some n) [.Assign [.Name y p1] (.Name n p2) p3] pos'] [] [] pos) (fun D σ H => tb (wKeep cls0 i k D) D σ H) := by
  refine ⟨fun pins s σ H D I h => ?_⟩
  have ok := I.ok
  have hfr : X.A.frames = some (X.env :: X.outer) := by rw [ok.frames, hs]
  have hloc : Loc X.env.scope n := .inl hln
  have hlocy : Loc X.env.scope y := .inl hly
  refine wpAny_Try_except ?_
  refine wpAny_mono ((hb (wKeep cls0 i k D) (X.pn ++ pins) (fun e s₁ => wpAny (model X.prog X.w) X.A (noteFrame e X.env) (fun _ s₂ => wpAny (model X.prog X.w) X.A (setFlight e none) (fun _ s₃ =>
    wpAny (model X.prog X.w) X.A (handleBy e X.env [.ExceptHandler (some t) (some n) [.Assign [.Name y p1] (.Name n p2) p3] pos']) (SP X pins D) X.xe s₃) X.xe s₂) X.xe s₁) (fun u s' xx => ?_) PassesOwn.looking).run [] s σ H D (I.toTry _) h) (fun f s1 hsp => ?_) (fun e s1 he => he)
  · -- the catch
    obtain ⟨a, B, sI, pins', σ', H', cls, d, rfl, J', nb, up, sky, na, os, ag, rfl, C, dd, ecl, rfl, hq⟩ := xx
    have J : Inv X pins σ' H' sI := J'.ofTry ok
    have sky' : Sky B (X.env :: X.outer) a (Zc cls (some dd)) X.env.locals s'.heap := by rw [← hs]; exact sky
    show wpAny (model X.prog X.w) X.A (noteFrame (.ref a) X.env) _ _ _
    refine Sky.land Zc.steady hfr hf sky' fun h3 fl3 up3 => ?_
    have J3 : Inv X pins σ' H' { s' with heap := h3 } := J.landed nb fl3.1 (up.trans up3) os ag
    obtain ⟨oe3, vs3, he3, hz3, hd3⟩ := fl3.there
    have notFr : ∀ {h : Heap} {o : Obj} {vs : Array Value}, h.FunFrames B (X.env :: X.outer) → h.get? a = some o → o.data = .fields vs → a ∉ frs (X.env :: X.outer) := fun {h o vs} ff e dd hm => by
      obtain ⟨_, o', e', hnf⟩ := ff.mem hm
      rw [e] at e'; cases e'
      exact hnf _ dd
    have nfr := notFr fl3.2.2.1 he3 hd3
    have nL : a ≠ X.env.locals := fun z => nfr (List.mem_filterMap.mpr ⟨X.env, List.mem_cons_self, by rw [hf, z]⟩)
    have nF : a ∉ X.fs := fun hm => by
      obtain ⟨e, he, q⟩ := List.mem_filterMap.mp hm
      exact nfr (List.mem_filterMap.mpr ⟨e, List.mem_cons_of_mem _ he, q⟩)
    have nS : a ∉ frs X.stack := by rw [hs]; exact nfr
    have nB : B.get? a = none := fl3.2.1
    have nI : sI.heap.get? a = none := by
      cases q : sI.heap.get? a with
      | none => rfl
      | some o =>
        have z := nb a o q nS
        rw [nB] at z
        cases z
    have n0 : X.s_0.heap.get? a = none := by
      cases q : X.s_0.heap.get? a with
      | none => rfl
      | some o =>
        obtain ⟨o', z⟩ := J.base.there a o q (by rw [hex]; simp)
        rw [nI] at z
        cases z
    have npin : ∀ p ∈ X.pn ++ pins, p.1 ≠ a := fun p hp z => by
      have q := (J.pin p hp).1
      rw [z, nI] at q
      cases q
    have S3 := J3.suite he3 hd3 na nL nF
    refine wpAny_handleBy_cons (codeAny_handlers_test ?_) (by intro q; cases q)
    have LT : PySem.W.Looks (model X.prog X.w) h3 (typeOf (.ref a)) cls := fun A Q E s k q => wpAny_typeOf_ref (k _ _ he3) (by rw [hz3.1]; exact q)
    refine ht a oe3 (X.pn ++ pins) σ' H' _ S3 LT _ _ fun h5 k5 => ?_
    have fl5 := flyingZ_keeps fl3 k5
    refine codeAny_handlers_suite_as ?_
    refine PySem.HandSPX.lands_againZ fl5 fun h4 fl4 up4 => ?_
    have J4 : Inv X pins σ' H' { s' with heap := h4 } := J.landed nb fl4.1 (((up.trans up3).trans (Heap.UpToSlots.of_keeps k5)).trans up4) os ag
    obtain ⟨oe4, vs4, he4, hz4, hd4⟩ := fl4.there
    have S4 := J4.suite he4 hd4 na nL nF
    refine store_ok (X := X.suite a ((a, oe4) :: (X.pn ++ pins))) (v := .ref a) S4 hN hi hloc rfl (fun s5 S5 => ?_) (.inr hln)
    have su : PSs (X.suite a ((a, oe4) :: (X.pn ++ pins))) [.Assign [.Name y p1] (.Name n p2) p3] (tSeq (tAsg (tVar i) (gName k)) tNext) :=
      pss_cons (ps_set (X := X.suite a ((a, oe4) :: (X.pn ++ pins))) hN hk hlocy (pe_var hi (.inl hln) hd hcd) hsw (.inr hly)) pss_nil
    have li : i < σ'.length := by rw [J4.len]; exact hil
    refine wpAny_mono (su.run [] s5 _ H' { nx := fun σ6 H6 => σ6 = (σ'.set i (some (.ref a))).set k (some (.ref a)) ∧ H6 = H', rt := fun _ _ => False, bk := fun _ _ => False, ct := fun _ _ => False } S5 ⟨.ref a, by rw [List.getElem?_set_self li], rfl, rfl⟩) (fun f s6 hsp => ?_) (fun _ _ z => False.elim z)
    cases f with
    | next =>
      obtain ⟨σ6, H6, S6, rfl, rfl⟩ := hsp
      obtain ⟨ha6, _⟩ := S6.pin (a, oe4) (List.mem_append_left _ List.mem_cons_self)
      have J6 : Inv X pins _ H6 s6 := S6.unsuite ok
      obtain ⟨hzc, hzd⟩ := hz4
      have J7 := inv_track J6 ha6 (hzc.trans ecl) hzd hd4 na n0 nL npin
      exact gone_ok J7 hN hi hln fun s7 J8 => ⟨_, _, J8, hq a na⟩
    | brk => exact hsp.elim fun _ z => z.elim fun _ z => z.2.elim
    | cont => exact hsp.elim fun _ z => z.elim fun _ z => z.2.elim
    | ret u => exact hsp.elim fun _ z => z.elim fun _ z => z.elim fun _ z => z.2.2.elim
  · cases f with
    | next =>
      obtain ⟨σ', H', J', q⟩ := hsp
      exact wpAny_execs_nil ⟨σ', H', J'.ofTry ok, q⟩
    | brk =>
      obtain ⟨σ', H', J', q⟩ := hsp
      exact ⟨σ', H', J'.ofTry ok, q⟩
    | cont =>
      obtain ⟨σ', H', J', q⟩ := hsp
      exact ⟨σ', H', J'.ofTry ok, q⟩
    | ret u =>
      obtain ⟨v, σ', H', J', r, q⟩ := hsp
      exact ⟨v, σ', H', J'.ofTry ok, r, q⟩
end
end DL
namespace DL
open PySem PyProof.Rows L2
variable [TabL]

/-! ### a caught error, asked -/
/-- what the written part says of object.__class__ -/
structure ObC (K : PySem.W.Frag) : Prop where
  hn : PySem.W.specialIn K (.builtin "object.__class__") "__get__" = some (some (.builtin "getset_descriptor.__get__"))
  ht : PySem.W.takesIn K (.builtin "object.__class__") = some true
def rIsX (K : PySem.W.Frag) : List V → Hp → VK → Prop := fun xs H Q => ∃ (a C dd : Addr) (fs : List (Str × V)) (c : V) (cv : Value) (b : Bool), xs = [.ref a, c] ∧ H a = some (exV a C dd) ∧ H dd = some (.xd fs) ∧ (∀ u, RelV c u → u = cv) ∧ PySem.W.kitOne K (.ref C) cv = some b ∧
  (∃ mg nm f, ErC K mg nm C f) ∧ ObC K ∧ Q (.bl b) H
theorem exV_at {P : Program} {w : World} {H : Hp} {h : Heap} {a C dd : Addr} (hok : HOk P w H h) (he : H a = some (exV a C dd)) : ∃ (oe : Obj) (vs : Array Value), h.get? a = some oe ∧ oe.cls = .ref C ∧ oe.dict = some dd ∧ oe.data = .fields vs := by
  have x : ObjOk P w H h a (.ext fun h => ∃ (oe : Obj) (vs : Array Value), h.get? a = some oe ∧ oe.cls = .ref C ∧ oe.dict = some dd ∧ oe.data = .fields vs) := hok a _ he
  exact x.1
theorem inst_at {X : Cx} {pins : List (Addr × Obj)} {σ : L2.St} {H : Hp} {s : Shared} {a C dd : Addr} {fs : List (Str × V)} (I : Inv X pins σ H s) (he : H a = some (exV a C dd)) (hd : H dd = some (.xd fs)) :
    ∃ (oe od : Obj) (mA : Str → Option Value), PySem.W.InstAt s.heap a oe C (some od) ∧ (∀ name, PySem.W.lookIn name od = some (mA name)) ∧ ∀ f, RelO (fs.lookup f) (mA f) := by
  obtain ⟨oe, vs, h1, h2, h3, h4⟩ := exV_at I.hok he
  have hx : ObjOk X.prog X.w H s.heap dd (.xd fs) := I.hok dd _ hd
  obtain ⟨mA, hns, hr⟩ := hx
  obtain ⟨od, ho, hl⟩ := lookIn_ns hns
  exact ⟨oe, od, mA, ⟨h1, h2, by unfold PySem.W.notCls; rw [h4] <;> rfl, by rw [h3]; exact ho⟩, hl, hr⟩
theorem call_isX {X : Cx} : CallR X (.builtin "isinstance") (rIsX X.K) := by
  intro pins s σ H xs us Q I r h
  obtain ⟨a, C, dd, fs, c, cv, b, rfl, ha, hd, hcv, e, ⟨mg, nm, f, T⟩, O, q⟩ := h
  cases r with
  | cons rx rr =>
    cases rr with
    | cons rt rr =>
      cases rr
      cases rx
      have ec := hcv _ rt
      subst ec
      obtain ⟨oe, od, mA, J, _, _⟩ := inst_at I ha hd
      have hcl : (PySem.W.clsIn X.K C).isSome = true := by
        obtain ⟨cd, hc, _⟩ := PySem.W.any_some T.hd
        rw [hc]
        rfl
      exact PySem.W.kia_one (PySem.W.kitx_exc hcl T.ga T.gg T.oex.exC T.ha O.hn O.ht T.hm) I.kIn J e (fun z => nomatch z) fun tk => ⟨.bl b, H, I.kept (t' := tk) fun _ _ z => z, rfl, q⟩
section
variable {F : Fam} {e : Expr} {L L' : List Sl} {C : Addr} {f nm x : Str} {d : PyData} {p p3 pos : Pos} {b : Bool} {mg' : Str → Option Value}
theorem isxf (F : Fam) (j : F.J) : CallR (F.x j) (.builtin "isinstance") (rIsX F.K) := by
  rw [← F.hK j]
  exact call_isX
/-- isinstance(err, a built-in class) -/
theorem ed_isXB {T : String} (h : ED F e L (excD C f d) L') (E : ErC F.K mg' nm C f) (O : ObC F.K) (hm : F.mg "isinstance" = none) (hmT : F.mg (Str.ofString T) = none) (hvT : bootBuiltins (Str.ofString T) = some (.type T)) (hk : PySem.W.kitOne F.K (.ref C) (.type T) = some b) (hg : GlF F "isinstance" := by rfl) (hgT : GlF F (Str.ofString T) := by rfl)
    (hnT : Str.ofString T ≠ "__name__" := by decide) (hdT : (Str.ofString T == ("__debug__" : Str)) = false := by decide) (hs : ∀ env, starEach [e, .Name (Str.ofString T) p3] env = (false, eval e env) :: starEach [.Name (Str.ofString T) p3] env := by intro _; rfl) :
    ED F (.Call (.Name "isinstance" p) [e, .Name (Str.ofString T) p3] [] pos) L (.bool b) L' := by
  obtain ⟨te, pe, run⟩ := h
  have pT : PEf F (.Name (Str.ofString T) p3) (tC (.ty T)) := fun j => pe_bltn (hgT.gl j) (by rw [F.hmg]; exact hmT) hvT (by exact rfl) hnT hdT
  refine ⟨_, bt_any (isxf F) hg hm (by decide +kernel) (fun j => pa_cons (pe j) (pa_cons (pT j) pa_nil) (hs _)) (by decide) (by decide) hs (fun _ => rfl), fun σ G H S Q q => run σ G H S _ fun v G' H' S' T' r => ?_⟩
  obtain ⟨a, dd, w, rfl, h1, h2, h3⟩ := r.exc_inv
  exact ⟨a, C, dd, _, .ty T, .type T, b, rfl, S'.gh _ _ h1, S'.gh _ _ h2, fun u hu => hu, hk, ⟨_, _, _, E⟩, O, q _ _ _ S' T' (.bl b)⟩
/-- isinstance(err, an own class) -/
theorem ed_isXO {C2 : Addr} (h : ED F e L (excD C f d) L') (E : ErC F.K mg' nm C f) (O : ObC F.K) (hm : F.mg "isinstance" = none) (hmx : F.mg x = some (.ref C2)) (hk : PySem.W.kitOne F.K (.ref C) (.ref C2) = some b) (hg : GlF F "isinstance" := by rfl) (hgx : GlF F x := by rfl)
    (hdx : (x == ("__debug__" : Str)) = false := by decide) (hs : ∀ env, starEach [e, .Name x p3] env = (false, eval e env) :: starEach [.Name x p3] env := by intro _; rfl) :
    ED F (.Call (.Name "isinstance" p) [e, .Name x p3] [] pos) L (.bool b) L' := by
  obtain ⟨te, pe, run⟩ := h
  have pT : PEf F (.Name x p3) (tC (.ref C2)) := fun j => pe_glob (hgx.gl j) (by rw [F.hmg]; exact hmx) rfl hdx
  refine ⟨_, bt_any (isxf F) hg hm (by decide +kernel) (fun j => pa_cons (pe j) (pa_cons (pT j) pa_nil) (hs _)) (by decide) (by decide) hs (fun _ => rfl), fun σ G H S Q q => run σ G H S _ fun v G' H' S' T' r => ?_⟩
  obtain ⟨a, dd, w, rfl, h1, h2, h3⟩ := r.exc_inv
  exact ⟨a, C, dd, _, .ref C2, .ref C2, b, rfl, S'.gh _ _ h1, S'.gh _ _ h2, fun u hu => hu, hk, ⟨_, _, _, E⟩, O, q _ _ _ S' T' (.bl b)⟩
/-- err.f -/
theorem ed_xf (h : ED F e L (excD C f d) L') (E : ErC F.K mg' nm C f) (hb : ∀ env, attributeBase e f env (eval e env) = eval e env := by intro _; rfl) : ED F (.Attribute e f pos) L d L' := by
  obtain ⟨te, pe, run⟩ := h
  refine ⟨fun σ H Q => te σ H fun x H1 => ∃ (a dd : Addr) (v : V), x = .ref a ∧ H1 a = some (exV a C dd) ∧ H1 dd = some (.xd [(f, v)]) ∧ Q v H1, fun j => ⟨fun pins s σ H Q I h => ?_⟩, fun σ G H S Q q => run σ G H S _ fun v G' H' S' T' r => ?_⟩
  · refine attr_of (hb _) (thn ((pe j).run pins s σ H _ I h) fun u s1 hh => ?_)
    obtain ⟨x, H1, I1, rx, a, dd, v, ex, e1, e2, q⟩ := hh
    subst ex
    obtain rfl : u = Value.ref a := rx
    obtain ⟨oe, od, mA, J, hl, hr⟩ := inst_at I1 e1 e2
    have l : List.lookup f [(f, v)] = some v := by simp [List.lookup]
    obtain ⟨u, hu, ru⟩ := RelO.some_of (v := v) (o := mA f) (by rw [← l]; exact hr f)
    exact PySem.HandSPX.exc_get I1.kIn J (by rw [F.hK]; exact E.ga) (by rw [F.hK]; exact E.gg) (by rw [F.hK]; exact E.oex.exC) (PySem.W.findObj_own (by rw [F.hK]; exact E.hd) (by rw [F.hK]; exact E.no) rfl (by rw [hl, hu])) (handed_of ru) ⟨v, H1, I1.tok _, ru, q⟩
  · obtain ⟨a, dd, w, rfl, h1, h2, h3⟩ := r.exc_inv
    exact ⟨a, dd, w, rfl, S'.gh _ _ h1, S'.gh _ _ h2, q _ _ _ S' T' h3⟩
end

/-! ### try: body / except .. as e: y = e -/
/-- the contexts of a try's body -/
def Fam.trW (F : Fam) (hst : ∀ j, (F.x j).stack = (F.x j).env :: (F.x j).outer) (hfr : ∀ j, (F.x j).env.frame = some (F.x j).env.locals) (hex : ∀ j, (F.x j).ex = []) : FamW where
  F := {
    J := { t : F.J × List (Addr × Obj) × (Value → Shared → Prop) × WX // Takes ((F.x t.1).tr t.2.1 t.2.2.1) t.2.2.2 ∧ PassesOwn (model (F.x t.1).prog (F.x t.1).w) (F.x t.1).A (F.x t.1).env t.2.2.1 }
    x := fun t => (F.x t.1.1).tr t.1.2.1 (fun _ _ => False)
    P := F.P
    w := F.w
    K := F.K
    mg := F.mg
    base := F.base
    N := F.N
    sc := F.sc
    fn := F.fn
    k := F.k
    hP := fun t => F.hP t.1.1
    hw := fun t => F.hw t.1.1
    hK := fun t => F.hK t.1.1
    hmg := fun t => F.hmg t.1.1
    hbase := fun t => F.hbase t.1.1
    hN := fun t => F.hN t.1.1
    hsc := fun t => F.hsc t.1.1
    hfn := fun t => F.hfn t.1.1
    hc := fun t => F.hc t.1.1
    hr := fun t => F.hr t.1.1
    hxe := fun _ => rfl
    hg := fun t => F.hg t.1.1 }
  W := fun t => t.1.2.2.2
  y := fun t => (F.x t.1.1).tr t.1.2.1 t.1.2.2.1
  hy := fun _ => rfl
  hst := fun t => hst t.1.1
  hfr := fun t => hfr t.1.1
  hex := fun t => hex t.1.1
  po := fun t => t.2.2
  tk := fun t => t.2.1
section
variable {L L1 L2' L' : List Sl} {σ σ' : L2.St} {G H : Hp} {i : Nat}
theorem Sta.set_atno (S : Sta L σ G H) (hi : L[i]? = some .no) (x : Option V) : Sta L (σ.set i x) G H ∧ Ts L σ G H L (σ.set i x) G H := by
  have nO : ∀ j us, L[j]? = some (Sl.ow us) → i ≠ j := fun j us e z => by
    rw [← z, hi] at e
    cases e
  refine ⟨⟨S.gh, by rw [List.length_set]; exact S.ln, fun j x t e1 e2 => ?_, fun j k a us ws e1 e2 e3 e4 => ?_⟩, ⟨Same.refl _, fun b o h g _ _ => ⟨h, g⟩, fun b ⟨j, us, e1, e2⟩ => ?_, .refl⟩⟩
  · by_cases hj : i = j
    · subst hj
      rw [hi] at e2
      cases e2
      trivial
    · rw [List.getElem?_set_ne hj] at e1
      exact S.sl j x t e1 e2
  · rw [List.getElem?_set_ne (nO j us e1)] at e3
    rw [List.getElem?_set_ne (nO k ws e2)] at e4
    exact S.di j k a us ws e1 e2 e3 e4
  · rw [List.getElem?_set_ne (nO j us e1)] at e2
    exact .inl ⟨j, us, e1, e2⟩
end
section
variable {F : Fam} {t : Expr} {n y f : Str} {C : Addr} {d : PyData} {body : List Stmt} {L L' : List Sl} {i k : Nat} {p1 p2 p3 pos pos' : Pos}
/-- the body raises, the name keeps the error -/
theorem sd_try (i k : Nat) (hst : ∀ j, (F.x j).stack = (F.x j).env :: (F.x j).outer) (hfr : ∀ j, (F.x j).env.frame = some (F.x j).env.locals) (hex : ∀ j, (F.x j).ex = []) (hb : XsD (F.trW hst hfr hex) body L ⟨C, f, d⟩ L') (ht : ∀ j, TestC (F.x j) t (.ref C)) (hi : L'[i]? = some .no := by rfl) (hz : i ≠ k := by decide)
    (hl : k < L'.length := by exact Nat.le_of_ble_eq_true rfl) (hN : F.N.Nodup := by exact of_decide_eq_true rfl) (hni : F.N[i]? = some n := by rfl) (hnk : F.N[k]? = some y := by rfl) (hxi : F.sc.names.lookup n = some .local := by rfl) (hxk : F.sc.names.lookup y = some .local := by rfl)
    (hsw : ∀ j, swapsWith (.Name n p2) (some (.Name y p1)) p3.line (F.x j).env = pure false := by intro _; rfl) (hd : (n == ("__debug__" : Str)) = false := by decide) (hcd : (n == ("__classdict__" : Str)) = false := by decide) :
    SD [] F (.Try body [.ExceptHandler (some t) (some n) [.Assign [.Name y p1] (.Name n p2) p3] pos'] [] [] pos) L (.nx (L'.set k (.va (excD C f d)))) := by
  obtain ⟨ts, ps, run⟩ := hb
  let tb : WX → TS := fun W D σ H => ∀ q, q.1.2.2.2 = W → ts q D σ H
  refine ⟨fun D σ H => tb (wKeep (.ref C) i k D) D σ H, fun j => ?_, fun σ G H S D q => ?_⟩
  · refine ps_try_keep (X := F.x j) (tb := tb) (hst j) (hfr j) (hex j) (by rw [F.hN]; exact hN) (by rw [F.hN]; exact hni) ?_ (by rw [F.hN]; exact hnk) ?_ (ht j) (fun W pn xe tk po => ?_) (hsw j) hd hcd (by rw [F.hN]; exact (List.getElem?_eq_some_iff.mp hni).1)
    · show (F.x j).env.scope.names.lookup n = _
      rw [F.hsc]
      exact hxi
    · show (F.x j).env.scope.names.lookup y = _
      rw [F.hsc]
      exact hxk
    · exact ⟨fun pins s σ H D I h => (ps ⟨(j, pn, xe, W), tk, po⟩).run pins s σ H D I (h ⟨(j, pn, xe, W), tk, po⟩ rfl)⟩
  · intro j hj
    refine run j σ G H S D fun cls dd σ1 G1 H1 S1 T1 ok => ?_
    rw [show (F.trW hst hfr hex).W j = wKeep (.ref C) i k D from hj]
    obtain ⟨ecl, a0, v, rfl, h2, h3⟩ := ok
    refine ⟨ecl, C, a0, ecl, rfl, fun a ha => ?_⟩
    obtain ⟨S2, T2⟩ := S1.newG (o := exV a C a0) ha
    have rE : Rp (upd G1 a (exV a C a0)) (.ref a) (excD C f d) := .exc upd_same (T2.g _ _ h2) (h3.up T2.g)
    obtain ⟨S3, T3⟩ := S2.set_atno hi (some (.ref a))
    obtain ⟨S4, T4⟩ := S3.set_va hl rE
    obtain ⟨S5, T5⟩ := S4.set_atno (i := i) (by rw [List.getElem?_set_ne (Ne.symm hz)]; exact hi) none
    refine q _ _ _ S5 ((((T1.trans S1.gh T2.ts).trans S2.gh T3).trans S3.gh T4).trans S4.gh T5) ?_
    intro q hq
    cases hq
end
end DL
namespace DL
open PySem PyProof.Rows L2
variable [TabL]
section
variable {z : List Nat} {F : Fam} {e e1 e2 a b c tg iter elt : Expr} {L L1 L2' L' L3 : List Sl} {d d1 d2 : PyData} {ds its rs : List PyData} {x : Str} {pos p : Pos} {σ σ' : L2.St} {G H G' H' : Hp}
/-! ### dicts of texts by whole numbers -/
def kvSD (kvs : List (Int × Str)) : List (PyData × PyData) := kvs.map fun q => (PyData.int q.1, PyData.str q.2)
def kvSV (kvs : List (Int × Str)) : List (Key × V) := kvs.map fun q => (Sum.inl q.1, V.str q.2)
def kvST (q : Int × Str) : PyData := .tuple [.int q.1, .str q.2]
theorem merge_newS : ∀ (more done : List (Int × Str)), ((done ++ more).map (·.1)).Nodup → mergeK (kvSV done) (kvSV more) = kvSV (done ++ more)
  | [], done, _ => by
    rw [List.append_nil]
    rfl
  | q :: more, done, h => by
    have e : putK (kvSV done) (Sum.inl q.1) (V.str q.2) = kvSV (done ++ [q]) := by
      unfold putK
      rw [if_neg]
      · unfold kvSV
        rw [List.map_append]
        rfl
      · intro hh
        obtain ⟨w, hw, e⟩ := List.any_eq_true.mp hh
        obtain ⟨u, hu, rfl⟩ := List.mem_map.mp hw
        have e2 : u.1 = q.1 := by
          have := of_decide_eq_true e
          exact Sum.inl.inj this
        rw [List.map_append, List.map_cons, List.nodup_append] at h
        exact h.2.2 u.1 (List.mem_map_of_mem hu) q.1 (List.mem_cons_self ..) e2
    have ih := merge_newS more (done ++ [q]) (by rw [List.append_assoc]; exact h)
    rw [List.append_assoc] at ih
    show mergeK (putK (kvSV done) (Sum.inl q.1) (V.str q.2)) (kvSV more) = _
    rw [e]
    exact ih
theorem pairsPS {K : PySem.W.Frag} {H : Hp} : ∀ {kvs : List (Int × Str)} {xs : List V}, RpA H xs (kvs.map kvST) → ∃ ps : List Addr, xs = ps.map V.ref ∧ Paired (fun p (kv : Key × V) => SqT K H p [kV kv.1, kv.2]) ps (kvSV kvs)
  | [], _, .nil => ⟨[], rfl, .nil⟩
  | q :: kvs, _, .cons r t => by
    obtain ⟨ps, e, pr⟩ := pairsPS (K := K) t
    cases r with
    | @tup a ys _ h1 h2 =>
      refine ⟨a :: ps, by rw [e]; rfl, .cons ?_ pr⟩
      cases h2 with
      | cons r1 t1 =>
        cases r1
        cases t1 with
        | cons r2 t2 =>
          cases r2
          cases t2
          exact SqT.of h1
theorem ed_dictS {kvs : List (Int × Str)} (h : ED F e L (.list (kvs.map kvST)) L') (nd : (kvs.map (·.1)).Nodup) (hm : F.mg "dict" = none) (hg : GlF F "dict" := by rfl) (hs : ∀ env, starEach [e] env = (false, eval e env) :: starEach [] env := by intro _; rfl) : ED F (.Call (.Name "dict" p) [e] [] pos) L (.dict (kvSD kvs)) L' := by
  obtain ⟨te, pe, run⟩ := h
  refine ⟨_, ty_any (dictf F) hg hm (by decide +kernel) (pa1 pe hs) (by decide) (by decide) hs (fun _ => rfl), fun σ G H S Q q => run σ G H S _ fun v G' H' S' T r => ?_⟩
  cases r with
  | @lst a xs _ h1 h2 =>
    obtain ⟨ps, e, pr⟩ := pairsPS (K := F.K) (h2.up S'.gh)
    refine ⟨a, ps, kvSV kvs, rfl, SqL.of (by rw [S'.gh _ _ h1, e]), pr, fun p0 hp => ?_⟩
    have em := merge_newS kvs [] nd
    rw [List.nil_append] at em
    rw [show mergeK [] (kvSV kvs) = kvSV kvs from em]
    obtain ⟨S2, T2⟩ := S'.newG (o := .dK (kvSV kvs)) hp
    exact q _ _ _ S2 (T.trans T2) (.dcs kvs upd_same)
theorem valV_getS {kvs : List (Int × Str)} {k : Int} {v : Str} (nd : (kvs.map (·.1)).Nodup) (h : (k, v) ∈ kvs) : valV (kvSV kvs) (Sum.inl k) = some (V.str v) := by
  induction kvs with
  | nil => cases h
  | cons q kvs ih =>
    rw [List.map_cons, List.nodup_cons] at nd
    rcases List.mem_cons.mp h with h | h
    · subst h
      unfold valV kvSV
      simp
    · have hne : q.1 ≠ k := fun e => nd.1 (by rw [e]; exact List.mem_map_of_mem (f := fun x : Int × Str => x.1) h)
      have := ih nd.2 h
      unfold valV kvSV at this ⊢
      rw [List.map_cons, List.find?_cons]
      have : decide ((Sum.inl q.1 : Key) = Sum.inl k) = false := by
        rw [decide_eq_false]
        intro e
        exact hne (Sum.inl.inj e)
      rw [this]
      assumption
theorem kvS_inj : ∀ {a b : List (Int × Str)}, kvSD a = kvSD b → a = b
  | [], [], _ => rfl
  | [], _ :: _, h => by cases h
  | _ :: _, [], h => by cases h
  | q2 :: l2, q :: l, h2 => by
    unfold kvSD at h2
    rw [List.map_cons, List.map_cons, List.cons.injEq, Prod.mk.injEq] at h2
    obtain ⟨⟨h3, h4⟩, h5⟩ := h2
    have e1 : q2 = q := Prod.ext (PyData.int.inj h3) (PyData.str.inj h4)
    rw [e1, kvS_inj (a := l2) (b := l) h5]
theorem ed_ixS {kvs : List (Int × Str)} {k : Int} {v : Str} (ha : ED F a L (.dict (kvSD kvs)) L1) (hb : ED F b L1 (.int k) L') (nd : (kvs.map (·.1)).Nodup) (h : (k, v) ∈ kvs) (hs : NoSl b := by exact fun _ _ => rfl) : ED F (.Subscript a b pos) L (.str v) L' := by
  obtain ⟨ta, pa, ra⟩ := ha
  obtain ⟨tb, pb, rb⟩ := hb
  refine ⟨_, fun j => pe_dget (by have := (F.hr j).un; omega) (pa j) (pb j) hs, fun σ G H S Q q => ra σ G H S _ fun x G1 H1 S1 T1 r1 => rb σ G1 H1 S1 _ fun y G2 H2 S2 T2 r2 => ?_⟩
  cases r2
  generalize hd : PyData.dict (kvSD kvs) = dd at r1
  cases r1 with
  | @dcs a0 kvs2 h1 =>
    have e : kvs2 = kvs := kvS_inj (PyData.dict.inj hd).symm
    rw [e] at h1
    refine ⟨a0, V.str v, rfl, ?_, q _ _ _ S2 (T1.trans T2) (.str v)⟩
    have := DGet.k (k := Sum.inl k) (S2.gh _ _ (T2.g _ _ h1))
    rw [show valV (kvs.map fun q => ((Sum.inl q.1 : Key), V.str q.2)) (Sum.inl k) = some (V.str v) from valV_getS nd h] at this
    exact this
  | dct kvs2 h1 =>
    cases kvs with
    | nil => cases h
    | cons q l =>
      have h2 := PyData.dict.inj hd
      cases kvs2 with
      | nil => simp [kvSD] at h2
      | cons q2 l2 => simp [kvSD] at h2
  | dks kvs2 h1 =>
    cases kvs with
    | nil => cases h
    | cons q l =>
      have h2 := PyData.dict.inj hd
      cases kvs2 with
      | nil => simp [kvSD] at h2
      | cons q2 l2 => simp [kvSD] at h2
  | exc =>
    cases kvs with
    | nil => cases hd
    | cons q l =>
      have h2 := PyData.dict.inj hd
      simp [kvSD] at h2
  | _ => cases hd
end
end DL
namespace DL
open PySem PyProof.Rows L2
variable [TabL]
section
variable {z : List Nat} {F : Fam} {e e2 a b c : Expr} {es : List Expr} {L L1 L2' L' L3 : List Sl} {d d1 d2 r : PyData} {ds ds2 rs ms ms' : List PyData} {pos p p2 : Pos} {x y : Str}
theorem tuplef (F : Fam) (j : F.J) : CallR (F.x j) (.type "tuple") (fun xs H Q => ∃ p ys, xs = [.ref p] ∧ ((SqL F.K H p ys ∧ ∀ l, H l = none → Q (.ref l) (upd H l (.tup ys))) ∨ (SqT F.K H p ys ∧ Q (.ref p) H))) := by
  rw [← F.hK j]
  exact call_tuple_of
/-- tuple(a list) -/
theorem ed_tupL (h : LD F e L ds L') (hm : F.mg "tuple" = none) (hg : GlF F "tuple" := by rfl) (hs : ∀ env, starEach [e] env = (false, eval e env) :: starEach [] env := by intro _; rfl) : ED F (.Call (.Name "tuple" p) [e] [] pos) L (.tuple ds) L' := by
  obtain ⟨te, pe, run⟩ := h
  refine ⟨_, ty_any (tuplef F) hg hm (by decide +kernel) (pa1 pe hs) (by decide) (by decide) hs (fun _ => rfl), fun σ G H S Q q => run σ G H S _ fun a xs G' H' S' T h1 r => ⟨a, xs, rfl, .inl ⟨SqL.of h1, fun l hl => ?_⟩⟩⟩
  obtain ⟨S2, T2⟩ := S'.newG (o := .tup xs) hl
  exact q _ _ _ S2 (T.trans T2) (.tup upd_same (r.up T2.g))
/-- {} -/
theorem ed_dict0 : ED F (.Dict [] [] pos) L (.dict []) L := by
  refine ⟨tDNewK, fun j => pe_dnewK, fun σ G H S Q q p hp => ?_⟩
  obtain ⟨S2, T2⟩ := S.newG (o := .dK []) hp
  exact q _ _ _ S2 T2 (.dct [] upd_same)
/-- own + a list, of which nothing is changed -/
theorem fd_catO {py : Pos} (i : Nat) (hi : L[i]? = some (Sl.ow ms)) (hb : ED F b L (.list ds2) L) (hl : ms.length + ds2.length ≤ 100000) (hN : F.N[i]? = some y := by rfl) (hv : Vis F.sc y := by first | exact Or.inl rfl | exact Or.inr (Or.inl rfl) | exact Or.inr (Or.inr rfl)) (hd : (y == ("__debug__" : Str)) = false := by decide) (hcd : (y == ("__classdict__" : Str)) = false := by decide) :
    FD F (.BinOp (.Name y py) .Add b pos) L (ms ++ ds2) L := by
  obtain ⟨tb, pb, rb⟩ := hb
  refine ⟨_, fun j => pe_op op_cat (pvF F i hN hv hd hcd j) (pb j), fun σ G H S Q q => ?_⟩
  obtain ⟨x0, e1, q0, xs0, rfl, _⟩ := S.get hi
  refine ⟨.ref q0, e1, rb σ G H S _ fun y G2 H2 S2 T2 ry => ?_⟩
  obtain ⟨x1, e2, a', xs, z, k1, k2, k3⟩ := S2.get hi
  rw [e1] at e2
  cases e2
  cases z
  cases ry with
  | @lst q1 ys _ f1 f2 =>
    refine ⟨q0, q1, xs, ys, rfl, rfl, k1, S2.gh _ _ f1, Nat.le_trans (by rw [k2.len, f2.len]; exact hl) (by decide), fun p hp => ?_⟩
    obtain ⟨S4, T4⟩ := S2.new (o := .lst (xs ++ ys)) hp
    exact q p _ G2 _ S4 (T2.trans T4) (T2.back hp) upd_same (S2.gn hp) (k2.app f2)
end
end DL
namespace DL
open PySem PyProof.Rows L2
variable [TabL]
section
variable {K : PySem.W.Frag} {C D : Addr} {b : Bool}
theorem kit_ref (hd : PySem.W.hasDictIn K D = true) (ht : PySem.W.typeIn K (.ref D) = some (.type "type")) (h : PySem.W.subIn K (.ref C) (.ref D) = some b) (hs : PySem.W.subIn K (.ref C) (.ref C) = some true) : PySem.W.kitOne K (.ref C) (.ref D) = some b := by
  obtain ⟨cd, hc, _⟩ := PySem.W.any_some hd
  unfold PySem.W.kitOne
  by_cases e : C = D
  · subst e
    rw [if_pos (beq_self_eq_true _), ← hs, h]
  · rw [if_neg (fun z => e (Value.ref.inj (beq_iff_eq.mp z)))]
    have e2 : ((PySem.W.clsIn K D).isSome && PySem.W.typeIn K (.ref D) == some (.type "type")) = true := by rw [hc, ht] <;> rfl
    show (if ((PySem.W.clsIn K D).isSome && PySem.W.typeIn K (.ref D) == some (.type "type")) = true then PySem.W.subIn K (.ref C) (.ref D) else none) = some b
    rw [if_pos e2]
    exact h
theorem kit_type {T : String} (hm : PySem.W.kitMeta T = true) (h : PySem.W.subIn K (.ref C) (.type T) = some b) : PySem.W.kitOne K (.ref C) (.type T) = some b := by
  unfold PySem.W.kitOne
  rw [if_neg (fun z => by have := beq_iff_eq.mp z; cases this)]
  show (if PySem.W.kitMeta T = true then PySem.W.subIn K (.ref C) (.type T) else none) = some b
  rw [if_pos hm]
  exact h
theorem exmAny_nil {cls : Value} : PySem.W.exmAny K cls [] = some false := rfl
theorem exmAny_cons' {cls c : Value} {r : List Value} {b1 d1 : Bool} (h1 : PySem.W.exmOne K cls c = some b1) (h2 : PySem.W.exmAny K cls r = some d1) : PySem.W.exmAny K cls (c :: r) = some (b1 || d1) := by
  unfold PySem.W.exmAny
  rw [h1, h2]
end
theorem kmVE : PySem.W.kitMeta "ValueError" = true := by decide +kernel
theorem kmLE : PySem.W.kitMeta "LookupError" = true := by decide +kernel
end DL
namespace DL
open PySem PyProof.Rows L2 LamX
variable [TabL]

/-! ### a lambda is made -/
/-- what its making leaves of what is known -/
structure Mkd (H H1 : Hp) (c' : Addr) (q : Str) : Prop where
  nt : ∀ b o, H b = some o → NT o → H1 b = some o
  th : ∀ b o, H b = some o → ∃ u, H1 b = some u
  tb : Tabs TabL.T H1
  co : H1 c' = some (CodeO c' q)
section
variable {X : Cx} {pins : List (Addr × Obj)} {σ : L2.St} {H : Hp} {s : Shared} {c P : Addr} {q : Str} {params : Arguments} {body : Expr} {scope : Scope} {pos : Pos}
theorem mkd_new {ps : Array Value} {c' : Addr} (hP : H P = some (.tbl ps)) (hc : H c' = none) (ht : TriplesOk ps.toList) (hT : Tabs TabL.T H) (hu : ∀ p ∈ TabL.T, p.1 = P → p.2 = q) :
    Mkd H (upd (upd H P (.tbl (ps ++ #[rawInt pos.line, rawInt pos.col, .ref c']))) c' (CodeO c' q)) c' q := by
  have hne : P ≠ c' := ne_of_none hP hc
  have stays : ∀ b o, H b = some o → NT o → upd (upd H P (.tbl (ps ++ #[rawInt pos.line, rawInt pos.col, .ref c']))) c' (CodeO c' q) b = some o := fun b o hb n => by
    have h1 : b ≠ c' := ne_of_none hb hc
    have h2 : b ≠ P := fun e => by
      rw [e, hP] at hb
      exact n ps (Option.some.inj hb).symm
    rw [upd_ne h1, upd_ne h2]
    exact hb
  have nco : ∀ d, NT (CodeO d q) := fun d ps z => codeO_ne ps z
  refine ⟨stays, fun b o hb => ?_, fun p hp => ?_, upd_same⟩
  · by_cases h1 : b = c'
    · exact ⟨_, by rw [h1]; exact upd_same⟩
    · by_cases h2 : b = P
      · exact ⟨_, by rw [upd_ne h1, h2]; exact upd_same⟩
      · exact ⟨o, by rw [upd_ne h1, upd_ne h2]; exact hb⟩
  · obtain ⟨qs, a1, a2, a3⟩ := hT p hp
    have known : ∀ (p' : Pos) (cv : Value), codeAmong p' qs.toList = some cv → ∃ d, cv = .ref d ∧ upd (upd H P (.tbl (ps ++ #[rawInt pos.line, rawInt pos.col, .ref c']))) c' (CodeO c' q) d = some (CodeO d p.2) := fun p' cv e => by
      obtain ⟨d, e1, e2⟩ := a3 p' cv e
      exact ⟨d, e1, stays _ _ e2 fun ps z => codeO_ne ps z⟩
    by_cases hb : p.1 = P
    · have eq := hu p hp hb
      rw [hb, hP] at a1
      cases a1
      have eL : (ps ++ #[rawInt pos.line, rawInt pos.col, .ref c']).toList = ps.toList ++ [rawInt pos.line, rawInt pos.col, .ref c'] := by simp
      refine ⟨_, by rw [hb, upd_ne hne]; exact upd_same, by rw [eL]; exact PySem.TriplesOk_snoc _ _ _ _ ht, fun p' cv e => ?_⟩
      rw [eL] at e
      rcases among_app _ ht e with z | z
      · exact known p' cv z
      · exact ⟨c', z, by rw [eq]; exact upd_same⟩
    · exact ⟨qs, by rw [upd_ne (ne_of_none a1 hc), upd_ne hb]; exact a1, a2, known⟩
/-- a frame is no new place -/
theorem new_nofr (I : Inv X pins σ H s) {f : Addr} (hf : s.heap.objs.size ≤ f) : f ∉ frs X.stack := fun z => by
  cases List.mem_cons.mp (I.stkSub _ z) with
  | inl e => exact Nat.not_lt.mpr hf (by rw [e]; exact I.lt)
  | inr e => exact I.nofs hf e
theorem lam_mk {E : Value → Shared → Prop} {Q : Value → Shared → Prop} (I : Inv X pins σ H s) (TB : TabB X.base X.mg c P) (hcode : X.env.code = .ref c) (hq : X.env.qual ++ "<lambda>" = q) (hm : (P, q) ∈ TabL.T) (hu : ∀ p ∈ TabL.T, p.1 = P → p.2 = q) (hT : Tabs TabL.T H)
    (hdef : defaultsOf params X.env = ([], [])) (hfree : ∀ y ∈ scope.names, y.2 = .free → ∃ c, X.env.cells.lookup y.1 = some c)
    (h : ∀ (f c' : Addr) (pm ctv : Value) (H1 : Hp) (s' : Shared), Inv X pins σ H1 s' → Mkd H H1 c' q → s'.heap.get? f = some (PySem.W.kla_obj "<lambda>" q params body scope (cloFrom X.env.cells scope.names []) pm c' ctv) → H1 f = none → f ∉ frs X.stack → Q (.ref f) s') :
    wpAny (model X.prog X.w) X.A (eval (.Lambda params body scope pos) X.env) Q E s := by
  obtain ⟨ps, hP, ht, ha⟩ := hT _ hm
  refine PySem.W.kla_eval hdef ?_
  rw [hq]
  have at0 : s.heap.get? P = some { cls := .none, data := .fields ps } := I.hok P _ hP
  cases e : codeAmong pos ps.toList with
  | some cv =>
    obtain ⟨d, rfl, hd⟩ := ha pos cv e
    refine PySem.W.kla_makeFunctionHit (closure_ok hfree) I.ok.glob (I.mod.glob.keeps I.bk) hcode (TB.code.keeps I.bk) at0 ht e (TB.bm.keeps I.bk) fun ctv h' tk kp big => ?_
    exact h _ d _ ctv H _ (I.kept (t' := tk) fun b o z => Heap.get?_push_of_some _ (kp b o z)) ⟨fun _ _ z _ => z, fun _ o z => ⟨o, z⟩, hT, hd⟩ (Heap.get?_push_size _ rfl) (I.hok.fresh big) (new_nofr I big)
  | none =>
    refine PySem.W.kla_makeFunction (closure_ok hfree) I.ok.glob (I.mod.glob.keeps I.bk) hcode (TB.code.keeps I.bk) at0 ht e TB.gP (TB.bm.keeps I.bk) fun d ctv h' tk kp above below hrec tab => ?_
    obtain ⟨d2, od, vs, t, e2, g1, g2, g3⟩ := hrec
    cases e2
    have hd : H d = none := I.hok.fresh above
    have big : s.heap.objs.size ≤ h'.objs.size := by omega
    have J := inv_table (t' := tk) (h' := h'.push (PySem.W.kla_obj "<lambda>" q params body scope (cloFrom X.env.cells scope.names []) ((X.mg "__name__").getD .none) d ctv)) I hP (fun b o hb z => Heap.get?_push_of_some _ (kp b o hb z)) (Heap.get?_push_of_some _ tab) above ⟨od, vs, t, Heap.get?_push_of_some _ g1, g2, g3⟩
    refine h _ d _ ctv _ _ J (mkd_new hP hd ht hT hu) (Heap.get?_push_size _ rfl) ?_ (new_nofr I big)
    have n2 : h'.objs.size ≠ P := fun z => Nat.not_lt.mpr big (by rw [z]; exact Heap.lt_size at0)
    rw [upd_ne (Nat.ne_of_gt below), upd_ne n2]
    exact I.hok.fresh big
end

/-! ### a lambda is called -/
section
variable {X : Cx} {pins : List (Addr × Obj)} {σ : L2.St} {H HZ : Hp} {s s1 : Shared} {q : Str} {params : Arguments} {body : Expr} {scope : Scope} {f c' : Addr} {pm ctv : Value} {k : Nat}
theorem lam_go {A : Around} {outer : List Env} {Q : VK} {E : XK} {t : TE} (I : Inv X pins σ H s) (L : LamS X.env.scope scope) (hq : X.env.qual ++ "<lambda>" = q) (hf : s.heap.get? f = some (PySem.W.kla_obj "<lambda>" q params body scope (cloFrom X.env.cells scope.names []) pm c' ctv)) (hfn : H f = none) (hfr : f ∉ frs X.stack)
    (hb : bindArgs (PySem.W.kla_fn "<lambda>" q params body scope (cloFrom X.env.cells scope.names []) pm (.ref c') ctv) ⟨[], []⟩ = pure []) (r : Room (k + 1) A) (e0 : Env0 X.prog X.w X.K X.mg X.base A outer s1 HZ) (un : Un (frs X.stack) [] H HZ s.heap s1.heap) (hc : HZ c' = some (CodeO c' q))
    (pe : PE (lamCx X A outer s1 HZ E scope f c') body t) (ht : t σ HZ Q) : codeAny (model X.prog X.w) A (.call (.ref f) ⟨[], []⟩) (CR (L2.CX X.prog X.w) outer X.prog X.w HZ s1 Q E) s1 := by
  subst hq
  have here := un.keep f _ hf hfn hfr (fun z => nomatch (show f ∈ ([] : List Addr) from z))
  obtain ⟨⟨od, vs, tq, k1, k2, k3⟩, _⟩ := e0.hok c' _ hc
  refine PySem.W.kla_callFunE r.depth here rfl L.co L.gen rfl ⟨c', od, vs, tq, rfl, k1, k2, k3⟩ ?_
  rw [hb]
  refine wpAny_pure (wpAny_newFunctionEnv (fun y hy => (L.own y hy).2) (fun y hy => nomatch (show y ∈ ([] : List (Str × Value)) from hy)) (fun h' ns sb => ?_) L.kind)
  have lim : s1.heap.NoLimit := e0.mod.nolimit.keeps fun b o e => (e0.bs b o e).1
  have kp : ∀ b o, s1.heap.get? b = some o → h'.get? b = some o := fun b o e => sb.extBut b o (Nat.ne_of_lt (Heap.lt_size e)) (Heap.get?_push_of_some _ e)
  have J := lam_start2 (E := E) (f := f) (c' := c') (tk := s1.toks + ([] : List (Str × Value)).length) I L e0 r.hd un ns kp
  refine ⟨lim.fresh _ sb, PySem.W.kla_codeExpr (env := lamEnv X scope s1.heap.objs.size f c') (wpAny_mono (pe.run [] _ _ HZ Q J ht) (fun v s' w => ?_) fun e s' w => w)⟩
  obtain ⟨u, H', J', rv, w⟩ := w
  exact ⟨u, H', J'.os, J'.bare, J'.base, J'.hok, rv, w⟩
end
end DL
namespace DL
open PySem PyProof.Rows L2 LamX
variable [TabL]

/-! ### the contexts of a lambda's body -/
def LamJ (F : Fam) (scope : Scope) (k : Nat) : Type :=
  { t : F.J × Around × List Env × Shared × Hp × XK × Addr × Addr // t.2.1.guards = some [] ∧ Room k (t.2.1.deeper (lamEnv (F.x t.1) scope t.2.2.2.1.heap.objs.size t.2.2.2.2.2.2.1 t.2.2.2.2.2.2.2)) }
def LamJ.cx {F : Fam} {scope : Scope} {k : Nat} (t : LamJ F scope k) : Cx := lamCx (F.x t.1.1) t.1.2.1 t.1.2.2.1 t.1.2.2.2.1 t.1.2.2.2.2.1 t.1.2.2.2.2.2.1 scope t.1.2.2.2.2.2.2.1 t.1.2.2.2.2.2.2.2
def lamF (F : Fam) (scope : Scope) (k : Nat) : FamW where
  F := {
    J := LamJ F scope k
    x := fun t => t.cx.nox
    P := F.P
    w := F.w
    K := F.K
    mg := F.mg
    base := F.base
    N := F.N
    sc := scope
    fn := fun _ => false
    k := k
    hP := fun t => F.hP t.1.1
    hw := fun t => F.hw t.1.1
    hK := fun t => F.hK t.1.1
    hmg := fun t => F.hmg t.1.1
    hbase := fun t => F.hbase t.1.1
    hN := fun t => F.hN t.1.1
    hsc := fun _ => rfl
    hfn := fun _ => rfl
    hc := fun _ => rfl
    hr := fun t => t.2.2
    hxe := fun _ => rfl
    hg := fun t => guards_in t.2.1 }
  W := fun t => fun cls d _ H => t.1.2.2.2.2.2.1 cls d H
  y := fun t => t.cx
  hy := fun _ => rfl
  hst := fun _ => rfl
  hfr := fun _ => rfl
  hex := fun _ => rfl
  po := fun _ => passes_of rfl
  tk := fun _ => takes_of rfl rfl rfl rfl

section
variable {L : List Sl} {σ : L2.St} {G G1 G2 G' H H1 H' : Hp} {i : Nat} {q : Str} {c' : Addr}
theorem Sta.hid (S : Sta L σ G H) : Sta (L.map hid) σ G H := by
  refine ⟨S.gh, by rw [List.length_map]; exact S.ln, fun i x t e1 e2 => ?_, fun i j a ds es e _ _ _ => (hid_own e).elim⟩
  rw [List.getElem?_map] at e2
  cases e : L[i]? with
  | none => rw [e] at e2; cases e2
  | some u =>
    rw [e] at e2
    have h := S.sl i x u e1 e
    cases u <;> cases e2 <;> first | exact h | trivial
/-- nothing but frozen data: over any later state -/
theorem Sta.reG (S : Sta (L.map DL.hid) σ G H) (g : Same G G') (gh : Same G' H') : Sta (L.map DL.hid) σ G' H' := by
  refine ⟨gh, S.ln, fun i x t e1 e2 => ?_, S.di⟩
  have h := S.sl i x t e1 e2
  rw [List.getElem?_map] at e2
  cases e : L[i]? with
  | none => rw [e] at e2; cases e2
  | some u =>
    rw [e] at e2
    cases u <;> cases e2 <;> first | trivial | exact (let ⟨v, e3, r⟩ := h; ⟨v, e3, r.up g⟩)
theorem Sta.tabs (S : Sta L σ G H) (hi : L[i]? = some .tb) : Tabs TabL.T H ∧ NoT G := by
  obtain ⟨_, _, h⟩ := S.get hi
  exact h
/-- a lambda was made -/
theorem Sta.made (S : Sta L σ G H) (n : NoT G) (m : Mkd H H1 c' q) : ∃ G2, Sta L σ G2 H1 ∧ Te L σ G H L G2 H1 ∧ G2 c' = some (CodeO c' q) := by
  have S1 : Sta L σ G H1 := by
    refine ⟨fun b o e => m.nt b o (S.gh b o e) (n b o e), S.ln, fun i x t e1 e2 => ?_, S.di⟩
    have h := S.sl i x t e1 e2
    cases t with
    | ow ds =>
      obtain ⟨a, xs, e, h1, h2, h3⟩ := h
      exact ⟨a, xs, e, m.nt _ _ h1 nt_lst, h2, h3⟩
    | tb => exact ⟨m.tb, h.2⟩
    | no => exact h
    | va d => exact h
    | fn f G1 => exact h
  have T1 : Te L σ G H L G H1 := ⟨Same.refl _, fun b o hb gb _ nt => ⟨m.nt b o hb nt.1, gb⟩, fun _ z => z, ⟨m.th, fun _ => m.tb, fun h => h⟩⟩
  cases e : G c' with
  | some o =>
    have h1 := S1.gh c' o e
    rw [m.co] at h1
    cases h1
    exact ⟨G, S1, T1, e⟩
  | none =>
    have nco : NT (CodeO c' q) := fun ps z => codeO_ne ps z
    have no : ¬ Own L σ c' := fun z => by
      obtain ⟨⟨xs, h⟩, _⟩ := S1.own_some z
      rw [m.co] at h
      unfold CodeO at h
      cases h
    obtain ⟨S2, g2⟩ := S1.freeze m.co e no nco
    refine ⟨_, S2, ⟨g2, fun b o hb gb nb nt => ?_, T1.ow, T1.th.trans (.frz nco)⟩, upd_same⟩
    refine ⟨m.nt b o hb nt.1, ?_⟩
    have hb2 : b ≠ c' := fun z => by
      have h1 := m.nt b o hb nt.1
      rw [z, m.co] at h1
      exact nt.2 c' q (Option.some.inj h1).symm
    rw [upd_ne hb2]
    exact gb
end
end DL
namespace DL
open PySem PyProof.Rows L2 LamX
variable [TabL]

/-- the lambda at f, made at G1 and s0: whoever calls it is told er -/
structure LamK (P : Program) (w : World) (K : PySem.W.Frag) (mg : Str → Option Value) (base : Heap) (G1 : Hp) (s0 : Shared) (H0 : Hp) (fs : List Addr) (f : Addr) (k : Nat) (er : Er) : Prop where
  fa : ∃ oc od fd sl, s0.heap.get? f = some ⟨oc, od, .func fd, sl⟩
  fh : H0 f = none
  ff : f ∉ fs
  go : ∀ (A : Around) (outer : List Env) (s1 : Shared) (HZ : Hp) (Q : VK) (E : XK), A.guards = some [] → Room k A → Env0 P w K mg base A outer s1 HZ → Un fs [] H0 HZ s0.heap s1.heap →
    (∃ GZ, Same G1 GZ ∧ Same GZ HZ ∧ ∀ cls dd G' H', Aft N0 GZ HZ G' H' → ErOk G' er cls dd → E cls dd H') → codeAny (model P w) A (.call (.ref f) ⟨[], []⟩) (CR (L2.CX P w) outer P w HZ s1 Q E) s1
section
variable {F : Fam} {L : List Sl} {σ : L2.St} {G1 H1 : Hp} {pins : List (Addr × Obj)} {s' : Shared} {scope : Scope} {body : Expr} {er : Er} {k : Nat} {q : Str} {params : Arguments} {f c' : Addr} {pm ctv : Value}
theorem lamK_of (j : F.J) (I : Inv (F.x j) pins σ H1 s') (Ls : LamS F.sc scope) (hq : (F.x j).env.qual ++ "<lambda>" = q) (hf : s'.heap.get? f = some (PySem.W.kla_obj "<lambda>" q params body scope (cloFrom (F.x j).env.cells scope.names []) pm c' ctv)) (hfn : H1 f = none) (hfr : f ∉ frs (F.x j).stack)
    (hb : ∀ (cl : List (Str × Addr)) (cv : Value), bindArgs (PySem.W.kla_fn "<lambda>" q params body scope cl pm cv ctv) ⟨[], []⟩ = pure []) (S1 : Sta (L.map DL.hid) σ G1 H1) (hco : G1 c' = some (CodeO c' q))
    (h : XeD (lamF F scope k) body (L.map DL.hid) er (L.map DL.hid)) : LamK F.P F.w F.K F.mg F.base G1 s' H1 (frs (F.x j).stack) f (k + 1) er := by
  refine ⟨⟨_, _, _, _, hf⟩, hfn, hfr, fun A outer s1 HZ Q E g r e0 un ⟨GZ, g1, gz, w⟩ => ?_⟩
  obtain ⟨te, pe, run⟩ := h
  have e0' : Env0 (F.x j).prog (F.x j).w (F.x j).K (F.x j).mg (F.x j).base A outer s1 HZ := by
    rw [F.hP, F.hw, F.hK, F.hmg, F.hbase]
    exact e0
  have go := lam_go (A := A) (outer := outer) (Q := Q) (E := E) I (by rw [F.hsc]; exact Ls) hq hf hfn hfr (hb _ _) r e0' un (gz _ _ (g1 _ _ hco)) (pe ⟨(j, A, outer, s1, HZ, E, f, c'), g, r.deeper _⟩)
    (run _ σ GZ HZ (S1.reG g1 gz) Q fun cls dd G' H' S' T' ok => w cls dd G' H' ⟨T'.g, S'.gh, fun b o hb gb _ => T'.fr b o hb gb (fun ⟨i, us, e, _⟩ => hid_own e), T'.th⟩ ok)
  rw [F.hP, F.hw] at go
  exact go
end

/-! ### a name that holds a function is called -/
section
variable {Y : FamW} {L : List Sl} {G1 : Hp} {f : Addr} {er : Er} {k : Nat} {a : Str} {p1 p2 : Pos}
theorem xe_callF (i : Nat) (hl : ∀ j, LamK Y.F.P Y.F.w Y.F.K Y.F.mg Y.F.base G1 (Y.y j).s_0 (Y.y j).H_0 (Y.y j).fs f k er) (hk : k ≤ Y.F.k) (hi : L[i]? = some (.fn f G1)) (hN : Y.F.N[i]? = some a := by rfl) (hv : Vis Y.F.sc a := by first | exact Or.inl rfl | exact Or.inr (Or.inl rfl) | exact Or.inr (Or.inr rfl))
    (hd : (a == ("__debug__" : Str)) = false := by decide) (hcd : (a == ("__classdict__" : Str)) = false := by decide) : XeD Y (.Call (.Name a p1) [] [] p2) L er L := by
  refine ⟨fun j σ H Q => ∃ G, Sta L σ G H ∧ ∀ cls dd G' H', Sta L σ G' H' → Te L σ G H L G' H' → ErOk G' er cls dd → Y.W j cls dd σ H', fun j => ⟨fun pins s σ H Q I ⟨G, S, q⟩ => ?_⟩, fun j σ G H S Q q => ⟨G, S, q⟩⟩
  obtain ⟨x0, e1, ex, sg⟩ := S.get hi
  subst ex
  refine wpAny_Call_Name_kw (thn ((Y.pe (pvF Y.F (pos := p1) i hN hv hd hcd) j).run pins s σ H (fun v H1 => v = .ref f ∧ H1 = H) I ⟨.ref f, e1, rfl, rfl⟩) fun u s1 ⟨v, H1, I1, r1, ev, eH⟩ => ?_)
  subst ev eH
  obtain rfl : u = Value.ref f := r1
  have K0 := hl j
  have un : Un (Y.y j).fs [] (Y.y j).H_0 H1 (Y.y j).s_0.heap s1.heap := by
    have := I1.base
    rw [Y.hex j] at this
    exact this
  obtain ⟨oc, od, fd, sl, hf⟩ := K0.fa
  have hf1 := un.keep f _ hf K0.fh K0.ff (fun z => nomatch (show f ∈ ([] : List Addr) from z))
  refine PySem.W.callWith_F0 ⟨_, _, _, _, hf1⟩ ?_
  have e0 : Env0 Y.F.P Y.F.w Y.F.K Y.F.mg Y.F.base (Y.y j).A (Y.y j).stack s1 H1 := by
    have := I1.env0
    rw [Y.hP, Y.hw, Y.hK, Y.hmg, Y.hbase] at this
    exact this
  have c := K0.go (Y.y j).A (Y.y j).stack s1 H1 Q (WE (Y.W j) σ) (Y.hg j) ((Y.hr j).mono hk) e0 un ⟨G, sg, S.gh, fun cls dd G' H' A ok => by
    obtain ⟨S2, T2⟩ := S.aft A
    exact q cls dd G' H' S2 T2 ok⟩
  rw [← Y.hP j, ← Y.hw j] at c
  refine wpAny_call (codeAny_mono c fun res t ht => ?_)
  match res, ht with
  | .ok (.ret u), ht => exact I1.after ht
  | .ok .next, ht => exact ht.elim
  | .ok .brk, ht => exact ht.elim
  | .ok .cont, ht => exact ht.elim
  | .error e, ht => exact passAt (Y.tk j) σ pins H1 s1 e t I1 ht
end

/-! ### a def that gets a lambda -/
structure DfL (P : Program) (w : World) (K : PySem.W.Frag) (mg : Str → Option Value) (base : Heap) (x : Str) (k : Nat) (Φ : Er → PyData → Prop) : Prop where
  ex : ∃ (g : Addr) (fd : FuncData) (a : Str), mg x = some (.ref g) ∧ PySem.W.keepIn K (.ref g) = true ∧ (∀ (s : Shared) (u : Value), K.In s.heap → BindsTo s fd ⟨[u], []⟩ [(a, u)]) ∧
    ∀ (er : Er) (r : PyData) (f : Addr) (G1 : Hp) (A : Around) (outer : List Env) (s : Shared) (H : Hp) (args : Args) (Q : VK), Φ er r → A.guards = some [] → Room (k + 1) A → Env0 P w K mg base A outer s H → BindsTo s fd args [(a, .ref f)] → LamK P w K mg base G1 s H (frs outer) f k er → Same G1 H →
      (∀ v G' H', Aft N0 G1 H G' H' → Rp G' v r → Q v H') → codeAny (model P w) A (.call (.ref g) args) (CR CX0 outer P w H s Q E0) s
theorem DfL.mono {P : Program} {w : World} {K : PySem.W.Frag} {mg : Str → Option Value} {base : Heap} {x : Str} {k : Nat} {Φ : Er → PyData → Prop} (D : DfL P w K mg base x k Φ) : DfL P w K mg base x k Φ := D
/-- the contexts of its body, at such a lambda's calls -/
def famL (P : Program) (w : World) (K : PySem.W.Frag) (mg : Str → Option Value) (base : Heap) (N : List Str) (qual : Str) (sc : Scope) (g : Addr) (k : Nat) (G1 : Hp) (f : Addr) (er : Er) : Fam :=
  (famOf P w K mg base N qual sc g k).pull { j : FamJ qual sc g k // LamK P w K mg base G1 j.1.2.2.2.1 j.1.2.2.2.2 (frs j.1.2.2.1) f k er } (·.1)
def startF (N : List Str) (f : Addr) (G1 : Hp) : List Sl := .fn f G1 :: List.replicate (N.length - 1) .no
theorem startF_get {N : List Str} {f : Addr} {G1 : Hp} {i : Nat} {t : Sl} (h : (startF N f G1)[i]? = some t) : t = .fn f G1 ∧ i = 0 ∨ t = .no := by
  cases i with
  | zero => exact .inl ⟨(Option.some.inj h).symm, rfl⟩
  | succ i => exact .inr (List.eq_of_mem_replicate (List.mem_of_getElem? (show (List.replicate (N.length - 1) Sl.no)[i]? = some t from h)))
theorem staF {N : List Str} {f : Addr} {G H : Hp} (gh : Same G H) (hl : 1 ≤ N.length) : Sta (startF N f G) (L2.start N [.ref f]) G H := by
  refine ⟨gh, ?_, fun i x t e1 e2 => ?_, fun i j a us ws e1 _ _ _ => ?_⟩
  · unfold L2.start startF
    simp
  · rcases startF_get e2 with ⟨rfl, rfl⟩ | rfl
    · have : x = some (.ref f) := by
        unfold L2.start at e1
        simpa using e1.symm
      exact ⟨this, Same.refl _⟩
    · trivial
  · rcases startF_get e1 with ⟨z, _⟩ | z <;> cases z
theorem noOwnF {N : List Str} {f : Addr} {G1 : Hp} {σ : L2.St} {b : Addr} : ¬ Own (startF N f G1) σ b := by
  rintro ⟨i, us, e, _⟩
  rcases startF_get e with ⟨z, _⟩ | z <;> cases z
/-- a def's call at one state, by its body there -/
theorem fn_at {P : Program} {w : World} {K : PySem.W.Frag} {mg : Str → Option Value} {base : Heap} {k : Nat} {f : Addr} {fname qual : Str} {params : Arguments} {body : List Stmt} {scope : Scope} {dV kV doc pm cdv ct oc : Value} {an od : Option Addr} {osl : Array (Option Value)} {N ps : List Str} {A : Around} {outer : List Env} {s : Shared} {H : Hp} {args : Args} {us : List Value} {vs : List V} {Q : VK}
    (lk : K.lookup f = some ⟨oc, od, .func (PySem.W.fnOf fname qual params body scope dV kV doc pm an cdv ct), osl⟩) (hcd : PySem.W.codeIn K cdv qual = true) (S : FnScope N ps scope) (hr : Room (k + 1) A) (e0 : Env0 P w K mg base A outer s H) (hb : BindsTo s (PySem.W.fnOf fname qual params body scope dV kV doc pm an cdv ct) args (ps.zip us)) (r : Vals vs us) (len : vs.length = ps.length)
    (hbody : ∃ t, PSs (cxOf CX0 P w K mg base N qual scope f cdv A outer s H E0).nox body t ∧ t { nx := fun _ H' => Q .non H', rt := Q } (start N vs) H) : codeAny (model P w) A (.call (.ref f) args) (CR CX0 outer P w H s Q E0) s := by
  have bk : ∀ b o, base.get? b = some o → s.heap.get? b = some o := fun b o e => (e0.bs b o e).1
  have inK := e0.mod.kin.keeps bk
  refine codeAny_call_function hr.depth (inK _ _ lk) rfl S.co S.gen rfl (PySem.W.codeRec_of inK hcd) (hb _ _ _ _ (wpAny_newFunctionEnv_cells S.kind (fun y hy => ?_) fun env ee s1 x => ?_))
  · cases S.par y.1 (List.of_mem_zip (show (y.1, y.2) ∈ ps.zip us from hy)).1 with
    | inl q => exact .inl q
    | inr q => exact .inr ⟨q, PySem.W.cellsFrom_some _ _ _ (.inl q)⟩
  subst ee
  obtain ⟨t, ht, hq⟩ := hbody
  refine ⟨(e0.mod.nolimit.keeps bk).keeps x.toInCall.keep, codeAny_func (wpAny_mono (ht.nox.run [] s1 (start N vs) H _ (inv_start (CX := CX0) (P := P) (N := N) (qual := qual) (f := f) (cd := cdv) (E := E0) S hr.hd e0 len r x) hq) (fun fl t2 h2 => ?_) fun e t2 h2 => h2)⟩
  match fl, h2 with
  | .ret u, ⟨v, σ2, H2, J, rv, q⟩ => exact ⟨v, H2, J.os, J.bare, J.base, J.hok, rv, q⟩
  | .next, ⟨σ2, H2, J, q⟩ => exact ⟨.non, H2, J.os, J.bare, J.base, J.hok, rfl, q⟩
  | .brk, ⟨_, _, _, q⟩ => exact q.elim
  | .cont, ⟨_, _, _, q⟩ => exact q.elim
section
variable {P : Program} {w : World} {K : PySem.W.Frag} {mg : Str → Option Value} {base : Heap} {x qual : Str} {st : Stmt} {g : Addr} {fd : FuncData} {N : List Str} {a : Str} {k : Nat} {Φ : Er → PyData → Prop}
theorem funLam (Fn : Fun K x qual st g fd) (S : FnScope N [a] (defScope st)) (hb : ∀ er r f G1, Φ er r → ∃ L', SsD [] (famL P w K mg base N qual (defScope st) g k G1 f er) (defBody st) (startF N f G1) (.rt r L')) (m : mg x = some (.ref g)) (b : Binds K fd [a] []) : DfL P w K mg base x k Φ := by
  refine ⟨g, fd, a, m, Fn.kp, fun s u inK => ?_, fun er r f G1 A outer s H args Q hΦ hg hr e0 hbd LK gh q => ?_⟩
  · have := b s [u] inK rfl
    rw [List.append_nil] at this
    exact this
  · obtain ⟨oc, od, kV, doc, pm, an, cdv, ct, osl, rfl, lk, hcd⟩ := Fn.ex
    obtain ⟨L', ts, ps, run⟩ := hb er r f G1 hΦ
    refine fn_at (us := [.ref f]) (vs := [.ref f]) lk hcd S hr e0 hbd (.cons rfl .nil) rfl ⟨ts, ps ⟨⟨(cdv, A, outer, s, H), hg, hr.deeper _⟩, LK⟩, run _ G1 H (staF gh (FnScope.fit S)) _ fun v σ' G' H' S' T' _ rv => ?_⟩
    exact q v G' H' ⟨T'.g, S'.gh, fun b o hb gb _ => T'.fr b o hb gb noOwnF, T'.th⟩ rv
end

/-! ### x(lambda: body) -/
section
variable {F : Fam} {L : List Sl} {i k : Nat} {x : Str} {Φ : Er → PyData → Prop} {er : Er} {r : PyData} {c Pt : Addr} {q : Str} {params : Arguments} {body : Expr} {scope : Scope} {p lpos pos : Pos}
theorem ed_lam (i : Nat) (D : DfL F.P F.w F.K F.mg F.base x (k + 1) Φ) (hk : k + 2 ≤ F.k) (hcode : ∀ j, (F.x j).env.code = .ref c) (hq : ∀ j, (F.x j).env.qual ++ "<lambda>" = q) (TB : TabB F.base F.mg c Pt) (hm : (Pt, q) ∈ TabL.T) (hu : ∀ p ∈ TabL.T, p.1 = Pt → p.2 = q) (hi : L[i]? = some .tb)
    (h : XeD (lamF F scope k) body (L.map DL.hid) er (L.map DL.hid)) (hΦ : Φ er r) (Ls : LamS F.sc scope) (hdef : ∀ j, defaultsOf params (F.x j).env = ([], []) := by intro _; rfl)
    (hb : ∀ (cl : List (Str × Addr)) (pm cv ctv : Value), bindArgs (PySem.W.kla_fn "<lambda>" q params body scope cl pm cv ctv) ⟨[], []⟩ = pure []) (hg : GlF F x := by rfl) (hdb : (x == ("__debug__" : Str)) = false := by decide) : ED F (.Call (.Name x p) [.Lambda params body scope lpos] [] pos) L r L := by
  obtain ⟨g, fd, a, mf, kp, hbd, go⟩ := D.ex
  refine ⟨fun σ H Q => ∃ G, Sta L σ G H ∧ ∀ v G' H', Sta L σ G' H' → Te L σ G H L G' H' → Rp G' v r → Q v H', fun j => ⟨fun pins s σ H Q I ⟨G, S, w⟩ => ?_⟩, fun σ G H S Q w => ⟨G, S, w⟩⟩
  obtain ⟨hT, hG⟩ := S.tabs hi
  have LsX : LamS (F.x j).env.scope scope := by rw [F.hsc]; exact Ls
  have TBX : TabB (F.x j).base (F.x j).mg c Pt := by rw [F.hbase, F.hmg]; exact TB
  refine wpAny_Call_Name_kw (ld_glob I (hg.gl j) (by rw [F.hmg]; exact mf) ?_ hdb)
  refine PySem.W.callWith_K (K := F.K) (h₀ := (F.x j).base) (by rw [← F.hK j]; exact I.ok.mod.kin) kp ?_ (by rfl) (by rfl)
  refine Calls.spliced_cons (lam_mk I TBX (hcode j) (hq j) hm hu hT (hdef j) (LsX.has I.ok) fun f c' pm ctv H1 s' I1 mkd hf hfn hfr => ?_)
  have inK : F.K.In s'.heap := by
    rw [← F.hK j]
    exact I1.kIn
  refine Calls.spliced_nil ⟨inK, ?_⟩
  obtain ⟨G2, S2, T2, hco⟩ := S.made hG mkd
  have LK := lamK_of j I1 Ls (hq j) hf hfn hfr (fun cl cv => hb cl pm cv ctv) S2.hid hco h
  have e0 : Env0 F.P F.w F.K F.mg F.base (F.x j).A (F.x j).stack s' H1 := by
    have := I1.env0
    rw [F.hP, F.hw, F.hK, F.hmg, F.hbase] at this
    exact this
  have cc := go er r f G2 (F.x j).A (F.x j).stack s' H1 ⟨[.ref f], []⟩ Q hΦ (F.hg j) ((F.hr j).mono hk) e0 (hbd s' (.ref f) inK) LK S2.gh fun v G' H' A rv => by
    obtain ⟨S3, T3⟩ := S2.aft A
    exact w v G' H' S3 (T2.trans T3) rv
  rw [← F.hP j, ← F.hw j] at cc
  refine wpAny_call (codeAny_mono cc fun res t ht => ?_)
  match res, ht with
  | .ok (.ret u), ht => exact I1.after ht
  | .ok .next, ht => exact ht.elim
  | .ok .brk, ht => exact ht.elim
  | .ok .cont, ht => exact ht.elim
  | .error e, ht => exact ht.elim
end
end DL
namespace DL
open PySem PyProof.Rows L2 LamX
variable [TabL]
section
variable {F : Fam} {tg iter elt : Expr} {body : List Stmt} {its : List PyData} {x : Str} {σ : L2.St} {G H : Hp} {n : Nat}
/-- nothing known, but the tables (told at slot j) -/
def noT (n j : Nat) : List Sl := (noL n).set j .tb
theorem noT_at {n j k : Nat} {t : Sl} (h : (noT n j)[k]? = some t) : t = .no ∨ t = .tb := by
  unfold noT at h
  by_cases e : j = k
  · subst e
    have hl : j < (noL n).length := by
      have := (List.getElem?_eq_some_iff.mp h).1
      rwa [List.length_set] at this
    rw [List.getElem?_set_self hl] at h
    exact .inr (Option.some.inj h).symm
  · rw [List.getElem?_set_ne e] at h
    exact .inl (noL_at h)
theorem noT_own {n j : Nat} {q : Addr} : ¬ Own (noT n j) σ q := fun ⟨k, us, e, _⟩ => by rcases noT_at e with z | z <;> cases z
theorem staT {j : Nat} (hl : σ.length = n) (gh : Same G H) (t : Tabs TabL.T H ∧ NoT G) : Sta (noT n j) σ G H :=
  ⟨gh, by rw [hl]; simp [noT, noL], fun k x u _ e => by rcases noT_at e with rfl | rfl <;> first | trivial | exact t, fun i j q ds es e _ _ _ => by rcases noT_at e with z | z <;> cases z⟩
/-- for x in a row of new lists, each one's own while its turn goes on, the tables told -/
theorem for_freshT {C : L2.St → Hp → Prop} {px fp : Pos} (i0 j : Nat) (fr : PyData → List PyData) (hn : n = F.N.length) {le : Expr}
    (hl : ∃ tl, PEf F le tl ∧ ∀ σ G H, Sta (noL n) σ G H → C σ H → ∀ Q : VK, (∀ q rs G' H', Sta (noL n) σ G' H' → Te (noL n) σ G H (noL n) G' H' → H' q = some (.lst (rs.map fun w => V.ref w.1)) → G' q = none → Pen G' H' rs → rs.map (·.2) = its.map fr → (∀ w ∈ rs, w.1 ≠ q ∧ H w.1 = none) → Q (.ref q) H') → tl σ H Q)
    (hb : ∀ d, d ∈ its → SsD [] F body ((noT n j).set i0 (.ow (fr d))) (.nx (noT n j)))
    (hs : ∀ env x, foldedSetIterable le env x = pure x) (hi : F.N[i0]? = some x := by rfl) (hx : Loc F.sc x := by first | exact Or.inl rfl | exact Or.inr rfl) (hf : StF F x := by first | exact Or.inl rfl | exact Or.inr rfl) (hN : F.N.Nodup := by exact of_decide_eq_true rfl) :
    ∃ ts, PSf F (.For (.Name x px) le body [] fp) ts ∧ ∀ σ G H, Sta (noT n j) σ G H → C σ H → Tabs TabL.T H ∧ NoT G → ∀ D, EndOk [] (noT n j) σ G H D (.nx (noT n j)) → ts D σ H := by
  obtain ⟨tl, pe, run⟩ := hl
  have pg : PGf F (.Name x px) (gName i0) := fun j => pg_name (by rw [F.hN]; exact hN) (by rw [F.hN]; exact hi) (locF hx j) (hf.at j)
  refine ⟨_, for_any (plf F pe) pg hs, fun σ0 G0 H0 S0 cH tabs D q => run σ0 G0 H0 (staNo (by rw [S0.ln]; simp [noT, noL]) S0.gh) cH _ fun p0 rs G1 H1 S1 T1 hp gp pen hrs hne => ?_⟩
  have hi0 : i0 < n := by rw [hn]; exact (List.getElem?_eq_some_iff.mp hi).1
  have ln0 : σ0.length = n := by rw [S0.ln]; simp [noT, noL]
  have T1' : Ts (noT n j) σ0 G0 H0 (noT n j) σ0 G1 H1 := ⟨T1.g, fun b o hb gb _ => T1.fr b o hb gb noL_own, fun b w => (noT_own w).elim, T1.th⟩
  refine ⟨p0, rfl, ⟨_, SqL.of hp⟩, fun i k σ H => k = rs.length - i ∧ i ≤ rs.length ∧ ∃ G, Sta (noT n j) σ G H ∧ Ts (noT n j) σ0 G0 H0 (noT n j) σ G H ∧ H p0 = some (.lst (rs.map fun w => V.ref w.1)) ∧ G p0 = none ∧ Pen G H (rs.drop i), ⟨rs.length, by simp, Nat.zero_le _, G1, staT ln0 S1.gh (T1.th.tabs tabs), T1', hp, gp, pen⟩, ?_⟩
  rintro i k σ H ⟨rfl, him, G, S, T0, hpi, gpi, peni⟩
  by_cases h : i < rs.length
  case neg =>
    refine .inl ⟨⟨_, SqL.of hpi, by rw [List.length_map]; omega⟩, ?_⟩
    exact q σ G H S T0 fun k hk => by cases hk
  have ed : rs.drop i = rs[i] :: rs.drop (i + 1) := List.drop_eq_getElem_cons h
  refine .inr ⟨⟨_, V.ref rs[i].1, SqL.of hpi, by rw [List.getElem?_map, List.getElem?_eq_getElem h]; rfl⟩, fun σ' H' => i + 1 ≤ rs.length ∧ ∃ G, Sta (noT n j) σ' G H' ∧ Ts (noT n j) σ0 G0 H0 (noT n j) σ' G H' ∧ H' p0 = some (.lst (rs.map fun w => V.ref w.1)) ∧ G p0 = none ∧ Pen G H' (rs.drop (i + 1)), fun σ' H' ⟨h1, w⟩ => ⟨rs.length - (i + 1), by omega, rfl, h1, w⟩, fun v H' hv => ?_⟩
  obtain ⟨rfl, hv2⟩ := hv
  have ev := hv2 _ (SqL.of hpi)
  rw [List.getElem?_map, List.getElem?_eq_getElem h] at ev
  obtain rfl : v = V.ref rs[i].1 := (Option.some.inj ev).symm
  rw [ed] at peni
  obtain ⟨xs, w1, w2, w3⟩ := peni.it rs[i] (List.mem_cons_self ..)
  have hmem : rs[i].2 ∈ its.map fr := by
    rw [← hrs]
    exact List.mem_map_of_mem (List.getElem_mem h)
  obtain ⟨d, hd, efr⟩ := List.mem_map.mp hmem
  obtain ⟨S2, O2⟩ := S.set_ow (i := i0) (by simp [noT, noL]; exact hi0) w1 w2 noT_own w3
  rw [← efr] at S2 O2
  obtain ⟨tb, pb, runb⟩ := hb d hd
  refine ⟨tb, pb, runb _ G H' S2 _ fun σ' G' H2 S' T' A' => ?_⟩
  have only : ∀ b, Own ((noT n j).set i0 (Sl.ow (fr d))) (σ.set i0 (some (V.ref rs[i].1))) b → b = rs[i].1 := fun b w => (O2 b w).elim (fun w => (noT_own w).elim) id
  have nd := peni.nd
  rw [List.map_cons, List.nodup_cons] at nd
  have keep : ∀ b o, H' b = some o → G b = none → b ≠ rs[i].1 → Pl o → H2 b = some o ∧ G' b = none := fun b o e1 e2 e3 nt => T'.fr b o e1 e2 (fun w => e3 (only b w)) nt
  obtain ⟨k1, k2⟩ := keep p0 _ hpi gpi (hne _ (List.getElem_mem h)).1.symm pl_lst
  refine ⟨by omega, G', S', ?_, k1, k2, ⟨fun w hw => ?_, nd.2⟩⟩
  · refine ⟨T0.g.trans T'.g, fun b o hb' gb _ nt => ?_, fun b w => (noT_own w).elim, T0.th.trans T'.th⟩
    obtain ⟨q1, q2⟩ := T0.fr b o hb' gb noT_own nt
    exact keep b o q1 q2 (ne_of_none hb' (hne _ (List.getElem_mem h)).2) nt
  · obtain ⟨ys, f1, f2, f3⟩ := peni.it w (List.mem_cons_of_mem _ hw)
    obtain ⟨f4, f5⟩ := keep _ _ f1 f2 (fun e => nd.1 (by rw [← e]; exact List.mem_map_of_mem hw)) pl_lst
    exact ⟨ys, f4, f5, f3.up T'.g⟩
end

/-! ### the end: the law's own call, tables told -/
section
variable {P : Program} {w : World} {K : PySem.W.Frag} {mg mb : Str → Option Value} {k : Nat} {fa a : Addr} {fd : FuncData} {x : Str} {sp : Sp} {t : Shared} {us : List Value} {ns : List Int} {cs : List (Addr × Addr × Str)}
theorem law_overT {H : Hp} (inK : K.In t.heap) (gl : t.heap.Ns mainGlobals mg) (bl : t.heap.Ns builtinsNs mb) (bb : ∀ x : Str, x ≠ "__name__" → mb x = bootBuiltins x) (lim : t.heap.NoLimit) (gens : t.gens = #[])
    (bm : ∃ (b : Addr) (ob : Obj), mg "__builtins__" = some (.ref b) ∧ b ≠ builtinsNs ∧ t.heap.get? b = some ob ∧ ob.cls = .type "module" ∧ ob.dict = some builtinsNs ∧ ob.data = .plain)
    (scr : t.heap.get? a = some { cls := .type "list", data := .seq us.toArray }) (hr : Room k callerA) (hT : ∀ p ∈ cs, t.heap.get? p.2.1 = some { cls := .none, data := .fields #[] }) (hC : ∀ p ∈ cs, PySem.W.CodeHd t.heap p.1 p.2.1)
    (Fn : ∀ base : Heap, K.In base → base.Ns mainGlobals mg → (∀ p ∈ cs, TabB base mg p.1 p.2.1) → FnG P w K mg base k fa fd [x] sp) (bind : ∀ (s : Shared) (u : Value), BindsTo s fd ⟨[u], []⟩ [(x, u)])
    (only : ∀ b u, H b = some u → (b = a ∧ (∃ o xs, u = .frz o (.lst xs)) ∧ K.lookup a = none) ∨ ((∃ p ∈ cs, b = p.2.1) ∧ u = .tbl #[] ∧ K.lookup b = none)) (ok : HOk P w H t.heap) (hsp : sp [.ref a] H (fun v _ => v = .bl true) E0) :
    codeAny (model P w) callerA (.call (.ref fa) ⟨[.ref a], []⟩) (fun r t' => r = .ok (.ret (.bool true)) ∧ OldK t.heap t'.heap ∧ t'.os = t.os ∧ AllBare t'.gens) t := by
  let base := hidT t.heap H
  have free : ∀ {b : Addr} {o : Obj}, t.heap.get? b = some o → (∀ vs n, o.data ≠ .seq vs n) → o.data ≠ .fields #[] → H b = none := by
    intro b o e nd nf
    cases q : H b with
    | none => rfl
    | some u =>
      rcases only b u q with ⟨rfl, _⟩ | ⟨⟨p, hp, rfl⟩, _⟩
      · rw [scr] at e
        cases e
        exact absurd rfl (nd _ _)
      · rw [hT p hp] at e
        cases e
        exact absurd rfl nf
  have ns : ∀ {b : Addr} {m : Str → Option Value}, t.heap.Ns b m → base.Ns b m := by
    rintro b m ⟨o, es, ep, e, d, r⟩
    exact ⟨o, es, ep, hidT_get e (free e (fun vs n z => by rw [d] at z; cases z) fun z => by rw [d] at z; cases z), d, r⟩
  have bK : K.In base := fun b o e => hidT_get (inK b o e) (by
    cases q : H b with
    | none => rfl
    | some u =>
      rcases only b u q with ⟨rfl, _, z⟩ | ⟨_, _, z⟩ <;>
      · rw [z] at e
        cases e)
  have mod : Mod K mg base := ⟨bK, ns gl, ⟨mb, ns bl, bb⟩, by
    obtain ⟨mc, h1, h2⟩ := lim
    exact ⟨mc, ns h1, h2⟩⟩
  have e0 : Env0 P w K mg base callerA [] t H := {
    frames := rfl
    mod := mod
    bs := fun b o e => of_hidT e
    bsz := Nat.le_of_eq (hidT_size _ _)
    funs := trivial
    frf := fun b hb => nomatch (show b ∈ ([] : List Addr) from hb)
    hok := ok
    bare := .of_eq gens }
  have tabs : ∀ p ∈ cs, TabB base mg p.1 p.2.1 := fun p hp => by
    have hTp := hT p hp
    obtain ⟨o, vs, file, tf, flags, tg, inF, text, tt, e1, r1, r2, r3, r4⟩ := hC p hp
    obtain ⟨b, ob, b1, b2, b3, b4, b5, b6⟩ := bm
    obtain ⟨og, esg, epg, eg, dg, _⟩ := gl
    refine ⟨⟨o, vs, file, tf, flags, tg, inF, text, tt, hidT_get e1 (free e1 (fun _ _ z => by rw [r2] at z; cases z) fun z => ?_), r1, r2, r3, r4⟩, ⟨b, ob, b1, b2, fun q => ?_, fun q => ?_, hidT_get b3 (free b3 (fun _ _ z => by rw [b6] at z; cases z) fun z => by rw [b6] at z; cases z), b4, b5, b6⟩, fun z => ?_⟩
    · rw [r2] at z
      cases z
      cases r3
    · rw [q, eg] at b3
      cases b3
      rw [dg] at b6
      cases b6
    · rw [q, hTp] at b3
      cases b3
      cases b6
    · rw [z, hTp] at eg
      cases eg
      cases dg
  have run := (Fn base bK (ns gl) tabs).go callerA [] t H ⟨[.ref a], []⟩ [.ref a] [.ref a] _ rfl hr e0 (bind t (.ref a)) (.cons rfl .nil) hsp
  refine codeAny_mono run fun res t' h => ?_
  match res, h with
  | .error e, h => exact h.elim
  | .ok .next, h => exact h.elim
  | .ok .brk, h => exact h.elim
  | .ok .cont, h => exact h.elim
  | .ok (.ret u), ⟨v, H', os, bare, un, ok', rv, hv⟩ =>
    obtain rfl : v = V.bl true := hv
    obtain rfl : u = Value.bool true := rv
    refine ⟨rfl, ⟨fun b o e => ?_, fun b o e => ?_⟩, os, bare⟩
    · cases q : H b with
      | none => exact .inl (un.keep b o e q (fun z => nomatch (show b ∈ ([] : List Addr) from z)) (fun z => nomatch z))
      | some hu =>
        rcases only b hu q with ⟨_, ⟨ob, xs, rfl⟩, _⟩ | ⟨⟨p, hp, rfl⟩, rfl, _⟩
        · have e1 := (ok b _ q).1
          have e2 := (ok' b _ (un.frzs b ob _ q)).1
          rw [e] at e1
          cases e1
          exact .inl e2
        · obtain ⟨more, z⟩ := un.tbls _ _ q
          rw [hT p hp] at e
          cases e
          exact .inr (.inl ⟨((hC p hp).tab (hT p hp)).isCodeTable, rfl, #[], more, rfl, ok' _ _ z⟩)
    · cases q : H b with
      | none => exact ⟨o, un.keep b o e q (fun z => nomatch (show b ∈ ([] : List Addr) from z)) (fun z => nomatch z)⟩
      | some hu =>
        rcases only b hu q with ⟨_, ⟨ob, xs, rfl⟩, _⟩ | ⟨⟨p, hp, rfl⟩, rfl, _⟩
        · exact ⟨_, (ok' b _ (un.frzs b ob _ q)).1⟩
        · obtain ⟨more, z⟩ := un.tbls _ _ q
          exact ⟨_, ok' _ _ z⟩
theorem lawT (inK : K.In t.heap) (gl : t.heap.Ns mainGlobals mg) (bl : t.heap.Ns builtinsNs mb) (bb : ∀ x : Str, x ≠ "__name__" → mb x = bootBuiltins x) (lim : t.heap.NoLimit) (gens : t.gens = #[])
    (bm : ∃ (b : Addr) (ob : Obj), mg "__builtins__" = some (.ref b) ∧ b ≠ builtinsNs ∧ t.heap.get? b = some ob ∧ ob.cls = .type "module" ∧ ob.dict = some builtinsNs ∧ ob.data = .plain)
    (scr : t.heap.get? a = some { cls := .type "list", data := .seq us.toArray }) (nums : IntsAre us ns) (small : ns.length ≤ sizeLine) (hr : Room k callerA) (hT : ∀ p ∈ cs, t.heap.get? p.2.1 = some { cls := .none, data := .fields #[] }) (hC : ∀ p ∈ cs, PySem.W.CodeHd t.heap p.1 p.2.1) (hN : ∀ p ∈ cs, K.lookup p.2.1 = none)
    (Fn : ∀ base : Heap, K.In base → base.Ns mainGlobals mg → (∀ p ∈ cs, TabB base mg p.1 p.2.1) → FnG P w K mg base k fa fd [x] sp) (bind : ∀ (s : Shared) (u : Value), BindsTo s fd ⟨[u], []⟩ [(x, u)])
    (hsp : ∀ H : Hp, Tabs (cs.map (·.2)) H → SqL K H a (ns.map V.int) → sp [.ref a] H (fun v _ => v = .bl true) E0) :
    codeAny (model P w) callerA (.call (.ref fa) ⟨[.ref a], []⟩) (fun r t' => r = .ok (.ret (.bool true)) ∧ OldK t.heap t'.heap ∧ t'.os = t.os ∧ AllBare t'.gens) t := by
  have rv := intVals nums
  have aT : ∀ p ∈ cs, p.2.1 ≠ a := fun p hp z => by
    have q := hT p hp
    rw [z, scr] at q
    have q' : Data.seq us.toArray _ = Data.fields #[] := congrArg Obj.data (Option.some.inj q)
    cases q'
  classical
  let HT : Hp := fun b => if ∃ p ∈ cs, b = p.2.1 then some (.tbl #[]) else none
  have ht1 : ∀ p ∈ cs, HT p.2.1 = some (.tbl #[]) := fun p hp => if_pos ⟨p, hp, rfl⟩
  have ht2 : ∀ b u, HT b = some u → (∃ p ∈ cs, b = p.2.1) ∧ u = .tbl #[] ∧ K.lookup b = none := fun b u z => by
    by_cases e : ∃ p ∈ cs, b = p.2.1
    · rw [show HT b = _ from if_pos e] at z
      refine ⟨e, (Option.some.inj z).symm, ?_⟩
      obtain ⟨p, hp, rfl⟩ := e
      exact hN p hp
    · rw [show HT b = _ from if_neg e] at z
      cases z
  have okT : ∀ b u, HT b = some u → ObjOk P w HT t.heap b u ∧ u = .tbl #[] := fun b u z => by
    obtain ⟨⟨p, hp, rfl⟩, rfl, _⟩ := ht2 b u z
    exact ⟨hT p hp, rfl⟩
  cases hk : K.lookup a with
  | some o =>
    have e := inK a o hk
    rw [scr] at e
    cases e
    refine law_overT (H := HT) inK gl bl bb lim gens bm scr hr hT hC Fn bind (fun b u z => .inr (ht2 b u z)) (fun b u z => (okT b u z).1) (hsp _ (fun p hp => ?_) (.inr ?_))
    · obtain ⟨r, hr, rfl⟩ := List.mem_map.mp hp
      exact TabS.nil (ht1 r hr)
    · exact ⟨_, us.toArray, _, hk, rfl, rfl, rfl, by rw [List.size_toArray, nums.length]; exact small, by simpa using rv⟩
  | none =>
    let HS : Hp := fun b => if b = a then some (.frz { cls := .type "list", data := .seq us.toArray } (.lst (ns.map V.int))) else HT b
    have hs1 : HS a = some (.frz { cls := .type "list", data := .seq us.toArray } (.lst (ns.map V.int))) := if_pos rfl
    have hs2 : ∀ b, b ≠ a → HS b = HT b := fun b e => if_neg e
    refine law_overT (H := HS) inK gl bl bb lim gens bm scr hr hT hC Fn bind (fun b u z => ?_) (fun b u z => ?_) (hsp _ (fun p hp => ?_) (.inl (.inr ⟨_, hs1⟩)))
    · by_cases e : b = a
      · subst e
        rw [hs1] at z
        cases z
        exact .inl ⟨rfl, ⟨_, _, rfl⟩, hk⟩
      · rw [hs2 b e] at z
        exact .inr (ht2 b u z)
    · by_cases e : b = a
      · subst e
        rw [hs1] at z
        cases z
        exact ⟨scr, by rw [List.length_map]; exact small, us, _, rv, scr⟩
      · rw [hs2 b e] at z
        obtain ⟨⟨p, hp, rfl⟩, rfl, _⟩ := ht2 b u z
        exact hT p hp
    · obtain ⟨r, hr, rfl⟩ := List.mem_map.mp hp
      exact TabS.nil (by rw [hs2 _ (aT r hr)]; exact ht1 r hr)
end
/-- the tables of the defs of the top are empty still -/
def TabF (q : Program) (K : PySem.W.Frag) (mg : Str → Option Value) (h : Heap) : Prop := ∀ (nm : Str) (f c P : Addr) (oc : Value) (od : Option Addr) (fd : FuncData) (sl : Array (Option Value)) (e : Value) (dd : Option Addr) (vs : Array Value) (s2 : Array (Option Value)), ((PyProof.Rows.recsOf q).any fun e => e.name == nm) = true → mg nm = some (.ref f) →
  K.lookup f = some ⟨oc, od, .func fd, sl⟩ → fd.code = .ref c → K.lookup c = some ⟨e, dd, .fields vs, s2⟩ → vs[11]? = some (.ref P) → h.get? P = some { cls := .none, data := .fields #[] } ∧ PySem.W.CodeHd h c P
/-- what k_head leaves, from the promise of the law's def, tables told -/
theorem walkT {l : PySem.W.OpenLaw} {n k : Nat} {q : Program} {loose : List Str} {XP : (Str → Option Value) → Heap → Prop} {YP : World → Heap → Prop} {d : DefRec} {K : Params → PySem.W.Frag} {sp : World → List (Addr × Str) → Sp} {x : Str}
    (hn : l.most = some n) (hn2 : n ≤ sizeLine) (hdf : d.params.defaults = []) (hr : Room k callerA) (hY : ∀ (w : World) (h : Heap), YP w h → (K w.params).In h)
    (Fn : ∀ (w : World) (mg : Str → Option Value) (fa : Addr) (h : Heap), (K w.params).In h → h.Ns mainGlobals mg → mg d.name = some (.ref fa) → TabF q (K w.params) mg h →
      ∃ (fd : FuncData) (cs : List (Addr × Addr × Str)), (∀ (s : Shared) (u : Value), BindsTo s fd ⟨[u], []⟩ [(x, u)]) ∧ (∀ p ∈ cs, h.get? p.2.1 = some { cls := .none, data := .fields #[] }) ∧ (∀ p ∈ cs, PySem.W.CodeHd h p.1 p.2.1) ∧ (∀ p ∈ cs, (K w.params).lookup p.2.1 = none) ∧
        ∀ base : Heap, (K w.params).In base → base.Ns mainGlobals mg → (∀ p ∈ cs, TabB base mg p.1 p.2.1) → FnG l.prog w (K w.params) mg base k fa fd [x] (sp w (cs.map (·.2))))
    (hsp : ∀ (w : World) (H : Hp) (a : Addr) (ns : List Int) (T : List (Addr × Str)), ns.length ≤ n → Tabs T H → SqL (K w.params) H a (ns.map V.int) → sp w T [.ref a] H (fun v _ => v = .bl true) E0) :
    PySem.W.WalkO q loose XP YP l.row.toRowW d [] (fun f vs => PySem.call f vs) :=
  Att.attach_call hn hdf fun w s0 t mg mb fa o pm cd doc a us ns G Y ho hd hcd hmg scr nums len gens =>
    let inK := hY w _ Y
    let ⟨_, cs, bind, hT, hC, hN, F2⟩ := Fn w mg fa _ inK G.T.g hmg (fun nm f c P oc od fd sl e dd vs s2 hrec m1 k1 k2 k3 k4 => by
      obtain ⟨dL, hm, hn1⟩ := List.any_eq_true.mp hrec
      obtain ⟨a', o', fd', c', P', h1, h2, h3, h4, h5, h6⟩ := G.T.tab dL hm
      rw [beq_iff_eq.mp hn1, m1] at h1
      cases h1
      rw [inK _ _ k1] at h2
      cases h2
      cases h3
      rw [k2] at h4
      cases h4
      have hh := PySem.W.CodeHd.of h5 h6
      obtain ⟨⟨oc, vc, e1, _, e3, e4⟩, hP⟩ := h6
      rw [inK _ _ k3] at e1
      cases e1
      cases e3
      rw [k4] at e4
      cases e4
      exact ⟨hP, hh⟩)
    lawT inK G.T.g G.T.b G.T.builtins G.T.nolimit gens G.T.bmain scr nums (Nat.le_trans len hn2) hr hT hC hN F2 bind fun H tb seq => hsp w H a ns _ len tb seq
end DL
namespace DL
open PySem PyProof.Rows L2 LamX
variable [TabL]
/-- the contexts of a def whose code stands at c -/
def famC (P : Program) (w : World) (K : PySem.W.Frag) (mg : Str → Option Value) (base : Heap) (N : List Str) (qual : Str) (sc : Scope) (f : Addr) (c : Addr) (k : Nat) : Fam :=
  (famOf P w K mg base N qual sc f k).pull { j : FamJ qual sc f k // j.1.1 = .ref c } (·.1)
/-- as spM, tables told -/
def spMT (Φ : List PyData → List PyData → PyData × List PyData → Prop) : Sp := fun vs H Q _ => ∃ a ws xs ms ds r ms' G, vs = .ref a :: ws ∧ Φ ms ds (r, ms') ∧ Same G H ∧ RpA G ws ds ∧ H a = some (.lst xs) ∧ RpA G xs ms ∧ G a = none ∧ (Tabs TabL.T H ∧ NoT G) ∧
  ∀ v G' H' ys, Aft (· = a) G H G' H' → H' a = some (.lst ys) → RpA G' ys ms' → G' a = none → Rp G' v r → Q v H'
section
variable {L L' : List Sl} {σ : L2.St} {G H : Hp} {i j : Nat} {ms ms' ds : List PyData} {r : PyData}
/-- an empty slot tells the tables -/
theorem Sta.tell (S : Sta L σ G H) (hj : L[j]? = some .no) (t : Tabs TabL.T H ∧ NoT G) : Sta (L.set j .tb) σ G H ∧ ∀ b, Own (L.set j .tb) σ b ↔ Own L σ b := by
  have hl : j < L.length := (List.getElem?_eq_some_iff.mp hj).1
  have at_ : ∀ (i : Nat) (us : List PyData), (L.set j .tb)[i]? = some (Sl.ow us) ↔ L[i]? = some (Sl.ow us) := fun i us => by
    by_cases e : j = i
    · subst e
      rw [List.getElem?_set_self hl, hj]
      constructor <;> (intro z; cases z)
    · rw [List.getElem?_set_ne e]
  refine ⟨⟨S.gh, by rw [List.length_set]; exact S.ln, fun i x u e1 e2 => ?_, fun i k a us ws e1 e2 e3 e4 => S.di i k a us ws ((at_ i us).mp e1) ((at_ k ws).mp e2) e3 e4⟩, fun b => ⟨fun ⟨i, us, e1, e2⟩ => ⟨i, us, (at_ i us).mp e1, e2⟩, fun ⟨i, us, e1, e2⟩ => ⟨i, us, (at_ i us).mpr e1, e2⟩⟩⟩
  by_cases e : j = i
  · subst e
    rw [List.getElem?_set_self hl] at e2
    cases e2
    exact t
  · rw [List.getElem?_set_ne e] at e2
    exact S.sl i x u e1 e2
/-- f(x, ..), x's own list changed, tables told -/
theorem ed_callMT {F : Fam} {es : List Expr} {x y : Str} {py p pos : Pos} {Φ : List PyData → List PyData → PyData × List PyData → Prop} (i j : Nat) (D : F.Df x (spMT Φ)) (hi : L'[i]? = some (Sl.ow ms)) (hj : L'[j]? = some .tb) (ha : AD F es L ds L') (hΦ : Φ ms ds (r, ms')) (hg : GlF F x := by rfl)
    (hN : F.N[i]? = some y := by rfl) (hv : Vis F.sc y := by first | exact Or.inl rfl | exact Or.inr (Or.inl rfl) | exact Or.inr (Or.inr rfl)) (hd : (y == ("__debug__" : Str)) = false := by decide) (hcd : (y == ("__classdict__" : Str)) = false := by decide)
    (hdb : (x == ("__debug__" : Str)) = false := by decide) (he : ∀ env, starEach (.Name y py :: es) env = (false, eval (.Name y py) env) :: starEach es env := by intro _; rfl) (hpl : ∀ env, (backTo pos (starEach es env)).any (·.1) = false := by intro _; rfl) (hL : ∃ us, L[i]? = some (Sl.ow us) := by exact ⟨_, rfl⟩) :
    ED F (.Call (.Name x p) (.Name y py :: es) [] pos) L r (L'.set i (.ow ms')) := by
  obtain ⟨ta, pa, ra⟩ := ha
  refine ⟨_, call_any D hg (fun j => pa_cons (pvF F i hN hv hd hcd j) (pa j) (he _)) hdb he hpl, fun σ G H S Q q => ?_⟩
  obtain ⟨us, hus⟩ := hL
  obtain ⟨x0, e1, a, xs0, rfl, _⟩ := S.get hus
  refine ⟨.ref a, e1, ra σ G H S _ fun vs G1 H1 S1 T1 r1 => ?_⟩
  obtain ⟨x1, e2, a', xs, z, h1, r2, g1⟩ := S1.get hi
  rw [e1] at e2
  cases e2
  cases z
  refine ⟨a, vs, xs, ms, ds, r, ms', G1, rfl, hΦ, S1.gh, r1, h1, r2, g1, S1.tabs hj, fun v G' H' ys A hy ry gy rv => ?_⟩
  obtain ⟨S2, T2⟩ := S1.mut hi e1 A hy ry gy
  exact q v G' H' S2 (T1.trans T2) rv
end
section
variable {P : Program} {w : World} {K : PySem.W.Frag} {mg : Str → Option Value} {base : Heap} {x qual : Str} {st : Stmt} {f c : Addr} {fd : FuncData} {N ps : List Str} {k j : Nat}
/-- a def whose code stands at c, which changes its first argument and makes lambdas -/
theorem funMT {Φ : List PyData → List PyData → PyData × List PyData → Prop} {params : Arguments} {body : List Stmt} {scope : Scope} {dV kV doc pm ct oc : Value} {an od : Option Addr} {osl : Array (Option Value)}
    (lk : K.lookup f = some ⟨oc, od, .func (PySem.W.fnOf x qual params body scope dV kV doc pm an (.ref c) ct), osl⟩) (hcd : PySem.W.codeIn K (.ref c) qual = true) (S : FnScope N ps scope) (hl : ∀ ms ds r, Φ ms ds r → ds.length + 1 = ps.length)
    (hj : ∀ ms ds r, Φ ms ds r → (startM N ms ds)[j]? = some .no)
    (hb : ∀ ms ds r ms', Φ ms ds (r, ms') → ∃ L', SsD [0] (famC P w K mg base N qual scope f c k) body ((startM N ms ds).set j .tb) (.rt r L') ∧ L'[0]? = some (Sl.ow ms')) : FnG P w K mg base (k + 1) f (PySem.W.fnOf x qual params body scope dV kV doc pm an (.ref c) ct) ps (spMT Φ) := by
  refine fnG_of lk hcd S (fun vs H Q E h => ?_) fun A outer s H vs Q hg hr h => ?_
  · obtain ⟨a, ws, xs, ms, ds, r, ms', G, rfl, e, _, rp, _⟩ := h
    rw [List.length_cons, rp.len]
    exact hl ms ds _ e
  · obtain ⟨a, ws, xs, ms, ds, r, ms', G, rfl, hΦ, gh, rp, ha, ra, ga, tb, q⟩ := h
    obtain ⟨L', ⟨ts, pp, run⟩, h0⟩ := hb ms ds r ms' hΦ
    obtain ⟨S0, O⟩ := staM (N := N) gh rp (by rw [hl ms ds _ hΦ]; exact FnScope.fit S) ha ra ga
    obtain ⟨S1, O1⟩ := S0.tell (hj _ _ _ hΦ) tb
    refine ⟨ts, pp ⟨⟨(.ref c, A, outer, s, H), hg, hr⟩, rfl⟩, run _ G H S1 _ fun v σ' G' H' S' T' A' rv => ?_⟩
    obtain ⟨x1, e1, b, ys, rfl, k1, k2, k3⟩ := S'.get h0
    have e2 := A' 0 (List.mem_singleton.mpr rfl)
    rw [e1, start_get (i := 0) (v := .ref a) rfl] at e2
    cases e2
    exact q v G' H' ys ⟨T'.g, S'.gh, fun b o hb gb nb => T'.fr b o hb gb fun w => nb ((O b).mp ((O1 b).mp w)), T'.th⟩ k1 k2 k3 rv
end
end DL
namespace DL
open PySem PyProof.Rows L2 LamX
variable [TabL]
/-! ### enumerate(text) -/
/-- the signs of x, each in a new pair with its place -/
def IteS (x : Str) : It := ⟨fun i _ => i < x.cps.size, fun i H v H' => ∃ (T : Addr) (c : Nat), v = .ref T ∧ H T = none ∧ x.cps[i]? = some c ∧ H' = upd H T (.tup [.int (i : Nat), .str ⟨#[c]⟩]), fun i _ => x.cps.size ≤ i⟩
/-- what draws the signs -/
theorem drawsS {P : Program} {w : World} {A : Around} (hh : A.handled = none) (it : Addr) (x : Str) (t : Tok) :
    Draws P w A it [it] x.cps.size (fun i v => ∃ c u, x.cps[i]? = some c ∧ v = .str ⟨#[c]⟩ u) (fun i h => h.IsStrIter it (strIterType x) x t i) := by
  unfold strIterType
  cases x.cps.all (· < 128) with
  | true => exact Draws.strAscii hh it x t
  | false => exact Draws.strWide hh it x t
theorem turn_enumS {P : Program} {w : World} {K : PySem.W.Frag} {elts : List Expr} {kk : Nat} {tpos : Pos} (x : Str) (t : Tok) (e it : Addr) :
    Turn P w K (.Tuple elts kk tpos) (IteS x) [e, it] e (fun i h => (∃ old, IsEnum h e it ((i : Nat) : Int) old) ∧ h.IsStrIter it (strIterType x) x t i ∧ e ≠ it ∧ i ≤ x.cps.size) where
  mem := by simp
  obj := fun i h ⟨⟨old, he⟩, ⟨o, ho, hc, hd⟩, _, _⟩ b hb => by
    rcases (by simpa using hb : b = e ∨ b = it) with rfl | rfl
    · exact ⟨_, he, fun v q => nomatch q⟩
    · exact ⟨o, ho, fun v q => by rw [hd] at q; cases q⟩
  keep := fun i h h' ⟨⟨old, he⟩, ⟨o, ho, r⟩, hne, hle⟩ k => ⟨⟨old, k e (by simp) _ he⟩, ⟨o, k it (by simp) o ho, r⟩, hne, hle⟩
  item := by
    intro X hP hw hK hc i pins s σ H E I hf st hg
    subst hP hw hK
    obtain ⟨⟨old, he⟩, hit, hne, _⟩ := st
    have hel : e < s.heap.objs.size := Heap.lt_size he
    have hil : it < s.heap.objs.size := by
      obtain ⟨_, q, _⟩ := hit
      exact Heap.lt_size q
    have hin : (X.A.in1).handled = none := I.ok.hd hc
    refine wpAny_pyNext_enum_itemD (drawsS hin it x t) he hit hg hne (by simpa using hne) fun v h' tk hv ho hit' hT hsz hk => ?_
    obtain ⟨cc, u, hcx, rfl⟩ := hv
    refine ⟨_, rfl, wpAny_letOwnedTupleGo_enum (s := { s with heap := h', toks := tk + 1 }) ho fun h'' he' sb => ?_⟩
    have hT2 := (sb.2 s.heap.objs.size (Nat.ne_of_gt hel)).trans hT
    have new : ObjOk X.prog X.w (upd H s.heap.objs.size (.tup [.int (i : Nat), .str ⟨#[cc]⟩])) h'' s.heap.objs.size (.tup [.int (i : Nat), .str ⟨#[cc]⟩]) :=
      ⟨by show 2 ≤ sizeLine; decide, [.int i tk, .str ⟨#[cc]⟩ u], .cons ⟨_, rfl⟩ (.cons ⟨_, rfl⟩ .nil), ⟨_, hT2, rfl, _, rfl⟩⟩
    have I1 : Inv X pins σ (upd H s.heap.objs.size (.tup [.int (i : Nat), .str ⟨#[cc]⟩])) { s with heap := h'', toks := tk + 1 } :=
      I.turnedNew (ch := [e, it]) (fun b ob hb q => (sb.2 b (fun z => hb (by simp [z]))).trans (hk b ob (fun z => hb (by simp [z])) (fun z => hb (by simp [z])) q)) hf (Nat.le_refl _) new
    have hit2 : h''.IsStrIter it (strIterType x) x t (i + 1) := by
      obtain ⟨o, q, r⟩ := hit'
      exact ⟨o, (sb.2 it (Ne.symm hne)).trans q, r⟩
    refine ⟨.ref s.heap.objs.size, _, I1, rfl, ⟨_, cc, rfl, I.hok.fresh (Nat.le_refl _), hcx, rfl⟩, ⟨⟨.str ⟨#[cc]⟩ u, ?_⟩, hit2, hne, hg⟩, fun b hb => ?_⟩
    · have e1 : ((i + 1 : Nat) : Int) = (i : Int) + 1 := by omega
      rw [e1]
      exact he'
    · have hlt : b < s.heap.objs.size := by
        rcases (by simpa using hb : b = e ∨ b = it) with rfl | rfl
        · exact hel
        · exact hil
      rw [upd_ne (Nat.ne_of_lt hlt)]
      exact (hf b hb).1
  done := by
    intro X hP hw hK hc i pins s σ H E I hf st hg
    subst hP hw hK
    obtain ⟨⟨old, he⟩, hit, hne, hle⟩ := st
    obtain ⟨f0, f1, f2, f3, f4, f5⟩ := hf it (by simp)
    have hin : (X.A.in1).handled = none := I.ok.hd hc
    have ei : i = x.cps.size := Nat.le_antisymm hle hg
    refine wpAny_pyNext_enum_endD (drawsS hin it x t) he (by rw [← ei]; exact hit) fun h' eb => ⟨rfl, I.turned (t' := s.toks) (fun b o hb q => eb b o hb q) f0 f1 f3 f4 f5⟩
  self := fun A i s Q E ⟨⟨_, he⟩, _, _, _⟩ h => wpAny_pyIter_enum he h
def iEnumS (ta : TA) : TI := fun σ H R => ta σ H fun vs H1 => ∃ x, vs = [.str x] ∧ R (IteS x) H1
theorem pi_enumS {X : Cx} {e : Expr} {ta : TA} {p pos tpos : Pos} {elts : List Expr} {kk : Nat} (hg : Gl X "enumerate") (hm : X.mg "enumerate" = none) (ha : PA X [e] ta) (hs : starEach [e] X.env = [(false, eval e X.env)] := by rfl) :
    PI X (.Tuple elts kk tpos) (.Call (.Name "enumerate" p) [e] [] pos) (iEnumS ta) := by
  refine ⟨fun pins s σ H R I h => Call_ (ld_blt I hg hm boot_enumerate (PyProof.Rows.callWith_type1 (thn (ha.run pos pins s σ H _ I h) fun us s1 ⟨vs, H1, I1, r1, x, ex, q⟩ => ?_) hs rfl))⟩
  subst ex
  cases r1 with
  | cons r rr =>
    cases rr
    obtain ⟨t, rfl⟩ := r
    refine call_enumerate_str fun h' he hit hsz hk => wpAny_pyIter_enum he ?_
    have I2 : Inv X pins σ H1 { s1 with heap := h' } := I1.kept (t' := s1.toks) hk
    refine ⟨s1.heap.objs.size + 1, [s1.heap.objs.size + 1, s1.heap.objs.size], _, _, H1, rfl, I2, turn_enumS x t (s1.heap.objs.size + 1) s1.heap.objs.size, ⟨⟨.none, he⟩, hit, Nat.succ_ne_self _, Nat.zero_le _⟩, fun b hb => ?_, q⟩
    have hle : s1.heap.objs.size ≤ b := by
      rcases (by simpa using hb : b = s1.heap.objs.size + 1 ∨ b = s1.heap.objs.size) with rfl | rfl
      · exact Nat.le_add_right _ _
      · exact Nat.le_refl _
    exact I1.fpOk hle (I1.hok.fresh hle)
section
variable {F : Fam} {e a b iter : Expr} {L L1 L' : List Sl} {p pos tpos : Pos} {elts : List Expr} {kk : Nat} {x y : Str} {d : PyData} {ds : List PyData} {n : Int}
theorem it_enumS (h : ED F e L (.str x) L') (hm : F.mg "enumerate" = none) (hg : GlF F "enumerate" := by rfl) (hs : ∀ env, starEach [e] env = [(false, eval e env)] := by intro _; rfl) :
    ItD F (.Tuple elts kk tpos) (.Call (.Name "enumerate" p) [e] [] pos) L (enumD (signsD x)) L' := by
  obtain ⟨te, pe, run⟩ := h
  have pi : PIf F (.Tuple elts kk tpos) (.Call (.Name "enumerate" p) [e] [] pos) (iEnumS (tCons te tNil)) := fun j => pi_enumS (hg.gl j) (by rw [F.hmg]; exact hm) (pa_cons (pe j) pa_nil (hs _)) (hs _)
  refine ⟨_, pi, fun σ G H S R q => run σ G H S _ fun v G' H' S' T' r => ?_⟩
  cases r
  have len : (enumD (signsD x)).length = x.cps.size := by simp [enumD, signsD]
  refine ⟨x, rfl, q _ G' H' S' T' fun i G2 H2 g gh => ⟨fun hi => by rw [len] at hi; exact hi, fun d hd => ?_⟩⟩
  have hi : i < x.cps.size := by
    have := (List.getElem?_eq_some_iff.mp hd).1
    rwa [len] at this
  unfold enumD signsD at hd
  rw [List.getElem?_mapIdx, List.getElem?_map, Array.getElem?_toList, Array.getElem?_eq_getElem hi] at hd
  cases hd
  refine ⟨hi, fun v H3 hy => ?_⟩
  obtain ⟨T, c, rfl, hT, hc, rfl⟩ := hy
  rw [Array.getElem?_eq_getElem hi] at hc
  cases hc
  exact .inr ⟨T, _, _, rfl, hT, rfl, rfl, .cons (.int _) (.cons (.str _) .nil)⟩

/-! ### texts -/
theorem lenSf (F : Fam) (j : F.J) : CallR (F.x j) (.builtin "len") (fun xs H Q => ∃ z, xs = [.str z] ∧ z.length ≤ sizeLine ∧ Q (.int z.length) H) := call_len_str
theorem ed_lenS (h : ED F e L (.str x) L') (hl : x.length ≤ 100000) (hm : F.mg "len" = none) (hg : GlF F "len" := by rfl) (hs : ∀ env, starEach [e] env = (false, eval e env) :: starEach [] env := by intro _; rfl) : ED F (.Call (.Name "len" p) [e] [] pos) L (.int x.length) L' := by
  obtain ⟨te, pe, run⟩ := h
  refine ⟨_, bt_any (lenSf F) hg hm PySem.boot_len (pa1 pe hs) (by decide) (by decide) hs (fun _ => rfl), fun σ G H S Q q => run σ G H S _ fun v G' H' S' T r => ?_⟩
  cases r
  exact ⟨x, rfl, Nat.le_trans hl (by decide), q _ _ _ S' T (.int _)⟩
theorem ed_ixStr {c : Nat} (ha : ED F a L (.str x) L1) (hb : ED F b L1 (.int n) L') (hr : ∀ H Q, Q (.str ⟨#[c]⟩) H → rIxS (.str x) (.int n) H Q) (hs : PlainIx b := by exact fun _ _ => rfl) : ED F (.Subscript a b pos) L (.str ⟨#[c]⟩) L' := by
  obtain ⟨ta, pa, ra⟩ := ha
  obtain ⟨tb, pb, rb⟩ := hb
  refine ⟨_, fun j => pe_ix ix_str (pa j) (pb j) hs, fun σ G H S Q q => ra σ G H S _ fun x1 G1 H1 S1 T1 r1 => rb σ G1 H1 S1 _ fun y G2 H2 S2 T2 r2 => ?_⟩
  cases r1
  cases r2
  exact hr _ _ (q _ _ _ S2 (T1.trans T2) (.str _))
theorem allf (F : Fam) (j : F.J) : CallR (F.x j) (.builtin "all") (rAll F.K) := by
  rw [← F.hK j]
  exact cr_all (F.hc j)
theorem ed_all {bs : List Bool} (h : LD F e L (bs.map PyData.bool) L') (hm : F.mg "all" = none) (hg : GlF F "all" := by rfl) (hs : ∀ env, starEach [e] env = (false, eval e env) :: starEach [] env := by intro _; rfl) : ED F (.Call (.Name "all" p) [e] [] pos) L (.bool (bs.all id)) L' := by
  obtain ⟨te, pe, run⟩ := h
  refine ⟨_, bt_any (allf F) hg hm (by decide +kernel) (pa1 pe hs) (by decide) (by decide) hs (fun _ => rfl), fun σ G H S Q q => run σ G H S _ fun a xs G' H' S' T h1 r => ?_⟩
  rw [r.of_bools] at h1
  exact ⟨a, bs, rfl, SqL.of h1, q _ _ _ S' T (.bl _)⟩
/-- a sign in a tuple of texts -/
theorem cd_inT {ws : List Str} (ha : ED F a L (.str x) L1) (hb : ED F b L1 (.tuple (ws.map PyData.str)) L') (hm : behindInMarks .In b = false := by rfl) : CD F (.Compare a [.In] [b] pos) L (decide (x ∈ ws)) L' := by
  refine cd_cmp (r := rIn F.K false) (fun j => by rw [← F.hK j]; exact op_in_seq) hm ha hb fun u v G H gh r1 r2 Q q => ?_
  cases r1
  cases r2 with
  | @tup b0 xs _ h1 h2 =>
    have ex : ∀ {ws : List Str} {xs : List V}, RpA G xs (ws.map PyData.str) → xs = ws.map V.str := fun {ws} => by
      induction ws with
      | nil => intro xs r; cases r; rfl
      | cons w ws ih => intro xs r; cases r with | cons r t => cases r; rw [ih t]; rfl
    rw [ex h2] at h1
    refine ⟨b0, ws.map V.str, rfl, .inr (SqT.of (gh _ _ h1)), rfl, by simp [flatV], ?_⟩
    have e : ∀ ws : List Str, inV (.str x) (ws.map V.str) = decide (x ∈ ws) := fun ws => by
      induction ws with
      | nil => rfl
      | cons w ws ih =>
        unfold inV at ih ⊢
        rw [List.map_cons, List.any_cons, ih]
        have e1 : eqV (.str w) (.str x) = decide (w = x) := by
          by_cases h : w = x
          · subst h; simp [eqV]
          · simp [eqV, h]
        rw [e1]
        by_cases h : w = x
        · subst h; simp
        · have h2 : ¬ x = w := fun z => h z.symm
          simp [h, h2]
    show Q (.bl (inV (.str x) (ws.map V.str))) H
    rw [e]
    exact q
end
end DL
namespace DL
open PySem PyProof.Rows L2 LamX
variable [TabL]
/-! ### repr of what is no list and no tuple -/
def FlatOk : PyData → Prop
  | .none => True
  | .bool _ => True
  | .int i => i.natAbs.log2 < 1920
  | .str x => (reprText x).length ≤ sizeLine
  | .dict [] => True
  | _ => False
theorem call_reprF {X : Cx} (hg : X.A.guards = some []) (hu : X.A.units + 100 < cLine) : CallR X (.builtin "repr") (fun xs H Q => ∃ v d, xs = [v] ∧ Rp H v d ∧ FlatOk d ∧ Q (.str d.shown) H) := by
  intro pins s σ H xs us Q I r q
  obtain ⟨v, d, rfl, rp, ok, q⟩ := q
  obtain ⟨u, rfl, rv⟩ := vals1 r
  cases rp with
  | non =>
    obtain rfl : u = Value.none := rv
    exact PySem.P.repr_of_none ⟨.str (PyData.none).shown, H, I.tok _, ⟨_, rfl⟩, q⟩
  | bl b =>
    obtain rfl : u = Value.bool b := rv
    exact PySem.P.repr_of_bool ⟨.str (PyData.bool b).shown, H, I.tok _, ⟨_, rfl⟩, q⟩
  | int i =>
    obtain ⟨t, rfl⟩ := rv
    exact PySem.P.repr_of_int ok ⟨.str (PyData.int i).shown, H, I.tok _, ⟨_, rfl⟩, q⟩
  | str x =>
    obtain ⟨t, rfl⟩ := rv
    exact PySem.P.repr_of_str ⟨.str (PyData.str x).shown, H, I.tok _, ⟨_, rfl⟩, q⟩ ok
  | lst => exact ok.elim
  | tup => exact ok.elim
  | @dct a kvs h =>
    cases kvs with
    | cons p l => exact ok.elim
    | nil =>
      obtain rfl : u = Value.ref a := rv
      obtain ⟨_, ns, vs, kv, o, es, ep, e1, e2, e3, e5, e4⟩ := I.hok a _ h
      cases kv
      have ees : es.toList = [] := by
        cases h5 : es.toList with
        | nil => rfl
        | cons a l =>
          rw [h5] at e4
          exact nomatch e4.1
      have rd : Reads s.heap (.ref a) (.dict []) (a :: [] ++ []) := .dict (kvs := []) e1 e2.1 e3 (by rw [ees]; exact .nil) (by rw [ees]; exact .nil)
      exact repr_of_reads' rd (by decide) (fun _ z => by
        have : sysModules = a := by simpa using z
        rw [this] at ns
        simp at ns) hg (by have : (PyData.dict []).depth ≤ 5 := by decide
                           omega) (fun _ _ e => e) (fun h' t tk hk => ⟨.str _, H, I.kept (t' := tk) hk, ⟨_, rfl⟩, q⟩) (by decide)
  | @dcs a kvs h =>
    cases kvs with
    | cons p l => exact ok.elim
    | nil =>
      obtain rfl : u = Value.ref a := rv
      obtain ⟨_, ns, vs, kv, o, es, ep, e1, e2, e3, e5, e4⟩ := I.hok a _ h
      cases kv
      have ees : es.toList = [] := by
        cases h5 : es.toList with
        | nil => rfl
        | cons a l =>
          rw [h5] at e4
          exact nomatch e4.1
      have rd : Reads s.heap (.ref a) (.dict []) (a :: [] ++ []) := .dict (kvs := []) e1 e2.1 e3 (by rw [ees]; exact .nil) (by rw [ees]; exact .nil)
      exact repr_of_reads' rd (by decide) (fun _ z => by
        have : sysModules = a := by simpa using z
        rw [this] at ns
        simp at ns) hg (by have : (PyData.dict []).depth ≤ 5 := by decide
                           omega) (fun _ _ e => e) (fun h' t tk hk => ⟨.str _, H, I.kept (t' := tk) hk, ⟨_, rfl⟩, q⟩) (by decide)
  | @dks a kvs h =>
    cases kvs with
    | cons p l => exact ok.elim
    | nil =>
      obtain rfl : u = Value.ref a := rv
      obtain ⟨_, ns, vs, kv, o, es, ep, e1, e2, e3, e5, e4⟩ := I.hok a _ h
      cases kv
      have ees : es.toList = [] := by
        cases h5 : es.toList with
        | nil => rfl
        | cons a l =>
          rw [h5] at e4
          exact nomatch e4.1
      have rd : Reads s.heap (.ref a) (.dict []) (a :: [] ++ []) := .dict (kvs := []) e1 e2.1 e3 (by rw [ees]; exact .nil) (by rw [ees]; exact .nil)
      exact repr_of_reads' rd (by decide) (fun _ z => by
        have : sysModules = a := by simpa using z
        rw [this] at ns
        simp at ns) hg (by have : (PyData.dict []).depth ≤ 5 := by decide
                           omega) (fun _ _ e => e) (fun h' t tk hk => ⟨.str _, H, I.kept (t' := tk) hk, ⟨_, rfl⟩, q⟩) (by decide)
  | exc => exact ok.elim
section
variable {F : Fam} {e a b : Expr} {L L1 L' : List Sl} {p pos : Pos} {x : Str} {d : PyData} {n : Int}
theorem ed_reprF (h : HD F e L d L') (ok : FlatOk d) (hm : F.mg "repr" = none) (hg : GlF F "repr" := by rfl) (hs : ∀ env, starEach [e] env = (false, eval e env) :: starEach [] env := by intro _; rfl) : ED F (.Call (.Name "repr" p) [e] [] pos) L (.str d.shown) L' := by
  obtain ⟨te, pe, run⟩ := h
  refine ⟨_, bt_any (fun j => call_reprF (F.hg j) (by have := (F.hr j).un; omega)) hg hm (by decide +kernel) (pa1 pe hs) (by decide) (by decide) hs (fun _ => rfl), fun σ G H S Q q => run σ G H S _ fun v G' H' S' T r => ?_⟩
  exact ⟨v, d, rfl, r, ok, q _ _ _ S' T (.str _)⟩
/-! ### a text again and again -/
theorem rep_size (a : Array Nat) : ∀ (k : Nat) (acc : Array Nat), ((List.replicate k a).foldl (· ++ ·) acc).size = acc.size + k * a.size
  | 0, acc => by simp
  | k + 1, acc => by
    rw [List.replicate_succ, List.foldl_cons, rep_size a k, Array.size_append, Nat.add_mul]
    omega
def repS (z : Str) (n : Nat) : Str := ⟨(List.replicate n z.cps).foldl (· ++ ·) #[]⟩
theorem op_repS {X : Cx} : OpR X (binaryOp .Mult) (fun x y H Q => ∃ (z : Str) (n : Int), x = .str z ∧ y = .int n ∧ 1 < n ∧ n ≤ 1000 ∧ 0 < z.length ∧ z.length ≤ 1000 ∧ Q (.str (repS z n.toNat)) H) := by
  intro pins s σ H x y v u Q I rx ry h
  obtain ⟨z, n, rfl, rfl, h1, h2, h3, h4, q⟩ := h
  obtain ⟨t, rfl⟩ := rx
  obtain ⟨t', rfl⟩ := ry
  have e1 : ¬ n < 1 := by omega
  have e2 : (n == 1 || z.length == 0) = false := by
    have : ¬ n = 1 := by omega
    have : ¬ z.length = 0 := by omega
    simp [*]
  refine PySem.P.mul_str (by simp; omega) (fun _ _ => ?_) (fun _ _ => ?_) ?_
  · have : n ∣ n := Int.dvd_refl n
    have h5 : (1000 : Int) ≤ (2 ^ 63 - 1) / n := by
      rw [Int.le_ediv_iff_mul_le (by omega)]
      omega
    omega
  · have : z.length * n.toNat ≤ 1000 * 1000 := Nat.mul_le_mul h4 (by omega)
    have : (1000000 : Nat) ≤ sizeLine := by decide
    unfold Builtin.Str.tooLong
    simp
    omega
  · rw [if_neg e1, e2, if_neg (by simp)]
    refine ⟨?_, .str (repS z n.toNat), H, I.tok _, ⟨_, rfl⟩, q⟩
    have e : (repS z n.toNat).length = 0 + n.toNat * z.length := rep_size z.cps n.toNat #[]
    have : n.toNat * z.length ≤ 1000 * 1000 := Nat.mul_le_mul (by omega) h4
    have : (1000000 : Nat) ≤ sizeLine := by decide
    show (repS z n.toNat).length ≤ _
    omega
theorem ed_repS (ha : ED F a L (.str x) L1) (hb : ED F b L1 (.int n) L') (h1 : 1 < n ∧ n ≤ 1000 ∧ 0 < x.length ∧ x.length ≤ 1000) : ED F (.BinOp a .Mult b pos) L (.str (repS x n.toNat)) L' := ed_op (fun _ => op_repS) ha hb fun u v G H _ r1 r2 Q q => by
  cases r1; cases r2; exact ⟨x, n, rfl, rfl, h1.1, h1.2.1, h1.2.2.1, h1.2.2.2, q _ (.str _)⟩
end
end DL
namespace DL
open PySem PyProof.Rows L2 LamX
variable [TabL]
section
variable {F : Fam} {e a b : Expr} {L L1 L' : List Sl} {p pos apos cpos : Pos} {x y : Str} {ws : List Str} {n : Int}
theorem RpA.of_strs {G : Hp} : ∀ {ws : List Str} {xs : List V}, RpA G xs (ws.map PyData.str) → xs = ws.map V.str
  | [], _, .nil => rfl
  | w :: ws, _, .cons r t => by
    cases r
    rw [RpA.of_strs t]
    rfl
theorem RpA.strs {G : Hp} : ∀ (ws : List Str), RpA G (ws.map V.str) (ws.map PyData.str)
  | [] => .nil
  | w :: ws => .cons (.str w) (RpA.strs ws)
/-- a.m(e), a a text, m a method of texts -/
theorem bm_str {id : String} {m : Str} {r : V → List V → Hp → VK → Prop} {ta te : TE} (slot : Slot "str" m id) (hty : typeOf (.builtin id) = pure (.type "method_descriptor")) (mt : ∀ j, MtR (F.x j) id r) (pa : PEf F a ta) (pe : PEf F e te)
    (hbase : ∀ env, attributeBase a m env (eval a env) = eval a env)
    (hfew : ∀ env, ((backTo cpos (starEach [e] env)).all (fun x => !x.1) && (backToKw cpos (keywordEach [] env)).all (fun x => x.1.isSome) && decide (([e] : List Expr).length + ([] : List Keyword).length + (if ([] : List Keyword).isEmpty then 0 else 1) < 30)) = true)
    (hline : (apos.endLine == cpos.line) = true) (hs : ∀ env, starEach [e] env = (false, eval e env) :: starEach [] env) (hplain : ∀ env, (backTo cpos (starEach [] env)).any (·.1) = false) :
    PEf F (.Call (.Attribute a m apos) [e] [] cpos) (tBM F.K "str" r ta (tCons te tNil)) := fun j => by
  rw [← F.hK j]
  exact pe_bm PySem.F.plainAttrs_str slot hty (mt j) (pa j) (pa_cons (pe j) pa_nil (hs _)) (hbase _) (hfew _) hline (hs _) (hplain _)
def rJoin (K : PySem.W.Frag) : V → List V → Hp → VK → Prop := fun x xs H Q => ∃ a p, ∃ ys : List Str, x = .str a ∧ xs = [.ref p] ∧ (SqL K H p (ys.map V.str) ∨ SqT K H p (ys.map V.str)) ∧ (ys.map (·.length)).sum + ys.length * a.length ≤ 16777216 ∧ Q (.str (Txt.join a ys)) H
theorem mt_joinF (F : Fam) (j : F.J) : MtR (F.x j) "str.join" (rJoin F.K) := by
  rw [← F.hK j]
  exact mt_join
/-- a.join(e) -/
theorem ed_join (ha : ED F a L (.str x) L1) (h : LD F e L1 (ws.map PyData.str) L') (hl : (ws.map (·.length)).sum + ws.length * x.length ≤ 16777216)
    (hbase : ∀ env, attributeBase a "join" env (eval a env) = eval a env := by intro _; rfl)
    (hfew : ∀ env, ((backTo cpos (starEach [e] env)).all (fun x => !x.1) && (backToKw cpos (keywordEach [] env)).all (fun x => x.1.isSome) && decide (([e] : List Expr).length + ([] : List Keyword).length + (if ([] : List Keyword).isEmpty then 0 else 1) < 30)) = true := by intro _; rfl)
    (hline : (apos.endLine == cpos.line) = true := by rfl) (hs : ∀ env, starEach [e] env = (false, eval e env) :: starEach [] env := by intro _; rfl) (hplain : ∀ env, (backTo cpos (starEach [] env)).any (·.1) = false := by intro _; rfl) :
    ED F (.Call (.Attribute a "join" apos) [e] [] cpos) L (.str (Txt.join x ws)) L' := by
  obtain ⟨ta, pa, ra⟩ := ha
  obtain ⟨te, pe, run⟩ := h
  refine ⟨_, bm_str PySem.F.slot_str_join PySem.F.type_str_join (mt_joinF F) pa pe hbase hfew hline hs hplain, fun σ G H S Q q => ra σ G H S _ fun v G1 H1 S1 T1 r1 => ?_⟩
  cases r1
  refine ⟨rfl, run σ G1 H1 S1 _ fun p0 xs G2 H2 S2 T2 h2 r2 => ?_⟩
  rw [r2.of_strs] at h2
  exact ⟨x, p0, ws, rfl, rfl, .inl (SqL.of h2), hl, q _ _ _ S2 (T1.trans T2) (.str _)⟩
/-- a.split(b) -/
theorem fd_split (ha : ED F a L (.str x) L1) (h : ED F b L1 (.str y) L') (hy : 0 < y.length) (hl : x.length ≤ 100000)
    (hbase : ∀ env, attributeBase a "split" env (eval a env) = eval a env := by intro _; rfl)
    (hfew : ∀ env, ((backTo cpos (starEach [b] env)).all (fun x => !x.1) && (backToKw cpos (keywordEach [] env)).all (fun x => x.1.isSome) && decide (([b] : List Expr).length + ([] : List Keyword).length + (if ([] : List Keyword).isEmpty then 0 else 1) < 30)) = true := by intro _; rfl)
    (hline : (apos.endLine == cpos.line) = true := by rfl) (hs : ∀ env, starEach [b] env = (false, eval b env) :: starEach [] env := by intro _; rfl) (hplain : ∀ env, (backTo cpos (starEach [] env)).any (·.1) = false := by intro _; rfl) :
    FD F (.Call (.Attribute a "split" apos) [b] [] cpos) L ((Txt.split x y).map PyData.str) L' := by
  obtain ⟨ta, pa, ra⟩ := ha
  obtain ⟨te, pe, run⟩ := h
  refine ⟨_, bm_str PySem.F.slot_str_split PySem.F.type_str_split (fun _ => mt_split) pa pe hbase hfew hline hs hplain, fun σ G H S Q q => ra σ G H S _ fun v G1 H1 S1 T1 r1 => ?_⟩
  cases r1
  refine ⟨rfl, run σ G1 H1 S1 _ fun u G2 H2 S2 T2 r2 => ?_⟩
  cases r2
  have hne : (y.length == 0) = false := by
    have : ¬ y.length = 0 := by omega
    simpa using this
  refine ⟨x, y, rfl, rfl, hne, Nat.le_trans (Nat.add_le_add_right hl 2) (by decide), fun p0 hp => ?_⟩
  obtain ⟨S3, T3⟩ := S2.new (o := .lst ((Txt.split x y).map V.str)) hp
  have TT := T1.trans T2
  exact q p0 _ G2 _ S3 (TT.trans T3) (TT.back hp) upd_same (S2.gn hp) (RpA.strs _)
/-- a.removeprefix(b) -/
theorem ed_remp (ha : ED F a L (.str x) L1) (h : ED F b L1 (.str y) L') (hl : x.length ≤ 100000)
    (hbase : ∀ env, attributeBase a "removeprefix" env (eval a env) = eval a env := by intro _; rfl)
    (hfew : ∀ env, ((backTo cpos (starEach [b] env)).all (fun x => !x.1) && (backToKw cpos (keywordEach [] env)).all (fun x => x.1.isSome) && decide (([b] : List Expr).length + ([] : List Keyword).length + (if ([] : List Keyword).isEmpty then 0 else 1) < 30)) = true := by intro _; rfl)
    (hline : (apos.endLine == cpos.line) = true := by rfl) (hs : ∀ env, starEach [b] env = (false, eval b env) :: starEach [] env := by intro _; rfl) (hplain : ∀ env, (backTo cpos (starEach [] env)).any (·.1) = false := by intro _; rfl) :
    ED F (.Call (.Attribute a "removeprefix" apos) [b] [] cpos) L (.str (Txt.removeprefix x y)) L' := by
  obtain ⟨ta, pa, ra⟩ := ha
  obtain ⟨te, pe, run⟩ := h
  refine ⟨_, bm_str PySem.F.slot_str_removeprefix PySem.F.type_str_removeprefix (fun _ => mt_removeprefix) pa pe hbase hfew hline hs hplain, fun σ G H S Q q => ra σ G H S _ fun v G1 H1 S1 T1 r1 => ?_⟩
  cases r1
  refine ⟨rfl, run σ G1 H1 S1 _ fun u G2 H2 S2 T2 r2 => ?_⟩
  cases r2
  exact ⟨x, y, rfl, rfl, Nat.le_trans hl (by decide), q _ _ _ S2 (T1.trans T2) (.str _)⟩
/-- str(e) of a whole number -/
theorem ed_strI (h : ED F e L (.int n) L') (hn : n.natAbs.log2 < 1920) (hm : F.mg "str" = none) (hg : GlF F "str" := by rfl) (hs : ∀ env, starEach [e] env = (false, eval e env) :: starEach [] env := by intro _; rfl) : ED F (.Call (.Name "str" p) [e] [] pos) L (.str (toString n)) L' := by
  obtain ⟨te, pe, run⟩ := h
  refine ⟨_, ty_any (fun _ => call_str_int) hg hm (by decide +kernel) (pa1 pe hs) (by decide) (by decide) hs (fun _ => rfl), fun σ G H S Q q => run σ G H S _ fun v G' H' S' T r => ?_⟩
  cases r
  exact ⟨n, rfl, hn, q _ _ _ S' T (.str _)⟩
/-- int(e) of a text -/
theorem ed_intS (h : ED F e L (.str x) L') (hn : PySem.intText? x = some n) (hl : x.length ≤ 640) (hm : F.mg "int" = none) (hg : GlF F "int" := by rfl) (hs : ∀ env, starEach [e] env = (false, eval e env) :: starEach [] env := by intro _; rfl) : ED F (.Call (.Name "int" p) [e] [] pos) L (.int n) L' := by
  obtain ⟨te, pe, run⟩ := h
  refine ⟨_, ty_any (fun _ => call_int_str) hg hm PyProof.Rows.boot_int (pa1 pe hs) (by decide) (by decide) hs (fun _ => rfl), fun σ G H S Q q => run σ G H S _ fun v G' H' S' T r => ?_⟩
  cases r
  exact ⟨x, n, rfl, hn, hl, q _ _ _ S' T (.int _)⟩
/-- truth of a text -/
theorem bd_truS (h : ED F e L (.str x) L') (hl : x.length ≤ 100000) (he : ∀ X : Cx, ∀ whole, isTrue e X.env whole = (do let v ← whole; standAt e.pos; holding [v] (truthy v)) := by intro _ _; rfl) : BD F e L (decide (0 < x.length)) L' := by
  obtain ⟨te, pe, run⟩ := h
  refine ⟨fun σ H Q => te σ H fun x H' => ∃ k, TruV F.K x H' k ∧ Q k H', fun j => by rw [← F.hK j]; exact pt_truth (pe j) (he _), fun σ G H S Q q => run σ G H S _ fun v G' H' S' T r => ⟨_, ?_, q _ _ S' T⟩⟩
  cases r
  refine ⟨Nat.le_trans hl (by decide), ?_⟩
  by_cases h0 : x.length = 0
  · rw [h0]
    rfl
  · have h1 : 0 < x.length := by omega
    have h2 : ¬ (x.length : Int) = 0 := by omega
    rw [decide_eq_true h1]
    simp [h0]
end
end DL
namespace DL
open PySem PyProof.Rows L2 LamX
variable [TabL]
section
variable {F : Fam} {e1 e2 : Expr} {z : List Nat} {L : List Sl} {ds us : List PyData} {x y : Str} {px py pt pos pt2 : Pos} {kt k2 : Nat}
/-- x, y = e1, e2: two new lists, each its name's own -/
theorem sd_parF (i j : Nat) (h1 : FD F e1 L ds L) (h2 : FD F e2 L us L) (hz : i ∉ z ∧ j ∉ z := by decide) (hij : i ≠ j := by decide) (hi : F.N[i]? = some x := by rfl) (hj : F.N[j]? = some y := by rfl) (hil : i < L.length := by exact Nat.le_of_ble_eq_true rfl) (hjl : j < L.length := by exact Nat.le_of_ble_eq_true rfl)
    (hx : F.sc.names.lookup x = some .local := by rfl) (hy : F.sc.names.lookup y = some .local := by rfl) (hn : F.N.Nodup := by exact of_decide_eq_true rfl) (hs1 : ∀ env, starEach [e1, e2] env = (false, eval e1 env) :: starEach [e2] env := by intro _; rfl) (hs2 : ∀ env, starEach [e2] env = (false, eval e2 env) :: starEach [] env := by intro _; rfl)
    (hw : ∀ j, swappedStores [.Tuple [.Name x px, .Name y py] kt pt] (.Tuple [e1, e2] k2 pt2) (F.x j).env = pure (some [x, y]) := by intro _; rfl)
    (hs : ∀ j, swapsWithSole [.Tuple [.Name x px, .Name y py] kt pt] (.Tuple [e1, e2] k2 pt2) pos.line (F.x j).env = pure false := by intro _; rfl) :
    SD z F (.Assign [.Tuple [.Name x px, .Name y py] kt pt] (.Tuple [e1, e2] k2 pt2) pos) L (.nx ((L.set i (.ow ds)).set j (.ow us))) := by
  obtain ⟨t1, p1, r1⟩ := h1
  obtain ⟨t2, p2, r2⟩ := h2
  refine ⟨tPar i j (tCons t1 (tCons t2 tNil)), fun q => ?_, fun σ G H S D w => r1 σ G H S _ fun a xs G1 H1 S1 T1 f1 g1 n1 ra => r2 σ G1 H1 S1 _ fun b ys G2 H2 S2 T2 f2 g2 n2 rb => ⟨.ref a, .ref b, rfl, ?_⟩⟩
  · refine ps_par (F.hc q) (by rw [F.hN]; exact hn) (by rw [F.hN]; exact hi) (by rw [F.hN]; exact hj) hij ?_ ?_ (pa_cons (p1 q) (pa_cons (p2 q) pa_nil (hs2 _)) (hs1 _)) (hw q) (hs q)
    · rw [F.hsc]; exact hx
    · rw [F.hsc]; exact hy
  · have no1 : ¬ Own L σ a := S.own_ne f1
    have no2 : ¬ Own L σ b := S1.own_ne f2
    obtain ⟨k1, k2⟩ := T2.fr a _ g1 n1 no1 pl_lst
    have nab : b ≠ a := (ne_of_none g1 f2).symm
    obtain ⟨S3, O3⟩ := S2.set_ow (i := i) hil k1 k2 no1 (ra.up T2.g)
    have no3 : ¬ Own (L.set i (.ow ds)) (σ.set i (some (V.ref a))) b := fun v => (O3 b v).elim no2 nab
    obtain ⟨S4, O4⟩ := S3.set_ow (i := j) (by rw [List.length_set]; exact hjl) g2 n2 no3 rb
    have TT := T1.trans T2
    refine w _ _ _ S4 ⟨TT.g, TT.fr, fun c v => ?_, TT.th⟩ fun k hk => ?_
    · rcases O4 c v with v | rfl
      · rcases O3 c v with v | rfl
        · exact .inl v
        · exact .inr f1
      · exact .inr (T1.back f2)
    · rw [List.getElem?_set_ne (fun z => hz.2 (by rw [z]; exact hk)), List.getElem?_set_ne (fun z => hz.1 (by rw [z]; exact hk))]
end
end DL
namespace DL
open PySem PyProof.Rows L2 LamX
variable [TabL]
section
variable {F : Fam} {c : Expr} {body : List Stmt} {z : List Nat} {pos : Pos} {L : List Sl}
theorem while_any (c : Expr) (body : List Stmt) : PSf F (.While c body [] pos) (tWhile (ttA F c) (tssA F body)) :=
  fun j => ps_while (by rw [F.hxe]; exact PassesOwn.never) (pt_any F c j) (pss_any F body j)
/-- a while that goes n turns; M i tells the slots ahead of turn i, N i behind its test -/
theorem sd_while (M N : Nat → List Sl) (n : Nat) (ht : ∀ i, i < n → BD F c (M i) true (N i) ∧ SsD z F body (N i) (.nx (M (i + 1)))) (he : BD F c (M n) false (N n)) : SD z F (.While c body [] pos) (M 0) (.nx (N n)) := by
  refine ⟨_, while_any c body, fun σ0 G0 H0 S0 D q => ?_⟩
  refine ⟨fun m σ H => ∃ i, m = n - i ∧ i ≤ n ∧ ∃ G, Sta (M i) σ G H ∧ Ts (M 0) σ0 G0 H0 (M i) σ G H ∧ Anc z σ0 σ, ⟨n, 0, by simp, Nat.zero_le _, G0, S0, .refl, .refl⟩, ?_⟩
  rintro m σ H ⟨i, rfl, hi, G, S, T0, A⟩
  by_cases h : i < n
  · obtain ⟨⟨tc, pc, rc⟩, ts, ps, run⟩ := ht i h
    refine ⟨tc, pc, rc σ G H S _ fun G1 H1 S1 T1 => ?_⟩
    rw [if_pos rfl]
    refine ⟨fun σ' H' => ∃ G', Sta (M (i + 1)) σ' G' H' ∧ Ts (M 0) σ0 G0 H0 (M (i + 1)) σ' G' H' ∧ Anc z σ0 σ', fun σ' H' w => ⟨n - (i + 1), by omega, i + 1, rfl, by omega, w⟩, ts, ps, run σ G1 H1 S1 _ fun σ' G' H' S' T' A' => ?_⟩
    exact ⟨G', S', (T0.trans S.gh T1.ts).trans S1.gh T', A.trans A'⟩
  · obtain rfl : i = n := by omega
    obtain ⟨tc, pc, rc⟩ := he
    refine ⟨tc, pc, rc σ G H S _ fun G1 H1 S1 T1 => ?_⟩
    rw [if_neg (by simp)]
    exact q σ G1 H1 S1 (T0.trans S.gh T1.ts) A
end
end DL
namespace DL
open PySem PyProof.Rows L2
variable [TabL]
section
variable {z : List Nat} {F : Fam} {e e1 e2 a b c kx vx tg iter ek ev : Expr} {ifs : List Expr} {rest : List Stmt} {L L1 L2' L' L3 : List Sl} {d d1 d2 : PyData} {ds its rs : List PyData} {x y : Str} {pos p : Pos} {σ σ' : L2.St} {G G1 H1 H G' H' : Hp} {scope : Scope} {o : Out} {q : Addr} {ob oc : HO}
/-! ### a plain object, neither frozen nor a slot's own, changes -/
theorem pl_dK {ks : List (Key × V)} : Pl (.dK ks) := ⟨fun _ h => (by cases h), fun _ _ h => (by unfold LamX.CodeO at h; cases h)⟩
theorem Thr.pl (h : H q = some ob) (n : Pl ob) : Thr G H G (upd H q oc) := by
  refine ⟨fun b o hb => ?_, fun h' p hp => ?_, fun h => h⟩
  · by_cases e : b = q
    · exact ⟨_, by rw [e]; exact upd_same⟩
    · exact ⟨o, by rw [upd_ne e]; exact hb⟩
  · obtain ⟨ps, h1, h2, h3⟩ := h' p hp
    refine ⟨ps, ?_, h2, fun pos cv hc => ?_⟩
    · rw [upd_ne]
      · exact h1
      · rintro rfl
        rw [h] at h1
        exact n.1 ps (Option.some.inj h1)
    · obtain ⟨c, e1, e2⟩ := h3 pos cv hc
      refine ⟨c, e1, ?_⟩
      rw [upd_ne]
      · exact e2
      · rintro rfl
        rw [h] at e2
        exact n.2 _ _ (Option.some.inj e2)
theorem Sta.offP (S : Sta L σ G H) (hg : G q = none) (no : ¬ Own L σ q) (hq : H q = some ob) (n : Pl ob) : Sta L σ G (upd H q oc) := by
  refine ⟨fun b o hb => ?_, S.ln, fun i x t e1 e2 => ?_, S.di⟩
  · rw [upd_ne]
    · exact S.gh b o hb
    · rintro rfl
      rw [hg] at hb
      cases hb
  · have w := S.sl i x t e1 e2
    cases t with
    | no => exact w
    | va d => exact w
    | ow ds =>
      obtain ⟨a, xs, e, h1, h2, h3⟩ := w
      subst e
      refine ⟨a, xs, rfl, ?_, h2, h3⟩
      rw [upd_ne]
      · exact h1
      · rintro rfl
        exact no ⟨i, ds, e2, e1⟩
    | tb => exact Thr.tabs (.pl hq n) w
    | fn f G1 => exact w
/-! ### dicts by texts -/
def vsK (kvs : List (Str × Option Int)) : List (Key × V) := kvs.map fun q => (Sum.inr q.1, oV q.2)
def vsD (kvs : List (Str × Option Int)) : List (PyData × PyData) := kvs.map fun q => (PyData.str q.1, oD q.2)
theorem putK_vs {kvs : List (Str × Option Int)} {k : Str} {w : Option Int} (h : k ∉ kvs.map (·.1)) : putK (vsK kvs) (Sum.inr k) (oV w) = vsK (kvs ++ [(k, w)]) := by
  unfold putK
  rw [if_neg]
  · unfold vsK
    rw [List.map_append]
    rfl
  · intro hh
    obtain ⟨w, hw, e⟩ := List.any_eq_true.mp hh
    obtain ⟨u, hu, rfl⟩ := List.mem_map.mp hw
    have e2 : u.1 = k := Sum.inr.inj (of_decide_eq_true e)
    exact h (by rw [← e2]; exact List.mem_map_of_mem (f := fun q : Str × Option Int => q.1) hu)
theorem oD_inv {w : Option Int} {v : V} (h : Rp G v (oD w)) : v = oV w := by
  cases w with
  | none => cases h; rfl
  | some n => cases h; rfl
theorem oD_rp (w : Option Int) : Rp G (oV w) (oD w) := by
  cases w with
  | none => exact .non
  | some n => exact .int n
theorem vsD_inj : ∀ {a b : List (Str × Option Int)}, vsD a = vsD b → a = b
  | [], [], _ => rfl
  | [], _ :: _, h => by cases h
  | _ :: _, [], h => by cases h
  | (x1, o1) :: l2, (x2, o2) :: l, h2 => by
    unfold vsD at h2
    rw [List.map_cons, List.map_cons, List.cons.injEq, Prod.mk.injEq] at h2
    obtain ⟨⟨h3, h4⟩, h5⟩ := h2
    have e1 : x1 = x2 := PyData.str.inj h3
    have e2 : o1 = o2 := by
      cases o1 <;> cases o2 <;> simp [oD] at h4 ⊢
      exact h4
    rw [e1, e2, vsD_inj (a := l2) (b := l) h5]
theorem vsD_inv {kvs : List (Str × Option Int)} {v : V} (h : Rp G v (.dict (vsD kvs))) (hne : kvs ≠ []) : ∃ a, v = .ref a ∧ G a = some (.dK (vsK kvs)) := by
  generalize hd : PyData.dict (vsD kvs) = dd at h
  cases kvs with
  | nil => exact absurd rfl hne
  | cons q l =>
  cases h with
  | dks kvs2 h1 =>
    have e := vsD_inj (a := kvs2) (b := q :: l) (PyData.dict.inj hd).symm
    rw [e] at h1
    exact ⟨_, rfl, h1⟩
  | dct kvs2 h1 =>
    have h2 := PyData.dict.inj hd
    cases kvs2 with
    | nil => simp [vsD] at h2
    | cons q2 l2 => simp [vsD] at h2
  | dcs kvs2 h1 =>
    have h2 := PyData.dict.inj hd
    cases kvs2 with
    | nil => simp [vsD] at h2
    | cons q2 l2 => simp [vsD] at h2
  | exc h1 h2 h3 =>
    have h4 := PyData.dict.inj hd
    obtain ⟨x1, o1⟩ := q
    cases l <;> cases o1 <;> simp [vsD, oD] at h4
  | _ => cases hd
/-! ### {k: v for target in iter} -/
/-- name = {..} on one line, the name a local -/
theorem ps_setDc {X : Cx} {i : Nat} {y : Str} {py : Pos} {kx vx tg iter : Expr} {ifs : List Expr} {scope : Scope} {own : List (Str × Nat)} {pos spos : Pos} {wi : TI} {g : TG} {tt : TT} {tk tv : TE} (hc : X.calm = true) (hN : X.N.Nodup) (hy : X.N[i]? = some y) (hyl : X.env.scope.names.lookup y = some .local)
    (hsw : swapsWith (.DictComp kx vx [⟨tg, iter, ifs, 0⟩] scope pos) (some (.Name y py)) spos.line X.env = pure true) (hi : PI X tg iter wi) (ok : BlkOk X.N X.env.scope scope own)
    (hg : ∀ (s : Shared) (H : Hp) (C : Addr) (cl : List (Str × Addr)) (fp : List Addr), PG (X.blk s H scope (compEnvC scope cl C X.env) fp) tg g) (ht : ∀ (s : Shared) (H : Hp) (C : Addr) (cl : List (Str × Addr)) (fp : List Addr), PTs (X.blk s H scope (compEnvC scope cl C X.env) fp) ifs tt)
    (hk : ∀ (s : Shared) (H : Hp) (C : Addr) (cl : List (Str × Addr)) (fp : List Addr), PE (X.blk s H scope (compEnvC scope cl C X.env) fp) kx tk)
    (he : ∀ (s : Shared) (H : Hp) (C : Addr) (cl : List (Str × Addr)) (fp : List Addr), PE (X.blk s H scope (compEnvC scope cl C X.env) fp) vx tv) (hs : ∀ x, foldedSetIterable iter X.env x = pure x := by intro _; rfl) :
    PS X (.Assign [.Name y py] (.DictComp kx vx [⟨tg, iter, ifs, 0⟩] scope pos) spos) (tAsg (tDc wi g tt tk tv (own.map (·.2))) (gName i)) := by
  refine ⟨fun pins s σ H D I h => ?_⟩
  rw [exec_Assign_Name_used _ _ _ _ hsw]
  refine wpAny_bind (wpAny_standAt (wpAny_bind ?_))
  show wpAny _ X.A (do let _ ← comprehension (.DictComp kx vx [⟨tg, iter, ifs, 0⟩] scope pos) scope X.env (firstIterPos [⟨tg, iter, ifs, 0⟩] pos) newDict false (eval iter X.env) (some (assign (.Name y py) X.env))) _ _ s
  have h : tDc wi g tt tk tv (own.map (·.2)) σ H (fun x H1 => gName i x σ H1 D.nx) := h
  refine wpAny_bind (thn (dc_core (Qf := fun _ s' => SP X pins D .next s') hc hN I hi ok hg ht hk he hs h fun L C s' m H' I' q hn f => ?_) fun _ s' hq => wpAny_pure (wpAny_pure hq))
  show wpAny _ _ (assign (.Name y py) X.env (.ref L)) _ _ _
  refine wpAny_assign_Name (store_ok2 (v := V.ref L) I' hN hy (.inl hyl) rfl (fun s2 I2 ⟨a, sb, ha⟩ => ?_) (.inr hyl))
  obtain ⟨f0, f1, f2, f3, f4, f5⟩ := f
  have haC : C ≠ a := by
    rcases ha with z | z
    · rw [z]; exact f1
    · exact fun e => f4 y a z e.symm
  refine ⟨m, hn.sameBut sb haC, fun h3 sb3 => ?_⟩
  exact ⟨_, H', I2.turned (t' := s2.toks) (fun b o hb e => (sb3.2 b hb).trans e) f0 f1 f3 f4 f5, q⟩
theorem sw_trueD {gs : List Comprehension} {scope : Scope} {pos py : Pos} {y : Str} {l : Nat} {env : Env} (hk : env.scope.kind = .function) (hy : env.scope.names.lookup y = some .local) (hl : (py.line == pos.line) = true)
    (ha : (scope.names.any fun (n, k) => n == y && (k == .local || k == .cell)) = false) : swapsWith (.DictComp kx vx gs scope pos) (some (.Name y py)) l env = pure true := by
  have ky : env.kindOf y = some .local := hy
  have hb : env.blockKind = .function := by unfold Env.blockKind; rw [hk]; rfl
  unfold swapsWith
  simp only [hb, ky, ha, Expr.pos, hl]
  rfl
/-- the reading of the comprehension: nothing is changed by key or value -/
theorem dc_run {own : List (Str × Nat)} {T : List Nat} {ok : PyData → Prop} {u : PyData → List Sl → List Sl} (f : PyData → Str) (w : PyData → Option Int) (hi : ItD F tg iter L its L1) (ht : TgD (F.blk scope) tg T ok u)
    (hT : ∀ k ∈ T, k ∈ own.map (·.2)) (hM : L1.length = F.N.length) (hno : AllNo (own.map (·.2)) L1)
    (he : ∀ d, d ∈ its → ok d ∧ ED (F.blk scope) kx (u d L1) (.str (f d)) (u d L1) ∧ ED (F.blk scope) vx (u d L1) (oD (w d)) (u d L1)) (nd : (its.map f).Nodup) (hlen : its.length ≤ 100000) :
    ∃ (wi : TI) (g : TG), PIf F tg iter wi ∧ PGf (F.blk scope) tg g ∧ ∀ σ G H, Sta L σ G H → ∀ Q : VK, (∀ p G' H', Sta L1 σ G' H' → Te L σ G H L1 G' H' → H p = none → H' p = some (.dK (vsK (its.map fun d => (f d, w d)))) → G' p = none → Q (.ref p) H') → tDc wi g (ttsA (F.blk scope) []) (teA (F.blk scope) kx) (teA (F.blk scope) vx) (own.map (·.2)) σ H Q := by
  obtain ⟨wi, pi, runI⟩ := hi
  obtain ⟨⟨g, pg, runG⟩, out, nown, ulen⟩ := ht
  refine ⟨wi, g, pi, pg, fun σ G0 H0 S0 Q q => runI σ G0 H0 S0 _ fun J G1 H1 S1 T1 RJ => fun Dl hD => ?_⟩
  have hDG : G1 Dl = none := S1.gn hD
  have no0 : ∀ k ∈ own.map (·.2), ∀ t, L1[k]? = some t → t = .no := hno.at
  let R : Nat → List (Str × Option Int) := fun i => (its.take i).map fun d => (f d, w d)
  refine ⟨fun i k H => k = its.length - i ∧ i ≤ its.length ∧ ∃ G, Sta L1 σ G H ∧ Te L1 σ G1 H1 L1 G H ∧ H Dl = some (.dK (vsK (R i))) ∧ G Dl = none ∧ ¬ Own L1 σ Dl, ⟨its.length, by simp, Nat.zero_le _, G1, ?_⟩, ?_⟩
  · obtain ⟨S2, T2⟩ := S1.new (o := .dK []) hD
    exact ⟨S2, T2, upd_same, hDG, S1.own_ne hD⟩
  rintro i k H ⟨rfl, him, G, S, T0, hDl, hGD, nO⟩
  obtain ⟨stop, go⟩ := RJ i G H T0.g S.gh
  by_cases h : i < its.length
  case neg =>
    obtain rfl : i = its.length := by omega
    have e : R its.length = its.map fun d => (f d, w d) := by
      show (its.take its.length).map _ = _
      rw [List.take_length]
    rw [e] at hDl
    exact .inl ⟨stop (Nat.le_refl _), q Dl G H S (T1.trans T0) (T1.back hD) hDl hGD⟩
  obtain ⟨hg, hy⟩ := go its[i] (List.getElem?_eq_getElem h)
  obtain ⟨okd, ⟨tk, pk, rk⟩, ⟨tv, pv, rv⟩⟩ := he its[i] (List.getElem_mem h)
  obtain ⟨dd, hdd⟩ : ∃ dd, dd = its[i] := ⟨_, rfl⟩
  have eR : R (i + 1) = R i ++ [(f dd, w dd)] := by
    show (its.take (i + 1)).map _ = _
    rw [List.take_succ, List.getElem?_eq_getElem h, List.map_append, hdd]
    rfl
  have nin : f dd ∉ (R i).map (·.1) := by
    intro hm
    have e1 : (R i).map (·.1) = (its.take i).map f := by
      show List.map _ ((its.take i).map _) = _
      rw [List.map_map]
      rfl
    rw [e1] at hm
    have e2 : its.map f = (its.take i).map f ++ (f dd :: (its.drop (i + 1)).map f) := by
      conv => lhs; rw [← List.take_append_drop i its, List.drop_eq_getElem_cons h]
      rw [List.map_append, List.map_cons, hdd]
    rw [e2, List.nodup_append] at nd
    exact nd.2.2 _ hm _ (List.mem_cons_self ..) rfl
  have lenR : (vsK (R i)).length < sizeLine := by
    have : (vsK (R i)).length ≤ 100000 := by
      show (List.map _ ((its.take i).map _)).length ≤ _
      rw [List.length_map, List.length_map, List.length_take]
      omega
    exact Nat.lt_of_lt_of_le (by omega : _ < 200000) (by decide)
  rw [← hdd] at hy okd rk rv
  refine .inr ⟨hg, fun H' => i + 1 ≤ its.length ∧ ∃ G, Sta L1 σ G H' ∧ Te L1 σ G1 H1 L1 G H' ∧ H' Dl = some (.dK (vsK (R (i + 1)))) ∧ G Dl = none ∧ ¬ Own L1 σ Dl,
    fun H' ⟨l1, w⟩ => ⟨its.length - (i + 1), by omega, rfl, l1, w⟩, fun x H' hx => ?_⟩
  obtain ⟨G2, S2, T2, r2⟩ := yielded S (hy x H' hx)
  refine runG _ okd _ _ _ _ _ (by show _ = F.N.length; exact hM) (wipeSta no0 S2) r2 _ fun σ3 S3 T3 A3 => ?_
  have l3 : σ3.length = σ.length := by rw [S3.ln, ulen _ _ okd, ← S2.ln]
  have agree : ∀ k, k ∉ own.map (·.2) → σ3[k]? = σ[k]? := fun k hk => by
    have := A3 k fun hkT => hk (hT k hkT)
    rw [wipe_get, if_neg hk] at this
    exact this
  have weq : wipe σ3 (own.map (·.2)) = wipe σ (own.map (·.2)) := wipe_eq (fun k hk => by rw [wipe_get, if_neg hk]; exact agree k hk) l3
  refine ⟨weq, ?_⟩
  have nw0 : ∀ k ∈ own.map (·.2), ∀ ds, (u dd L1)[k]? ≠ some (Sl.ow ds) := fun k hk ds e => by
    by_cases hkT : k ∈ T
    · exact nown _ _ k ds okd hkT e
    · rw [out _ _ k okd hkT] at e
      cases no0 k hk _ e
  have B0 : Blk L1 (u dd L1) (own.map (·.2)) σ σ3 := ⟨no0, fun k hk => out _ _ k okd fun hkT => hk (hT k hkT), nw0, agree, S2.ln.symm⟩
  have nO3 : ¬ Own (u dd L1) σ3 Dl := fun w => nO (B0.own.mp w)
  have hD2 := T2.fr Dl _ hDl hGD nO pl_dK
  refine IfsD.run (k := true) .nil S3 _ fun G4 H4 S4 T4 => iteT ⟨tk, pk, rk σ3 G4 H4 S4 _ fun v5 G5 H5 S5 T5 r5 => ⟨tv, pv, rv σ3 G5 H5 S5 _ fun v6 G6 H6 S6 T6 r6 => ?_⟩⟩
  have hD4 := T4.fr Dl _ hD2.1 hD2.2 nO3 pl_dK
  have hD5 := T5.fr Dl _ hD4.1 hD4.2 nO3 pl_dK
  have hD6 := T6.fr Dl _ hD5.1 hD5.2 nO3 pl_dK
  cases r5
  obtain rfl := oD_inv r6
  have SB := B0.back S6
  have TB := (T0.trans T2).trans (B0.te ((T4.trans T5).trans T6))
  refine ⟨vsK (R i), Sum.inr (f dd), rfl, hD6.1, lenR, by omega, G6, SB.offP hD6.2 nO hD6.1 pl_dK, ?_, ?_, hD6.2, nO⟩
  · refine ⟨TB.g, fun b o hb gb nb nt => ?_, TB.ow, TB.th.trans (.pl hD6.1 pl_dK)⟩
    obtain ⟨q1, q2⟩ := TB.fr b o hb gb nb nt
    refine ⟨?_, q2⟩
    rw [upd_ne (ne_of_none hb hD)]
    exact q1
  · rw [upd_same, putK_vs nin, eR]
/-- x = {..}; x[ek] = ev; .. -/
theorem ss_dcput {own : List (Str × Nat)} {T : List Nat} {ok : PyData → Prop} {u : PyData → List Sl → List Sl} {k : Str} {n : Option Int} {py py2 spos pos2 pos3 : Pos} (i : Nat) (f : PyData → Str) (w : PyData → Option Int) (hi : ItD F tg iter L its L1) (hb : BlkOk F.N F.sc scope own) (ht : TgD (F.blk scope) tg T ok u)
    (hT : ∀ k ∈ T, k ∈ own.map (·.2)) (hM : L1.length = F.N.length) (hno : AllNo (own.map (·.2)) L1)
    (he : ∀ d, d ∈ its → ok d ∧ ED (F.blk scope) kx (u d L1) (.str (f d)) (u d L1) ∧ ED (F.blk scope) vx (u d L1) (oD (w d)) (u d L1)) (nd : (its.map f).Nodup) (hlen : its.length ≤ 100000)
    (hk : ED F ek (L1.set i .no) (.str k) (L1.set i .no)) (hv : ED F ev (L1.set i .no) (oD n) (L1.set i .no)) (hnk : k ∉ its.map f)
    (hr : SsD z F rest (L1.set i (.va (.dict (vsD ((its.map fun d => (f d, w d)) ++ [(k, n)]))))) o)
    (hz : i ∉ z := by decide) (hN : F.N[i]? = some y := by rfl) (hl : i < L1.length := by exact Nat.le_of_ble_eq_true rfl) (hy : F.sc.names.lookup y = some .local := by rfl) (hkf : F.sc.kind = .function := by rfl)
    (hli : (py.line == pos.line) = true := by rfl) (ha : (scope.names.any fun (n, k) => n == y && (k == .local || k == .cell)) = false := by decide +kernel) (hn : F.N.Nodup := by exact of_decide_eq_true rfl) (hvis : Vis F.sc y := by first | exact Or.inl rfl | exact Or.inr (Or.inl rfl) | exact Or.inr (Or.inr rfl)) (hd : (y == ("__debug__" : Str)) = false := by decide) (hcd : (y == ("__classdict__" : Str)) = false := by decide)
    (hs : ∀ env x, foldedSetIterable iter env x = pure x := by intro _ _; rfl) (hsw : ∀ j, swapsWith ev (some (.Subscript (.Name y py2) ek pos2)) pos3.line (F.x j).env = pure false := by intro _; rfl) :
    SsD z F (.Assign [.Name y py] (.DictComp kx vx [⟨tg, iter, [], 0⟩] scope pos) spos :: .Assign [.Subscript (.Name y py2) ek pos2] ev pos3 :: rest) L o := by
  obtain ⟨wi, g, pi, pg, run⟩ := dc_run (kx := kx) (vx := vx) f w hi ht hT hM hno he nd hlen
  obtain ⟨tk, pk, rk⟩ := hk
  obtain ⟨tv, pv, rv⟩ := hv
  obtain ⟨tr, pr, rr⟩ := hr
  refine ⟨tSeq (tAsg (tDc wi g (ttsA (F.blk scope) []) (teA (F.blk scope) kx) (teA (F.blk scope) vx) (own.map fun (x : Str × Nat) => x.snd)) (gName i)) (tSeq (sDPut (tVar i) tk tv) tr), fun j => pss_cons ?_ (pss_cons (ps_dput (by have := (F.hr j).un; omega) (pvF F i hN hvis hd hcd j) (pk j) (pv j) (hsw j)) (pr j)), fun σ G H S D q => ?_⟩
  · refine ps_setDc (F.hc j) (by rw [F.hN]; exact hn) (by rw [F.hN]; exact hN) (by rw [F.hsc]; exact hy) (sw_trueD (by rw [F.hsc]; exact hkf) (by rw [F.hsc]; exact hy) hli ha) (pi j) (by rw [F.hN, F.hsc]; exact hb) (fun s H C cl fp => ?_) (fun s H C cl fp => ?_) (fun s H C cl fp => ?_) (fun s H C cl fp => ?_) (hs _)
    · exact pg (j, s, H, C, cl, fp)
    · exact pts_any (F.blk scope) [] (j, s, H, C, cl, fp)
    · exact pe_any (F.blk scope) kx (j, s, H, C, cl, fp)
    · exact pe_any (F.blk scope) vx (j, s, H, C, cl, fp)
  · refine run σ G H S (fun v H1 => sDPut (tVar i) tk tv { D with nx := tr D } (σ.set i (some v)) H1) fun p G1 H1 S1 T1 hp hp1 gp1 => ?_
    have hs1 : i < σ.length := by rw [S1.ln]; exact hl
    have no1 : ¬ Own L1 σ p := fun w => S.own_ne hp (T1.ow p w)
    obtain ⟨S2, O2⟩ := S1.set_no (i := i) (v := some (.ref p))
    have no2 : ¬ Own (L1.set i .no) (σ.set i (some (.ref p))) p := fun w => no1 (O2 p w)
    refine rv _ G1 H1 S2 _ fun v2 G3 H3 S3 T3 r3 => ⟨.ref p, List.getElem?_set_self hs1, rk _ G3 H3 S3 _ fun v4 G4 H4 S4 T4 r4 => ?_⟩
    cases r4
    obtain rfl := oD_inv r3
    obtain ⟨h3, g3⟩ := T3.fr p _ hp1 gp1 no2 pl_dK
    obtain ⟨h4, g4⟩ := T4.fr p _ h3 g3 no2 pl_dK
    have lenR : (vsK (its.map fun d => (f d, w d))).length < sizeLine := by
      have : (vsK (its.map fun d => (f d, w d))).length ≤ 100000 := by
        unfold vsK
        rw [List.length_map, List.length_map]
        exact hlen
      exact Nat.lt_of_lt_of_le (by omega : _ < 200000) (by decide)
    have nin : k ∉ (its.map fun d => (f d, w d)).map (·.1) := by
      rw [List.map_map]
      exact hnk
    refine ⟨p, _, rfl, DPut.k (k := Sum.inr k) h4 lenR, ?_⟩
    rw [putK_vs nin]
    have S5 := S4.offP (oc := .dK (vsK ((its.map fun d => (f d, w d)) ++ [(k, n)]))) g4 no2 h4 pl_dK
    obtain ⟨S6, e6⟩ := S5.freeze upd_same g4 no2
    obtain ⟨S7, T7⟩ := S6.set_va (i := i) (v := .ref p) (by rw [List.length_set]; exact hl) (Rp.dks _ upd_same)
    rw [List.set_set, List.set_set] at S7
    refine rr _ _ _ S7 D (q.from S7 ⟨((T1.g.trans T3.g).trans T4.g).trans e6, fun b ob hb gb nb nt => ?_, fun b v => ?_, ?_⟩ (Anc.set hz))
    · obtain ⟨k1, k2⟩ := T1.fr b ob hb gb nb nt
      have nb1 : ¬ Own (L1.set i .no) (σ.set i (some (.ref p))) b := fun v => nb (T1.ow b (O2 b v))
      obtain ⟨k3, k4⟩ := (T3.trans T4).fr b ob k1 k2 nb1 nt
      have hbp : b ≠ p := ne_of_none hb hp
      exact ⟨by rw [upd_ne hbp]; exact k3, by rw [upd_ne hbp]; exact k4⟩
    · obtain ⟨j, us, f1, f2⟩ := v
      refine .inl (T1.ow b ?_)
      by_cases hj : i = j
      · subst hj
        rw [List.getElem?_set_self hl] at f1
        cases f1
      · rw [List.getElem?_set_ne hj] at f1 f2
        exact ⟨j, us, f1, f2⟩
    · exact (((T1.th.trans T3.th).trans T4.th).trans (.pl h4 pl_dK)).trans (.frz pl_dK.1)
/-- .. where x is a cell, or a statement of its own line -/
theorem ss_dcputC {own : List (Str × Nat)} {T : List Nat} {ok : PyData → Prop} {u : PyData → List Sl → List Sl} {k : Str} {n : Option Int} {py py2 spos pos2 pos3 : Pos} (i : Nat) (f : PyData → Str) (w : PyData → Option Int) (hi : ItD F tg iter L its L1) (hb : BlkOk F.N F.sc scope own) (ht : TgD (F.blk scope) tg T ok u)
    (hT : ∀ k ∈ T, k ∈ own.map (·.2)) (hM : L1.length = F.N.length) (hno : AllNo (own.map (·.2)) L1)
    (he : ∀ d, d ∈ its → ok d ∧ ED (F.blk scope) kx (u d L1) (.str (f d)) (u d L1) ∧ ED (F.blk scope) vx (u d L1) (oD (w d)) (u d L1)) (nd : (its.map f).Nodup) (hlen : its.length ≤ 100000)
    (hk : ED F ek (L1.set i .no) (.str k) (L1.set i .no)) (hv : ED F ev (L1.set i .no) (oD n) (L1.set i .no)) (hnk : k ∉ its.map f)
    (hr : SsD z F rest (L1.set i (.va (.dict (vsD ((its.map fun d => (f d, w d)) ++ [(k, n)]))))) o)
    (hz : i ∉ z := by decide) (hN : F.N[i]? = some y := by rfl) (hl : i < L1.length := by exact Nat.le_of_ble_eq_true rfl) (hx : Loc F.sc y := by first | exact Or.inl rfl | exact Or.inr rfl) (hfy : StF F y := by first | exact Or.inl rfl | exact Or.inr rfl) (hs0 : ∀ j, swapsWith (.DictComp kx vx [⟨tg, iter, [], 0⟩] scope pos) (some (.Name y py)) spos.line (F.x j).env = pure false := by intro _; rfl)
    (hn : F.N.Nodup := by exact of_decide_eq_true rfl) (hvis : Vis F.sc y := by first | exact Or.inl rfl | exact Or.inr (Or.inl rfl) | exact Or.inr (Or.inr rfl)) (hd : (y == ("__debug__" : Str)) = false := by decide) (hcd : (y == ("__classdict__" : Str)) = false := by decide)
    (hs : ∀ env x, foldedSetIterable iter env x = pure x := by intro _ _; rfl) (hsw : ∀ j, swapsWith ev (some (.Subscript (.Name y py2) ek pos2)) pos3.line (F.x j).env = pure false := by intro _; rfl) :
    SsD z F (.Assign [.Name y py] (.DictComp kx vx [⟨tg, iter, [], 0⟩] scope pos) spos :: .Assign [.Subscript (.Name y py2) ek pos2] ev pos3 :: rest) L o := by
  obtain ⟨wi, g, pi, pg, run⟩ := dc_run (kx := kx) (vx := vx) f w hi ht hT hM hno he nd hlen
  obtain ⟨tk, pk, rk⟩ := hk
  obtain ⟨tv, pv, rv⟩ := hv
  obtain ⟨tr, pr, rr⟩ := hr
  refine ⟨tSeq (tAsg (tDc wi g (ttsA (F.blk scope) []) (teA (F.blk scope) kx) (teA (F.blk scope) vx) (own.map fun (x : Str × Nat) => x.snd)) (gName i)) (tSeq (sDPut (tVar i) tk tv) tr), fun j => pss_cons ?_ (pss_cons (ps_dput (by have := (F.hr j).un; omega) (pvF F i hN hvis hd hcd j) (pk j) (pv j) (hsw j)) (pr j)), fun σ G H S D q => ?_⟩
  · refine set_any (fun j => pe_dc (F.hc j) (by rw [F.hN]; exact hn) (pi j) (by rw [F.hN, F.hsc]; exact hb) (fun s H C cl fp => ?_) (fun s H C cl fp => ?_) (fun s H C cl fp => ?_) (fun s H C cl fp => ?_) (hs _)) hn hN hx hfy hs0 j
    · exact pg (_, s, H, C, cl, fp)
    · exact pts_any (F.blk scope) [] (_, s, H, C, cl, fp)
    · exact pe_any (F.blk scope) kx (_, s, H, C, cl, fp)
    · exact pe_any (F.blk scope) vx (_, s, H, C, cl, fp)
  · refine run σ G H S (fun v H1 => sDPut (tVar i) tk tv { D with nx := tr D } (σ.set i (some v)) H1) fun p G1 H1 S1 T1 hp hp1 gp1 => ?_
    have hs1 : i < σ.length := by rw [S1.ln]; exact hl
    have no1 : ¬ Own L1 σ p := fun w => S.own_ne hp (T1.ow p w)
    obtain ⟨S2, O2⟩ := S1.set_no (i := i) (v := some (.ref p))
    have no2 : ¬ Own (L1.set i .no) (σ.set i (some (.ref p))) p := fun w => no1 (O2 p w)
    refine rv _ G1 H1 S2 _ fun v2 G3 H3 S3 T3 r3 => ⟨.ref p, List.getElem?_set_self hs1, rk _ G3 H3 S3 _ fun v4 G4 H4 S4 T4 r4 => ?_⟩
    cases r4
    obtain rfl := oD_inv r3
    obtain ⟨h3, g3⟩ := T3.fr p _ hp1 gp1 no2 pl_dK
    obtain ⟨h4, g4⟩ := T4.fr p _ h3 g3 no2 pl_dK
    have lenR : (vsK (its.map fun d => (f d, w d))).length < sizeLine := by
      have : (vsK (its.map fun d => (f d, w d))).length ≤ 100000 := by
        unfold vsK
        rw [List.length_map, List.length_map]
        exact hlen
      exact Nat.lt_of_lt_of_le (by omega : _ < 200000) (by decide)
    have nin : k ∉ (its.map fun d => (f d, w d)).map (·.1) := by
      rw [List.map_map]
      exact hnk
    refine ⟨p, _, rfl, DPut.k (k := Sum.inr k) h4 lenR, ?_⟩
    rw [putK_vs nin]
    have S5 := S4.offP (oc := .dK (vsK ((its.map fun d => (f d, w d)) ++ [(k, n)]))) g4 no2 h4 pl_dK
    obtain ⟨S6, e6⟩ := S5.freeze upd_same g4 no2
    obtain ⟨S7, T7⟩ := S6.set_va (i := i) (v := .ref p) (by rw [List.length_set]; exact hl) (Rp.dks _ upd_same)
    rw [List.set_set, List.set_set] at S7
    refine rr _ _ _ S7 D (q.from S7 ⟨((T1.g.trans T3.g).trans T4.g).trans e6, fun b ob hb gb nb nt => ?_, fun b v => ?_, ?_⟩ (Anc.set hz))
    · obtain ⟨k1, k2⟩ := T1.fr b ob hb gb nb nt
      have nb1 : ¬ Own (L1.set i .no) (σ.set i (some (.ref p))) b := fun v => nb (T1.ow b (O2 b v))
      obtain ⟨k3, k4⟩ := (T3.trans T4).fr b ob k1 k2 nb1 nt
      have hbp : b ≠ p := ne_of_none hb hp
      exact ⟨by rw [upd_ne hbp]; exact k3, by rw [upd_ne hbp]; exact k4⟩
    · obtain ⟨j, us, f1, f2⟩ := v
      refine .inl (T1.ow b ?_)
      by_cases hj : i = j
      · subst hj
        rw [List.getElem?_set_self hl] at f1
        cases f1
      · rw [List.getElem?_set_ne hj] at f1 f2
        exact ⟨j, us, f1, f2⟩
    · exact (((T1.th.trans T3.th).trans T4.th).trans (.pl h4 pl_dK)).trans (.frz pl_dK.1)
/-! ### asked -/
theorem valV_vs {kvs : List (Str × Option Int)} {k : Str} : valV (vsK kvs) (Sum.inr k) = (kvs.find? fun q => decide (q.1 = k)).map fun q => oV q.2 := by
  induction kvs with
  | nil => rfl
  | cons q kvs ih =>
    unfold valV vsK at ih ⊢
    rw [List.map_cons, List.find?_cons, List.find?_cons]
    by_cases h : q.1 = k
    · simp [h]
    · have : decide ((Sum.inr q.1 : Key) = Sum.inr k) = false := by
        rw [decide_eq_false]
        exact fun e => h (Sum.inr.inj e)
      rw [this, decide_eq_false h]
      exact ih
theorem cd_inK {kvs : List (Str × Option Int)} {k : Str} (ha : ED F a L (.str k) L1) (hb : ED F b L1 (.dict (vsD kvs)) L') (hne : kvs ≠ []) (hm : behindInMarks .In b = false := by rfl) : CD F (.Compare a [.In] [b] pos) L ((kvs.find? fun q => decide (q.1 = k)).isSome) L' := by
  obtain ⟨ta, pa, ra⟩ := ha
  obtain ⟨tb, pb, rb⟩ := hb
  refine ⟨tDIn ta tb, fun j => pe_cmp (pc_din (by have := (F.hr j).un; omega) (pa j) (pb j)) hm, fun j => pt_cmp (pc_din (by have := (F.hr j).un; omega) (pa j) (pb j)) hm, fun σ G H S Q q => ra σ G H S _ fun x G1 H1 S1 T1 r1 => rb σ G1 H1 S1 _ fun y G2 H2 S2 T2 r2 => ?_⟩
  cases r1
  obtain ⟨a0, rfl, h1⟩ := vsD_inv r2 hne
  have g := DGet.k (k := Sum.inr k) (S2.gh _ _ h1)
  rw [valV_vs] at g
  refine ⟨a0, _, rfl, g, ?_⟩
  have e : ((kvs.find? fun q => decide (q.1 = k)).map fun q => oV q.2).isSome = (kvs.find? fun q => decide (q.1 = k)).isSome := by simp
  rw [e]
  exact q _ _ S2 (T1.trans T2)
theorem ed_ixK {kvs : List (Str × Option Int)} {k : Str} {kv : Str × Option Int} (ha : ED F a L (.dict (vsD kvs)) L1) (hb : ED F b L1 (.str k) L') (h : (kvs.find? fun q => decide (q.1 = k)) = some kv) (hs : NoSl b := by exact fun _ _ => rfl) : ED F (.Subscript a b pos) L (oD kv.2) L' := by
  obtain ⟨ta, pa, ra⟩ := ha
  obtain ⟨tb, pb, rb⟩ := hb
  refine ⟨_, fun j => pe_dget (by have := (F.hr j).un; omega) (pa j) (pb j) hs, fun σ G H S Q q => ra σ G H S _ fun x G1 H1 S1 T1 r1 => rb σ G1 H1 S1 _ fun y G2 H2 S2 T2 r2 => ?_⟩
  cases r2
  obtain ⟨a0, rfl, h1⟩ := vsD_inv r1 (fun e => by rw [e] at h; cases h)
  have g := DGet.k (k := Sum.inr k) (S2.gh _ _ (T2.g _ _ h1))
  rw [valV_vs, h] at g
  exact ⟨a0, _, rfl, g, q _ _ _ S2 (T1.trans T2) (oD_rp _)⟩
theorem fd_if {k : Bool} (h : BD F c L k L1) (h1 : k = true → FD F a L1 ds L') (h2 : k = false → FD F b L1 ds L') : FD F (.IfExp c a b pos) L ds L' := by
  obtain ⟨tc, pc, run⟩ := h
  cases k with
  | true =>
    obtain ⟨te, pe, run1⟩ := h1 rfl
    refine ⟨_, fun j => pe_ifExp (pc j) (pe j) (pe_no _ _), fun σ G H S Q q => run σ G H S _ fun G' H' S' T => ?_⟩
    exact iteT (run1 σ G' H' S' Q fun p xs G2 H2 S2 T2 hp h1 gp r => q p xs _ _ S2 (T.trans T2) (T.back hp) h1 gp r)
  | false =>
    obtain ⟨te, pe, run1⟩ := h2 rfl
    refine ⟨_, fun j => pe_ifExp (pc j) (pe_no _ _) (pe j), fun σ G H S Q q => run σ G H S _ fun G' H' S' T => ?_⟩
    exact iteF (run1 σ G' H' S' Q fun p xs G2 H2 S2 T2 hp h1 gp r => q p xs _ _ S2 (T.trans T2) (T.back hp) h1 gp r)
end
end DL
namespace DL
open PySem PyProof.Rows L2
variable [TabL]
section
variable {z : List Nat} {F : Fam} {e : Expr} {L L1 : List Sl} {d d2 : PyData} {pos p : Pos} {x y : Str} {σ σ' : L2.St} {G H G' H' : Hp}
/-- x, y = a list of two -/
theorem sd_unp2 {px py : Pos} {kt : Nat} (i j : Nat) (h : ED F e L (.list [d, d2]) L1) (hz : i ∉ z ∧ j ∉ z := by decide) (hln : L1.length = F.N.length := by rfl) (hi : F.N[i]? = some x := by rfl) (hx : Loc F.sc x := by first | exact Or.inl rfl | exact Or.inr rfl) (hf : StF F x := by first | exact Or.inl rfl | exact Or.inr rfl)
    (hj : F.N[j]? = some y := by rfl) (hy : Loc F.sc y := by first | exact Or.inl rfl | exact Or.inr rfl) (hfy : StF F y := by first | exact Or.inl rfl | exact Or.inr rfl) (hn : F.N.Nodup := by exact of_decide_eq_true rfl)
    (hlen : ∀ env, (assignEach [.Name x px, .Name y py] env).length = 2 := by intro _; rfl) (hst : ∀ env, (assignEach [.Name x px, .Name y py] env).findIdx? (·.1) = none := by intro _; rfl)
    (hs : ∀ j, swapsWithSole [.Tuple [.Name x px, .Name y py] kt p] e pos.line (F.x j).env = pure false := by intro _; rfl) (hw : ∀ j, swappedStores [.Tuple [.Name x px, .Name y py] kt p] e (F.x j).env = pure none := by intro _; rfl) (h1 : ∀ env, (assignEach [.Tuple [.Name x px, .Name y py] kt p] env).map (·.2) = [assign (.Tuple [.Name x px, .Name y py] kt p) env] := by intro _; rfl) :
    SD z F (.Assign [.Tuple [.Name x px, .Name y py] kt p] e pos) L (.nx ((L1.set i (.va d)).set j (.va d2))) := by
  obtain ⟨te, pe, run⟩ := h
  have pg : PGf F (.Tuple [.Name x px, .Name y py] kt p) (gLst F.K 2 _) := fun j0 => by
    rw [← F.hK j0]
    exact pg_lst (F.hc j0) (pgs_cons (pg_name (by rw [F.hN]; exact hn) (by rw [F.hN]; exact hi) (locF hx j0) (hf.at j0)) (pgs_cons (pg_name (by rw [F.hN]; exact hn) (by rw [F.hN]; exact hj) (locF hy j0) (hfy.at j0)) pgs_nil)) (hlen _) (hst _)
  refine ⟨_, fun j => ps_asg (pe j) (pg j) (hs j) (hw j) (h1 _), fun σ G H S D q => run σ G H S _ fun v G1 H1 S1 T1 r1 => ?_⟩
  cases r1 with
  | @lst a xs _ k1 k2 =>
    cases k2 with
    | cons r1 t1 =>
      cases t1 with
      | cons r2 t2 =>
        cases t2
        have li : i < L1.length := by rw [hln]; exact (List.getElem?_eq_some_iff.mp hi).1
        have lj : j < L1.length := by rw [hln]; exact (List.getElem?_eq_some_iff.mp hj).1
        refine ⟨a, _, rfl, SqL.of (S1.gh _ _ k1), rfl, _, _, rfl, _, _, rfl, rfl, ?_⟩
        obtain ⟨S2, T2⟩ := S1.set_va (i := i) li r1
        obtain ⟨S3, T3⟩ := S2.set_va (i := j) (by rw [List.length_set]; exact lj) r2
        exact q _ _ _ S3 ((T1.ts.trans S1.gh T2).trans S2.gh T3) ((Anc.set hz.1).trans (Anc.set hz.2))
end
end DL
namespace DL
open PySem PyProof.Rows L2 LamX
variable [TabL]
section
variable {z : List Nat} {F : Fam} {e e1 e2 a b c tg iter elt tg1 iter1 : Expr} {es ifs : List Expr} {L L1 L2' L' L3 : List Sl} {d d1 d2 : PyData} {ds its rs : List PyData} {x y : Str} {pos p : Pos} {ns : List Int} {σ σ' : L2.St} {G H G' H' G1 H1 : Hp} {scope : Scope} {W : List Nat} {i : Nat}
/-! ### slots let go -/
def cutL (W : List Nat) (L : List Sl) : List Sl := L.mapIdx fun i x => if i ∈ W then .no else x
theorem cutL_len : (cutL W L).length = L.length := by unfold cutL; rw [List.length_mapIdx]
theorem cutL_get {k : Nat} : (cutL W L)[k]? = (L[k]?).map fun x => if k ∈ W then .no else x := by
  unfold cutL
  rw [List.getElem?_mapIdx]
theorem cutL_in {k : Nat} {t : Sl} (h : k ∈ W) (e : (cutL W L)[k]? = some t) : t = .no := by
  rw [cutL_get] at e
  cases q : L[k]? with
  | none => rw [q] at e; cases e
  | some u =>
    rw [q] at e
    simp [h] at e
    exact e.symm
theorem cutL_out {k : Nat} (h : k ∉ W) : (cutL W L)[k]? = L[k]? := by
  rw [cutL_get]
  cases q : L[k]? with
  | none => rfl
  | some u => simp [h]
theorem cutL_wk : ∀ (L : List Sl) (n : Nat) (P : Nat → Prop) [DecidablePred P], Wk L (L.mapIdx fun i x => if P (i + n) then .no else x)
  | [], _, _, _ => .nil
  | x :: L, n, P, _ => by
    rw [List.mapIdx_cons]
    have ih := cutL_wk L (n + 1) P
    have e : (fun i (x : Sl) => if P (i + 1 + n) then Sl.no else x) = fun i x => if P (i + (n + 1)) then Sl.no else x := by
      funext i x
      rw [show i + 1 + n = i + (n + 1) by omega]
    rw [show (fun i (x : Sl) => (fun i x => if P (i + n) then Sl.no else x) (i + 1) x) = fun i x => if P (i + (n + 1)) then Sl.no else x from e]
    by_cases h : P (0 + n)
    · rw [if_pos h]
      exact .drop ih
    · rw [if_neg h]
      exact .keep ih
theorem wk_cut : Wk L (cutL W L) := cutL_wk L 0 (· ∈ W)
theorem Sta.cut (S : Sta L σ G H) : Sta (cutL W L) σ G H ∧ Ts L σ G H (cutL W L) σ G H := S.wk wk_cut
theorem own_cut {q : Addr} (h : Own (cutL W L) σ q) : Own L σ q := by
  obtain ⟨k, us, e1, e2⟩ := h
  refine ⟨k, us, ?_, e2⟩
  by_cases hk : k ∈ W
  · cases cutL_in hk e1
  · rw [cutL_out hk] at e1
    exact e1
theorem Te.cut (T : Te (cutL W L) σ G H L' G' H') : Te L σ G H L' G' H' := ⟨T.g, fun b o h g n t => T.fr b o h g (fun w => n (own_cut w)) t, fun b w => own_cut (T.ow b w), T.th⟩
theorem ED.cut (h : ED F e (cutL W L) d L') : ED F e L d L' := by
  obtain ⟨te, pe, run⟩ := h
  exact ⟨te, pe, fun σ G H S Q q => run σ G H S.cut.1 Q fun v G' H' S' T' r => q v G' H' S' T'.cut r⟩
theorem CompD.cut (h : CompD F elt tg iter ifs scope (cutL W L) ds L') : CompD F elt tg iter ifs scope L ds L' := by
  obtain ⟨wi, g, own, h1, h2, h3, h4, h5, run⟩ := h
  exact ⟨wi, g, own, h1, h2, h3, h4, h5, fun σ G H S Q q => run σ G H S.cut.1 Q fun v xs G' H' S' T' => q v xs G' H' S' T'.cut⟩
theorem ItD.cut2 (h : ItD F tg iter L its L') : ItD F tg iter L its (cutL W L') := by
  obtain ⟨wi, pi, run⟩ := h
  refine ⟨wi, pi, fun σ G H S R q => run σ G H S R fun J G' H' S' T' rj => q J G' H' S'.cut.1 ⟨T'.g, T'.fr, fun b w => T'.ow b (own_cut w), T'.th⟩ rj⟩
/-- a slot of one's own is frozen, as it is read -/
theorem ed_varF (i : Nat) (h : L[i]? = some (Sl.ow ds)) (hN : F.N[i]? = some x := by rfl) (hv : Vis F.sc x := by first | exact Or.inl rfl | exact Or.inr (Or.inl rfl) | exact Or.inr (Or.inr rfl)) (hd : (x == ("__debug__" : Str)) = false := by decide) (hcd : (x == ("__classdict__" : Str)) = false := by decide) : ED F (.Name x pos) L (.list ds) (L.set i (.va (.list ds))) := by
  refine ⟨_, fun j => pvF F i hN hv hd hcd j, fun σ G H S Q q => ?_⟩
  obtain ⟨x0, e1, a, xs, rfl, h1, r, g⟩ := S.get h
  have hl : i < L.length := (List.getElem?_eq_some_iff.mp h).1
  refine ⟨.ref a, e1, ?_⟩
  have hoth : ∀ k, k ≠ i → (L.set i (.va (.list ds)))[k]? = L[k]? := fun k hk => List.getElem?_set_ne (Ne.symm hk)
  have hself : (L.set i (.va (.list ds)))[i]? = some (.va (.list ds)) := by rw [List.getElem?_set_self hl]
  have nt : NT (.lst xs) := nt_lst
  have S1 : Sta (L.set i .no) σ G H := (S.drop i).1
  have no1 : ¬ Own (L.set i .no) σ a := by
    rintro ⟨k, us, e2, e3⟩
    by_cases hk : k = i
    · subst hk
      rw [List.getElem?_set_self hl] at e2
      cases e2
    · rw [List.getElem?_set_ne (Ne.symm hk)] at e2
      exact hk (S.di k i a us ds e2 h e3 e1)
  obtain ⟨S2, g2⟩ := S1.freeze h1 g no1
  have S3 : Sta (L.set i (.va (.list ds))) σ (upd G a (.lst xs)) H := by
    refine ⟨S2.gh, by rw [List.length_set]; exact S.ln, fun k x t e2 e3 => ?_, fun k l b us ws e2 e3 e4 e5 => ?_⟩
    · by_cases hk : k = i
      · subst hk
        rw [hself] at e3
        cases e3
        rw [e1] at e2
        cases e2
        exact ⟨.ref a, rfl, .lst upd_same (r.up g2)⟩
      · refine S2.sl k x t e2 ?_
        rw [hoth k hk] at e3
        rw [List.getElem?_set_ne (Ne.symm hk)]
        exact e3
    · have hk : k ≠ i := fun z => by
        subst z
        rw [hself] at e2
        cases e2
      have hl2 : l ≠ i := fun z => by
        subst z
        rw [hself] at e3
        cases e3
      rw [hoth k hk] at e2
      rw [hoth l hl2] at e3
      exact S.di k l b us ws e2 e3 e4 e5
  refine q (.ref a) _ _ S3 ⟨g2, fun b o hb gb nb t => ⟨hb, ?_⟩, fun b w => ?_, .frz nt⟩ (.lst upd_same (r.up g2))
  · rw [upd_ne]
    · exact gb
    · rintro rfl
      exact nb ⟨i, ds, h, e1⟩
  · obtain ⟨k, us, e2, e3⟩ := w
    have hk : k ≠ i := fun z => by
      subst z
      rw [hself] at e2
      cases e2
    rw [hoth k hk] at e2
    exact ⟨k, us, e2, e3⟩
/-! ### a comprehension whose tests may change what is one's own -/
inductive IfsG (F : Fam) : List Expr → List Sl → Bool → List Sl → Prop
  | nil {L : List Sl} : IfsG F [] L true L
  | one {L L' : List Sl} {c : Expr} {k : Bool} : BD F c L k L' → IfsG F [c] L k L'
theorem IfsG.run {k : Bool} (h : IfsG F ifs L k L') (S : Sta L σ G H) (Q : Bool → Hp → Prop) (q : ∀ G' H', Sta L' σ G' H' → Te L σ G H L' G' H' → Q k H') : ttsA F ifs σ H Q := by
  cases h with
  | nil => exact q G H S .refl
  | one h =>
    obtain ⟨tt, pt, run⟩ := h
    exact ⟨tt, pt, run σ G H S Q q⟩
def NOw (W : List Nat) (L : List Sl) : Prop := ∀ k ∈ W, ∀ ds, L[k]? ≠ some (Sl.ow ds)
theorem cd_lcG {own : List (Str × Nat)} {T : List Nat} {ok : PyData → Prop} {u : PyData → List Sl → List Sl} (M : Nat → List Sl) (R : Nat → List PyData) (hi : ItD F tg iter L its (M 0)) (hb : BlkOk F.N F.sc scope own) (ht : TgD (F.blk scope) tg T ok u)
    (hT : ∀ k ∈ T, k ∈ own.map (·.2)) (hM : ∀ i, (M i).length = F.N.length) (hno0 : ∀ i, ∀ k ∈ own.map (·.2), ∀ t, (M i)[k]? = some t → t = .no) (h0 : R 0 = [])
    (he : ∀ i d, its[i]? = some d → ok d ∧ ∃ k L1, IfsG (F.blk scope) ifs (u d (M i)) k L1 ∧
      (k = true → ∃ r L3, ED (F.blk scope) elt L1 r L3 ∧ M (i + 1) = cutL (own.map (·.2)) L3 ∧ NOw (own.map (·.2)) L3 ∧ R (i + 1) = R i ++ [r]) ∧ (k = false → M (i + 1) = cutL (own.map (·.2)) L1 ∧ NOw (own.map (·.2)) L1 ∧ R (i + 1) = R i))
    (hlen : its.length ≤ 100000) (hn : F.N.Nodup := by exact of_decide_eq_true rfl) (hs : ∀ env x, foldedSetIterable iter env x = pure x := by intro _ _; rfl) : CompD F elt tg iter ifs scope L (R its.length) (M its.length) := by
  obtain ⟨wi, pi, runI⟩ := hi
  obtain ⟨⟨g, pg, runG⟩, out, nown, ulen⟩ := ht
  have hR : ∀ i, i ≤ its.length → (R i).length ≤ i := by
    intro i
    induction i with
    | zero => intro _; rw [h0]; exact Nat.le_refl _
    | succ i ih =>
      intro hi
      have hlt : i < its.length := by omega
      obtain ⟨_, k, L1, _, e1, e2⟩ := he i its[i] (List.getElem?_eq_getElem hlt)
      have := ih (by omega)
      cases k with
      | true =>
        obtain ⟨r, L3, _, _, _, e⟩ := e1 rfl
        rw [e, List.length_append, List.length_singleton]
        omega
      | false =>
        rw [(e2 rfl).2.2]
        omega
  refine ⟨wi, g, own, hn, pi, hb, pg, hs, fun σ G0 H0 S0 Q q => runI σ G0 H0 S0 _ fun J G1 H1 S1 T1 RJ => fun Dl hD => ?_⟩
  have hDG : G1 Dl = none := S1.gn hD
  refine ⟨fun i k H => k = its.length - i ∧ i ≤ its.length ∧ ∃ G acc, Sta (M i) σ G H ∧ Te (M 0) σ G1 H1 (M i) G H ∧ H Dl = some (.lst acc) ∧ G Dl = none ∧ RpA G acc (R i) ∧ ¬ Own (M i) σ Dl, ⟨its.length, by simp, Nat.zero_le _, G1, [], ?_⟩, ?_⟩
  · obtain ⟨S2, T2⟩ := S1.new (o := .lst []) hD
    exact ⟨S2, T2, upd_same, hDG, by rw [h0]; exact .nil, S1.own_ne hD⟩
  rintro i k H ⟨rfl, him, G, acc, S, T0, hDl, hGD, racc, nO⟩
  obtain ⟨stop, go⟩ := RJ i G H T0.g S.gh
  by_cases h : i < its.length
  case neg =>
    obtain rfl : i = its.length := by omega
    exact .inl ⟨stop (Nat.le_refl _), q Dl acc G H S (T1.trans T0) (T1.back hD) hDl hGD racc⟩
  obtain ⟨hg, hy⟩ := go its[i] (List.getElem?_eq_getElem h)
  obtain ⟨okd, kb, L1, ifd, kT, kF⟩ := he i its[i] (List.getElem?_eq_getElem h)
  refine .inr ⟨hg, fun H' => i + 1 ≤ its.length ∧ ∃ G acc, Sta (M (i + 1)) σ G H' ∧ Te (M 0) σ G1 H1 (M (i + 1)) G H' ∧ H' Dl = some (.lst acc) ∧ G Dl = none ∧ RpA G acc (R (i + 1)) ∧ ¬ Own (M (i + 1)) σ Dl,
    fun H' ⟨l1, w⟩ => ⟨its.length - (i + 1), by omega, rfl, l1, w⟩, fun x H' hx => ?_⟩
  obtain ⟨G2, S2, T2, r2⟩ := yielded S (hy x H' hx)
  have SW : Sta (M i) (wipe σ (own.map (·.2))) G2 H' := wipeSta (hno0 i) S2
  refine runG _ okd _ _ _ _ _ (by show _ = F.N.length; exact hM i) SW r2 _ fun σ3 S3 T3 A3 => ?_
  have l3 : σ3.length = σ.length := by rw [S3.ln, ulen _ _ okd, ← S2.ln]
  have agree : ∀ k, k ∉ own.map (·.2) → σ3[k]? = σ[k]? := fun k hk => by
    have := A3 k fun hkT => hk (hT k hkT)
    rw [wipe_get, if_neg hk] at this
    exact this
  have weq : wipe σ3 (own.map (·.2)) = wipe σ (own.map (·.2)) := wipe_eq (fun k hk => by rw [wipe_get, if_neg hk]; exact agree k hk) l3
  refine ⟨weq, ?_⟩
  have hMl : ∀ n, (M n).length = σ.length := fun n => by rw [hM n, ← hM i, S.ln]
  have Bi : Blk (M i) (u its[i] (M i)) (own.map (·.2)) σ σ3 := by
    refine ⟨hno0 i, fun k hk => out _ _ k okd fun hkT => hk (hT k hkT), fun k hk us e => ?_, agree, hMl i⟩
    by_cases hkT : k ∈ T
    · exact nown _ _ k us okd hkT e
    · rw [out _ _ k okd hkT] at e
      cases hno0 i k hk _ e
  have nO3 : ¬ Own (u its[i] (M i)) σ3 Dl := fun w => nO (Bi.own.mp w)
  have hD2 := T2.fr Dl _ hDl hGD nO pl_lst
  refine ifd.run S3 _ fun G4 H4 S4 T4 => ?_
  have hD4 := T4.fr Dl _ hD2.1 hD2.2 nO3 pl_lst
  -- back from the block, at slots L4
  have bk : ∀ {L4 : List Sl} {G5 H5 : Hp}, M (i + 1) = cutL (own.map (·.2)) L4 → NOw (own.map (·.2)) L4 → Sta L4 σ3 G5 H5 → Te (u its[i] (M i)) σ3 G2 H' L4 G5 H5 → Sta (M (i + 1)) σ G5 H5 ∧ Te (M i) σ G2 H' (M (i + 1)) G5 H5 := fun {L4 G5 H5} eM nw S5 T5 => by
    have B2 : Blk (M (i + 1)) L4 (own.map (·.2)) σ σ3 := ⟨hno0 (i + 1), fun k hk => by rw [eM, cutL_out hk], nw, agree, hMl _⟩
    exact ⟨B2.back S5, T5.g, fun b o hb gb nb => T5.fr b o hb gb fun w => nb (Bi.own.mp w), fun b w => Bi.own.mp (T5.ow b (B2.own.mpr w)), T5.th⟩
  cases kb with
  | false =>
    obtain ⟨eM, nw, eR⟩ := kF rfl
    obtain ⟨S6, T6⟩ := bk eM nw S4 T4
    refine iteF ⟨by omega, G4, acc, S6, (T0.trans T2).trans T6, hD4.1, hD4.2, ?_, fun w => nO (T6.ow Dl w)⟩
    rw [eR]
    exact racc.up (T2.g.trans T4.g)
  | true =>
    obtain ⟨r, L3, ⟨te, pe, run⟩, eM, nw, eR⟩ := kT rfl
    refine iteT ⟨te, pe, run σ3 G4 H4 S4 _ fun v G5 H5 S5 T5 r5 => ?_⟩
    have nO1 : ¬ Own L1 σ3 Dl := fun w => nO3 (T4.ow Dl w)
    have hD5 := T5.fr Dl _ hD4.1 hD4.2 nO1 pl_lst
    obtain ⟨S6, T6⟩ := bk eM nw S5 (T4.trans T5)
    have nO6 : ¬ Own (M (i + 1)) σ Dl := fun w => nO (T6.ow Dl w)
    refine ⟨acc, hD5.1, ?_, by omega, G5, acc ++ [v], ?_, ?_, upd_same, hD5.2, ?_, nO6⟩
    · rw [racc.len]
      have := hR i him
      exact Nat.lt_of_lt_of_le (by omega : (R i).length < 200000) (by decide)
    · refine ⟨fun b o hb => ?_, S6.ln, fun k x t e1 e2 => ?_, S6.di⟩
      · rw [upd_ne]
        · exact S6.gh b o hb
        · rintro rfl
          rw [hD5.2] at hb
          cases hb
      · have qs := S6.sl k x t e1 e2
        cases t with
        | no => exact qs
        | va d => exact qs
        | ow us =>
          obtain ⟨a, ys, e, q1, q2, q3⟩ := qs
          subst e
          refine ⟨a, ys, rfl, ?_, q2, q3⟩
          rw [upd_ne]
          · exact q1
          · rintro rfl
            exact nO6 ⟨k, us, e2, e1⟩
        | tb => exact Thr.tabs (.put hD5.1) qs
        | fn f G1 => exact qs
    · have TT := (T0.trans T2).trans T6
      refine ⟨TT.g, fun b o hb gb nb nt => ?_, TT.ow, TT.th.trans (.put hD5.1)⟩
      obtain ⟨f1, f2⟩ := TT.fr b o hb gb nb nt
      refine ⟨?_, f2⟩
      rw [upd_ne]
      · exact f1
      · rintro rfl
        rw [hD] at hb
        cases hb
    · rw [eR]
      exact (racc.up (T2.g.trans (T4.g.trans T5.g))).app (.one r5)
end
end DL
namespace DL
open PySem PyProof.Rows L2 LamX
variable [TabL]
section
variable {z : List Nat} {F : Fam} {e e1 e2 a b c tg iter elt tg1 iter1 : Expr} {es ifs : List Expr} {sts : List Stmt} {L L1 L2' L' L3 : List Sl} {d d1 d2 : PyData} {ds its rs : List PyData} {x y : Str} {pos p p2 : Pos} {ns : List Int} {σ σ' : L2.St} {G H G' H' G1 H1 : Hp} {scope : Scope} {W : List Nat} {i : Nat}
/-! ### a name, as it stands when it is used -/
def AtS (L : List Sl) (i : Nat) (d : PyData) : Prop := L[i]? = some (Sl.va d) ∨ ∃ ds, L[i]? = some (Sl.ow ds) ∧ d = .list ds
theorem AtS.now (h : AtS L i d) (S : Sta L σ G H) : ∃ v, σ[i]? = some (some v) ∧ Rp H v d ∧ ∀ ds, d = .list ds → ∃ p xs, v = .ref p ∧ H p = some (.lst xs) ∧ RpA G xs ds := by
  rcases h with h | ⟨ds, h, rfl⟩
  · obtain ⟨x0, e1, v, rfl, r⟩ := S.get h
    refine ⟨v, e1, r.up S.gh, fun ds e => ?_⟩
    subst e
    cases r with
    | lst h1 h2 => exact ⟨_, _, rfl, S.gh _ _ h1, h2⟩
  · obtain ⟨x0, e1, a, xs, rfl, h1, r, g⟩ := S.get h
    refine ⟨.ref a, e1, .lst h1 (r.up S.gh), fun ds e => ?_⟩
    cases e
    exact ⟨a, xs, rfl, h1, r⟩
theorem cd_cmpV {op : CmpOp} {r : R2} {k : Bool} {d0 : PyData} (i : Nat) (ho : ∀ j, OpR (F.x j) (compareOp op) r) (hm : behindInMarks op b = false) (h0 : AtS L i d0) (hb : HD F b L d2 L') (h1 : AtS L' i d1)
    (hr : ∀ x y H, Rp H x d1 → Rp H y d2 → ∀ Q : VK, Q (.bl k) H → r x y H Q) (hN : F.N[i]? = some x := by rfl) (hv : Vis F.sc x := by first | exact Or.inl rfl | exact Or.inr (Or.inl rfl) | exact Or.inr (Or.inr rfl)) (hd : (x == ("__debug__" : Str)) = false := by decide) (hcd : (x == ("__classdict__" : Str)) = false := by decide) : CD F (.Compare (.Name x p) [op] [b] pos) L k L' := by
  obtain ⟨tb, pb, rb⟩ := hb
  refine ⟨_, fun j => pe_cmpR (ho j) (pvF F i hN hv hd hcd j) (pb j) hm, fun j => pt_cmpR (ho j) (pvF F i hN hv hd hcd j) (pb j) hm, fun σ G H S Q q => ?_⟩
  obtain ⟨v, e1, _, _⟩ := h0.now S
  refine ⟨v, e1, rb σ G H S _ fun y G2 H2 S2 T2 r2 => ?_⟩
  obtain ⟨v2, e2, rv, _⟩ := h1.now S2
  rw [e1] at e2
  cases e2
  exact hr v y H2 rv r2 Q (q G2 H2 S2 T2)
theorem cd_eqV {d0 : PyData} (i : Nat) (h0 : AtS L i d0) (hb : HD F b L d2 L') (h1 : AtS L' i d1) (s1 : SeqAt.shaped d1 = true) (s2 : SeqAt.shaped d2 = true) (hN : F.N[i]? = some x := by rfl) (hv : Vis F.sc x := by first | exact Or.inl rfl | exact Or.inr (Or.inl rfl) | exact Or.inr (Or.inr rfl)) (hd : (x == ("__debug__" : Str)) = false := by decide) (hcd : (x == ("__classdict__" : Str)) = false := by decide) : CD F (.Compare (.Name x p) [.Eq] [b] pos) L (PyData.eqv d1 d2) L' :=
  cd_cmpV i (eqDf F) (nomark _) h0 hb h1 (fun x y H r1 r2 Q q => ⟨d1, d2, Rp.dp _ _ (noDict_shaped s1) r1, Rp.dp _ _ (noDict_shaped s2) r2, s1, s2, q⟩) hN hv hd hcd
theorem cd_neV {d0 : PyData} (i : Nat) (h0 : AtS L i d0) (hb : HD F b L d2 L') (h1 : AtS L' i d1) (s1 : SeqAt.shaped d1 = true) (s2 : SeqAt.shaped d2 = true) (hN : F.N[i]? = some x := by rfl) (hv : Vis F.sc x := by first | exact Or.inl rfl | exact Or.inr (Or.inl rfl) | exact Or.inr (Or.inr rfl)) (hd : (x == ("__debug__" : Str)) = false := by decide) (hcd : (x == ("__classdict__" : Str)) = false := by decide) : CD F (.Compare (.Name x p) [.NotEq] [b] pos) L (!PyData.eqv d1 d2) L' :=
  cd_cmpV i (neDf F) (nomark _) h0 hb h1 (fun x y H r1 r2 Q q => ⟨d1, d2, Rp.dp _ _ (noDict_shaped s1) r1, Rp.dp _ _ (noDict_shaped s2) r2, s1, s2, q⟩) hN hv hd hcd
/-- what holds no object stands for itself -/
theorem HD.edF (h : HD F e L d L') (hf : flatD d = true) : ED F e L d L' := by
  obtain ⟨te, pe, run⟩ := h
  refine ⟨te, pe, fun σ G H S Q q => run σ G H S Q fun v G' H' S' T' r => q v G' H' S' T' ?_⟩
  cases d with
  | none => cases r; exact .non
  | bool b => cases r; exact .bl _
  | int n => cases r; exact .int _
  | str x => cases r; exact .str _
  | _ => cases hf
theorem inV_strs (x : Str) : ∀ ws : List Str, inV (.str x) (ws.map V.str) = decide (x ∈ ws)
  | [] => rfl
  | w :: ws => by
    have ih := inV_strs x ws
    unfold inV at ih ⊢
    rw [List.map_cons, List.any_cons, ih]
    have e1 : eqV (.str w) (.str x) = decide (w = x) := by
      by_cases h : w = x
      · subst h; simp [eqV]
      · simp [eqV, h]
    rw [e1]
    by_cases h : w = x
    · subst h; simp
    · have h2 : x ≠ w := fun z => h z.symm
      simp [h, h2]
theorem cd_inTH {ws : List Str} (ha : ED F a L (.str x) L1) (hb : HD F b L1 (.tuple (ws.map PyData.str)) L') (hm : behindInMarks .In b = false := by rfl) : CD F (.Compare a [.In] [b] pos) L (decide (x ∈ ws)) L' := by
  refine cd_cmpH (r := rIn F.K false) (fun j => by rw [← F.hK j]; exact op_in_seq) hm ha hb fun u v H r1 r2 Q q => ?_
  cases r1
  cases r2 with
  | @tup q0 xs _ h1 h2 =>
    rw [RpA.of_strs h2] at h1
    refine ⟨q0, ws.map V.str, rfl, .inr (SqT.of h1), rfl, by simp [flatV], ?_⟩
    rw [inV_strs]
    exact q
theorem cd_ninTH {ws : List Str} (ha : ED F a L (.str x) L1) (hb : HD F b L1 (.tuple (ws.map PyData.str)) L') (hm : behindInMarks .NotIn b = false := by rfl) : CD F (.Compare a [.NotIn] [b] pos) L (!decide (x ∈ ws)) L' := by
  refine cd_cmpH (r := rIn F.K true) (fun j => by rw [← F.hK j]; exact op_notIn_seq) hm ha hb fun u v H r1 r2 Q q => ?_
  cases r1
  cases r2 with
  | @tup q0 xs _ h1 h2 =>
    rw [RpA.of_strs h2] at h1
    refine ⟨q0, ws.map V.str, rfl, .inr (SqT.of h1), rfl, by simp [flatV], ?_⟩
    rw [inV_strs]
    exact q
/-! ### items -/
theorem ed_ixS2 {c : Nat} {n : Int} (ha : ED F a L (.str x) L1) (hb : ED F b L1 (.int n) L') (hl : x.length ≤ 100000) (h : L2.atI x.cps.toList n = some c) (hs : PlainIx b := by exact fun _ _ => rfl) : ED F (.Subscript a b pos) L (.str ⟨#[c]⟩) L' :=
  ed_ixStr ha hb (fun H Q q => ⟨x, n, c, rfl, rfl, Nat.le_trans hl (by decide), h, q⟩) hs
theorem ed_ixV {n : Int} {d0 : PyData} {py : Pos} (i : Nat) (h0 : AtS L i d0) (hb : ED F b L (.int n) L') (h1 : AtS L' i (.list ds)) (h : atI ds n = some d) (hN : F.N[i]? = some y := by rfl) (hv : Vis F.sc y := by first | exact Or.inl rfl | exact Or.inr (Or.inl rfl) | exact Or.inr (Or.inr rfl)) (hd : (y == ("__debug__" : Str)) = false := by decide) (hcd : (y == ("__classdict__" : Str)) = false := by decide)
    (hs : PlainIx b := by exact fun _ _ => rfl) : ED F (.Subscript (.Name y py) b pos) L d L' := by
  obtain ⟨tb, pb, rb⟩ := hb
  refine ⟨_, fun j => pe_ix (ixLf F j) (pvF F i hN hv hd hcd j) (pb j) hs, fun σ G H S Q q => ?_⟩
  obtain ⟨v, e1, _, _⟩ := h0.now S
  refine ⟨v, e1, rb σ G H S _ fun y G2 H2 S2 T2 r2 => ?_⟩
  cases r2
  obtain ⟨v2, e2, _, k⟩ := h1.now S2
  obtain ⟨a', xs, rfl, k1, k2⟩ := k _ rfl
  rw [e1] at e2
  cases e2
  obtain ⟨v, hv, rv⟩ := k2.atI h
  exact ⟨_, _, n, v, rfl, rfl, SqL.of k1, hv, q v G2 H2 S2 T2 rv⟩
/-! ### slices -/
theorem fd_slV {lo hi : Option Expr} {l h : Option Int} {py : Pos} {d0 : PyData} (i : Nat) (h0 : AtS L i d0) (h1 : OD F lo L l L1) (h2 : OD F hi L1 h L') (h3 : AtS L' i (.list ds)) (hN : F.N[i]? = some y := by rfl) (hv : Vis F.sc y := by first | exact Or.inl rfl | exact Or.inr (Or.inl rfl) | exact Or.inr (Or.inr rfl)) (hd : (y == ("__debug__" : Str)) = false := by decide) (hcd : (y == ("__classdict__" : Str)) = false := by decide) :
    FD F (.Subscript (.Name y py) (.Slice lo hi none p2) pos) L (cutD ds l h) L' := by
  obtain ⟨t1, p1, r1⟩ := h1
  obtain ⟨t2, p2, r2⟩ := h2
  refine ⟨_, fun j => pe_slice (slLf F j) (pvF F i hN hv hd hcd j) (p1 j) (p2 j), fun σ G H S Q q => ?_⟩
  obtain ⟨v, e1, _, _⟩ := h0.now S
  refine ⟨v, e1, r1 σ G H S _ fun G2 H2 S2 T2 => r2 σ G2 H2 S2 _ fun G3 H3 S3 T3 => ?_⟩
  obtain ⟨v2, e2, _, k⟩ := h3.now S3
  obtain ⟨a', xs, rfl, k1, k2⟩ := k _ rfl
  rw [e1] at e2
  cases e2
  refine ⟨a', xs, rfl, SqL.of k1, fun p hp => ?_⟩
  obtain ⟨S4, T4⟩ := S3.new (o := .lst (cutV xs l h)) hp
  have TT := T2.trans T3
  exact q p _ G3 _ S4 (TT.trans T4) (TT.back hp) upd_same (S3.gn hp) (k2.cut l h)
theorem ed_slS {lo hi : Option Expr} {l h : Option Int} (ha : ED F a L (.str x) L1) (h1 : OD F lo L1 l L2') (h2 : OD F hi L2' h L') (hl : x.length ≤ 100000) : ED F (.Subscript a (.Slice lo hi none p2) pos) L (.str (cutS x l h)) L' := by
  obtain ⟨ta, pa, ra⟩ := ha
  obtain ⟨t1, p1, r1⟩ := h1
  obtain ⟨t2, p2, r2⟩ := h2
  refine ⟨_, fun j => pe_slice sl_str (pa j) (p1 j) (p2 j), fun σ G H S Q q => ra σ G H S _ fun v G1 H1 S1 T1 rx => r1 σ G1 H1 S1 _ fun G2 H2 S2 T2 => r2 σ G2 H2 S2 _ fun G3 H3 S3 T3 => ?_⟩
  cases rx
  exact ⟨x, rfl, Nat.le_trans hl (by decide), q _ G3 H3 S3 ((T1.trans T2).trans T3) (.str _)⟩
/-! ### x and y, values -/
theorem ed_andTG (h : ED F a L (.bool true) L1) (h2 : ED F (.BoolOp .And (b :: es) pos) L1 d L') : ED F (.BoolOp .And (a :: b :: es) pos) L d L' := by
  obtain ⟨te, pe, run⟩ := h
  obtain ⟨te2, pe2, run2⟩ := h2
  refine ⟨_, fun j => pe_and (pe j) (pe2 j), fun σ G H S Q q => run σ G H S _ fun v G' H' S' T r => ?_⟩
  cases r
  exact ⟨true, rfl, iteT (run2 σ G' H' S' Q fun v G2 H2 S2 T2 r2 => q _ _ _ S2 (T.trans T2) r2)⟩
theorem ed_andFG (h : ED F a L (.bool false) L') : ED F (.BoolOp .And (a :: b :: es) pos) L (.bool false) L' := by
  obtain ⟨te, pe, run⟩ := h
  refine ⟨_, fun j => pe_and (pe j) (pe_no _ _), fun σ G H S Q q => run σ G H S _ fun v G' H' S' T r => ?_⟩
  cases r
  exact ⟨false, rfl, iteF (q _ _ _ S' T (.bl _))⟩
theorem ed_orFG (h : ED F a L (.bool false) L1) (h2 : ED F (.BoolOp .Or (b :: es) pos) L1 d L') : ED F (.BoolOp .Or (a :: b :: es) pos) L d L' := by
  obtain ⟨te, pe, run⟩ := h
  obtain ⟨te2, pe2, run2⟩ := h2
  refine ⟨_, fun j => pe_or (pe j) (pe2 j), fun σ G H S Q q => run σ G H S _ fun v G' H' S' T r => ?_⟩
  cases r
  exact ⟨false, rfl, iteF (run2 σ G' H' S' Q fun v G2 H2 S2 T2 r2 => q _ _ _ S2 (T.trans T2) r2)⟩
theorem ed_orTG (h : ED F a L (.bool true) L') : ED F (.BoolOp .Or (a :: b :: es) pos) L (.bool true) L' := by
  obtain ⟨te, pe, run⟩ := h
  refine ⟨_, fun j => pe_or (pe j) (pe_no _ _), fun σ G H S Q q => run σ G H S _ fun v G' H' S' T r => ?_⟩
  cases r
  exact ⟨true, rfl, iteT (q _ _ _ S' T (.bl _))⟩
/-! ### [x, y, ..], as they stand now -/
inductive AtSs (L : List Sl) : List Nat → List PyData → Prop
  | nil : AtSs L [] []
  | cons {i : Nat} {is : List Nat} {d : PyData} {ds : List PyData} : AtS L i d → AtSs L is ds → AtSs L (i :: is) (d :: ds)
inductive Nms (F : Fam) : List Expr → List Nat → Prop
  | nil : Nms F [] []
  | cons {x : Str} {i : Nat} {pos : Pos} {es : List Expr} {is : List Nat} (hN : F.N[i]? = some x) (hv : Vis F.sc x) (hd : (x == ("__debug__" : Str)) = false) (hcd : (x == ("__classdict__" : Str)) = false) (h : Nms F es is) : Nms F (.Name x pos :: es) (i :: is)
theorem nms_run {es : List Expr} {is : List Nat} (h : Nms F es is) : ∀ {ds : List PyData}, AtSs L is ds → ∃ ta, PAf F es ta ∧ ds.length = es.length ∧ ∀ σ G H, Sta L σ G H → ∀ Q : List V → Hp → Prop, (∀ vs, RpA H vs ds → Q vs H) → ta σ H Q := by
  induction h with
  | nil =>
    intro ds h
    cases h
    exact ⟨_, fun j => pa_nil, rfl, fun σ G H S Q q => q [] .nil⟩
  | cons hN hv hd hcd _ ih =>
    intro ds h
    cases h with
    | cons a1 a2 =>
      obtain ⟨ta, pa, ln, run⟩ := ih a2
      refine ⟨_, fun j => pa_cons (pvF F _ hN hv hd hcd j) (pa j) rfl, by rw [List.length_cons, List.length_cons, ln], fun σ G H S Q q => ?_⟩
      obtain ⟨v, e1, r, _⟩ := a1.now S
      exact ⟨v, e1, run σ G H S _ fun vs rs => q (v :: vs) (.cons r rs)⟩
theorem hd_disp {es : List Expr} {is : List Nat} (h : Nms F es is) (a : AtSs L is ds) (hl : es.length ≤ 100) : HD F (.List es pos) L (.list ds) L := by
  obtain ⟨ta, pa, ln, run⟩ := nms_run h a
  refine ⟨tLst ta, fun j => pe_lst (pa j), fun σ G H S Q q => run σ G H S _ fun vs r => ⟨?_, fun p hp => ?_⟩⟩
  · rw [r.len, ln]
    exact Nat.le_trans hl (by decide)
  · obtain ⟨S2, T2⟩ := S.new (o := .lst vs) hp
    refine q (.ref p) G _ S2 T2 (.lst upd_same (r.up fun b o e => ?_))
    rw [upd_ne (ne_of_none e hp)]
    exact e
/-! ### chains -/
theorem cd_chT {op op' : CmpOp} {r r' : R2} {d3 : PyData} {k : Bool} (ho : ∀ j, OpR (F.x j) (compareOp op) r) (ho' : ∀ j, OpR (F.x j) (compareOp op') r') (ha : ED F a L d1 L1) (hb : ED F b L1 d2 L2') (hc : ED F c L2' d3 L') (h1 : ∀ x y G H, Rp G x d1 → Rp G y d2 → ∀ Q : VK, Q (.bl true) H → r x y H Q) (h2 : ∀ x y G H, Rp G x d2 → Rp G y d3 → ∀ Q : VK, Q (.bl k) H → r' x y H Q) (hmk : lastMarks [op, op'] [b, c] = false) : CD F (.Compare a [op, op'] [b, c] pos) L k L' := by
  obtain ⟨ta, pa, ra⟩ := ha
  obtain ⟨tb, pb, rb⟩ := hb
  obtain ⟨tc, pc, rc⟩ := hc
  refine ⟨_, fun j => pe_chain (ho j) (ho' j) (pa j) (pb j) (pc j) hmk, fun j => pt_chain (ho j) (ho' j) (pa j) (pb j) (pc j) hmk, fun σ G H S Q q => ra σ G H S _ fun x G1 H1 S1 T1 rx => rb σ G1 H1 S1 _ fun y G2 H2 S2 T2 ry => ?_⟩
  refine h1 x y G2 H2 (rx.up T2.g) ry _ ⟨true, rfl, iteT (rc σ G2 H2 S2 _ fun w G3 H3 S3 T3 rw' => ?_)⟩
  exact h2 y w G3 H3 (ry.up T3.g) rw' _ (q _ _ S3 ((T1.trans T2).trans T3))
theorem cd_chF {op op' : CmpOp} {r r' : R2} (ho : ∀ j, OpR (F.x j) (compareOp op) r) (ho' : ∀ j, OpR (F.x j) (compareOp op') r') (ha : ED F a L d1 L1) (hb : ED F b L1 d2 L') (h1 : ∀ x y G H, Rp G x d1 → Rp G y d2 → ∀ Q : VK, Q (.bl false) H → r x y H Q) (hmk : lastMarks [op, op'] [b, c] = false) : CD F (.Compare a [op, op'] [b, c] pos) L false L' := by
  obtain ⟨ta, pa, ra⟩ := ha
  obtain ⟨tb, pb, rb⟩ := hb
  refine ⟨_, fun j => pe_chain (ho j) (ho' j) (pa j) (pb j) (pe_no _ _) hmk, fun j => pt_chain (ho j) (ho' j) (pa j) (pb j) (pe_no _ _) hmk, fun σ G H S Q q => ra σ G H S _ fun x G1 H1 S1 T1 rx => rb σ G1 H1 S1 _ fun y G2 H2 S2 T2 ry => ?_⟩
  exact h1 x y G2 H2 (rx.up T2.g) ry _ ⟨false, rfl, iteF (q _ _ S2 (T1.trans T2))⟩
theorem lt_run {m n : Int} {k : Bool} (h : k = decide (m < n)) : ∀ (x y : V) (G H : Hp), Rp G x (.int m) → Rp G y (.int n) → ∀ Q : VK, Q (.bl k) H → (fun x y H Q => ∃ i j, x = V.int i ∧ y = V.int j ∧ Q (.bl (decide (i < j))) H : R2) x y H Q := fun x y G H r1 r2 Q q => by
  cases r1; cases r2; exact ⟨m, n, rfl, rfl, h ▸ q⟩
theorem le_run {m n : Int} {k : Bool} (h : k = decide (m ≤ n)) : ∀ (x y : V) (G H : Hp), Rp G x (.int m) → Rp G y (.int n) → ∀ Q : VK, Q (.bl k) H → (fun x y H Q => ∃ i j, x = V.int i ∧ y = V.int j ∧ Q (.bl (decide (i ≤ j))) H : R2) x y H Q := fun x y G H r1 r2 Q q => by
  cases r1; cases r2; exact ⟨m, n, rfl, rfl, h ▸ q⟩
/-! ### x += e -/
theorem sd_aug {op : Operator} {ti : TIp} {pos' : Pos} (i : Nat) (ho : ∀ j, PIp (F.x j) op ti) (h : ED F e L d2 L1) (h0 : L[i]? = some (Sl.va d1)) (h1 : L1[i]? = some (Sl.va d1)) (hr : ∀ x y G H, Rp G x d1 → Rp G y d2 → ∀ Q : VK, (∀ v, Rp G v d → Q v H) → ti x y H Q)
    (hz : i ∉ z := by decide) (hi : F.N[i]? = some x := by rfl) (hx : Loc F.sc x := by first | exact Or.inl rfl | exact Or.inr rfl) (hf : StF F x := by first | exact Or.inl rfl | exact Or.inr rfl) (hn : F.N.Nodup := by exact of_decide_eq_true rfl) : SD z F (.AugAssign (.Name x pos') op e pos) L (.nx (L1.set i (.va d))) := by
  obtain ⟨te, pe, run⟩ := h
  refine ⟨tAug i te ti, fun j => ps_aug (by rw [F.hN]; exact hn) (by rw [F.hN]; exact hi) (locF hx j) (pe j) (ho j) (hf.at j), fun σ G H S D q => ?_⟩
  obtain ⟨x0, e1, v0, rfl, r0⟩ := S.get h0
  refine ⟨v0, e1, run σ G H S _ fun y G1 H1 S1 T1 r1 => ?_⟩
  obtain ⟨x1, e2, v1, rfl, r2⟩ := S1.get h1
  rw [e1] at e2
  cases e2
  refine hr v0 y G1 H1 r2 r1 _ fun v rv => ?_
  have hl : i < L1.length := (List.getElem?_eq_some_iff.mp h1).1
  obtain ⟨S2, T2⟩ := S1.set_va hl rv
  exact q _ G1 H1 S2 (T1.ts.trans S1.gh T2) (Anc.set hz)
theorem sd_augAdd {m n : Int} {pos' : Pos} (i : Nat) (h : ED F e L (.int n) L1) (h0 : L[i]? = some (Sl.va (.int m))) (h1 : L1[i]? = some (Sl.va (.int m))) (hz : i ∉ z := by decide) (hi : F.N[i]? = some x := by rfl) (hx : Loc F.sc x := by first | exact Or.inl rfl | exact Or.inr rfl) (hf : StF F x := by first | exact Or.inl rfl | exact Or.inr rfl) (hn : F.N.Nodup := by exact of_decide_eq_true rfl) : SD z F (.AugAssign (.Name x pos') .Add e pos) L (.nx (L1.set i (.va (.int (m + n))))) :=
  sd_aug i (fun j => ip_add) h h0 h1 (fun x y G H r1 r2 Q q => by cases r1; cases r2; exact ⟨m, n, rfl, rfl, q _ (.int _)⟩) hz hi hx hf hn
theorem sd_augSub {m n : Int} {pos' : Pos} (i : Nat) (h : ED F e L (.int n) L1) (h0 : L[i]? = some (Sl.va (.int m))) (h1 : L1[i]? = some (Sl.va (.int m))) (hz : i ∉ z := by decide) (hi : F.N[i]? = some x := by rfl) (hx : Loc F.sc x := by first | exact Or.inl rfl | exact Or.inr rfl) (hf : StF F x := by first | exact Or.inl rfl | exact Or.inr rfl) (hn : F.N.Nodup := by exact of_decide_eq_true rfl) : SD z F (.AugAssign (.Name x pos') .Sub e pos) L (.nx (L1.set i (.va (.int (m - n))))) :=
  sd_aug i (fun j => ip_sub) h h0 h1 (fun x y G H r1 r2 Q q => by cases r1; cases r2; exact ⟨m, n, rfl, rfl, q _ (.int _)⟩) hz hi hx hf hn
end
section
variable {Y : FamW} {tg iter : Expr} {sts : List Stmt} {L L' : List Sl} {its : List PyData} {er : Er} {pos : Pos}
theorem x_forG {ok : PyData → Prop} {u : PyData → List Sl → List Sl} {T : List Nat} (M : Nat → List Sl) (m : Nat) (dm : PyData) (hi : ItD Y.F tg iter L its (M 0)) (ht : TgD Y.F tg T ok u) (hM : ∀ i, (M i).length = Y.F.N.length) (hm : its[m]? = some dm)
    (hb : ∀ i d, i < m → its[i]? = some d → ok d ∧ (SsD [] Y.F sts (u d (M i)) (.nx (M (i + 1))) ∨ SsD [] Y.F sts (u d (M i)) (.ct (M (i + 1))))) (hl : ok dm ∧ XsD Y sts (u dm (M m)) er L')
    (hs : ∀ env x, foldedSetIterable iter env x = pure x := by intro _ _; rfl) : XD Y (.For tg iter sts [] pos) L er L' := by
  obtain ⟨wi, pi, runI⟩ := hi
  obtain ⟨⟨g, pg, runG⟩, _, _, _⟩ := ht
  refine ⟨fun j => tFor wi g (tssW (Y.y j) sts), fun j => ps_for (Y.po j) (Y.hc j) (Y.pi pi j) (Y.pg pg j) (pss_w _ _) (hs _), fun j σ0 G0 H0 S0 D q => runI σ0 G0 H0 S0 _ fun J G1 H1 S1 T1 RJ => ?_⟩
  refine ⟨fun i k σ H => k = its.length - i ∧ i ≤ m ∧ ∃ G, Sta (M i) σ G H ∧ Ts (M 0) σ0 G1 H1 (M i) σ G H, ⟨its.length, by simp, Nat.zero_le _, G1, S1, .refl⟩, ?_⟩
  rintro i k σ H ⟨rfl, him, G, S, T0⟩
  obtain ⟨stop, go⟩ := RJ i G H T0.g S.gh
  have hml : m < its.length := (List.getElem?_eq_some_iff.mp hm).1
  by_cases h : i < m
  · have hlt : i < its.length := by omega
    obtain ⟨hg, hy⟩ := go its[i] (List.getElem?_eq_getElem hlt)
    obtain ⟨okd, body⟩ := hb i its[i] h (List.getElem?_eq_getElem hlt)
    refine .inr ⟨hg, fun σ' H' => i + 1 ≤ m ∧ ∃ G', Sta (M (i + 1)) σ' G' H' ∧ Ts (M 0) σ0 G1 H1 (M (i + 1)) σ' G' H', fun σ' H' ⟨h1, w⟩ => ⟨its.length - (i + 1), by omega, rfl, h1, w⟩, fun x H' hx => ?_⟩
    obtain ⟨G2, S2, T2, r2⟩ := yielded S (hy x H' hx)
    refine runG _ okd _ _ _ _ _ (hM i) S2 r2 _ fun σ3 S3 T3 A30 => ?_
    have T4 := (T0.trans S.gh T2.ts).trans S2.gh T3
    rcases body with ⟨ts, ps, run⟩ | ⟨ts, ps, run⟩
    · refine ⟨ts, ?_, run σ3 G2 H' S3 _ fun σ' G' H'' S5 T5 A5 => ⟨by omega, _, S5, T4.trans S3.gh T5⟩⟩
      have := ps j
      rw [← Y.hy j] at this
      exact this.nox
    · refine ⟨ts, ?_, run σ3 G2 H' S3 _ fun σ' G' H'' S5 T5 A5 => ⟨by omega, _, S5, T4.trans S3.gh T5⟩⟩
      have := ps j
      rw [← Y.hy j] at this
      exact this.nox
  · obtain rfl : i = m := by omega
    obtain ⟨okd, ts, ps, run⟩ := hl
    obtain ⟨hg, hy⟩ := go dm hm
    refine .inr ⟨hg, fun _ _ => False, fun _ _ w => w.elim, fun x H' hx => ?_⟩
    obtain ⟨G2, S2, T2, r2⟩ := yielded S (hy x H' hx)
    refine runG _ okd _ _ _ _ _ (hM i) S2 r2 _ fun σ3 S3 T3 A30 => ?_
    have T4 := (T0.trans S.gh T2.ts).trans S2.gh T3
    exact ⟨ts j, ps j, run j σ3 G2 H' S3 _ fun cls dd σ' G' H'' S5 T5 ok5 => q cls dd σ' G' H'' S5 ((T1.ts.trans S1.gh T4).trans S3.gh T5) ok5⟩
end
end DL
namespace DL
open PySem PyProof.Rows L2 LamX
variable [TabL]
section
variable {F : Fam} {e e1 e2 b : Expr} {z : List Nat} {L L1 L2' L' : List Sl} {d d1 d2 : PyData} {ds us ms : List PyData} {x y : Str} {px py pt pos pt2 tpos : Pos} {kt k2 : Nat} {n : Int} {k : Nat}
/-- x, y = e1, e2: two new lists, each its name's own -/
theorem sd_parFG (i j : Nat) (h1 : FD F e1 L ds L1) (h2 : FD F e2 L1 us L') (hz : i ∉ z ∧ j ∉ z) (hij : i ≠ j) (hi : F.N[i]? = some x) (hj : F.N[j]? = some y) (hil : i < L'.length) (hjl : j < L'.length)
    (hx : F.sc.names.lookup x = some .local) (hy : F.sc.names.lookup y = some .local) (hn : F.N.Nodup) (hs1 : ∀ env, starEach [e1, e2] env = (false, eval e1 env) :: starEach [e2] env) (hs2 : ∀ env, starEach [e2] env = (false, eval e2 env) :: starEach [] env)
    (hw : ∀ j, swappedStores [.Tuple [.Name x px, .Name y py] kt pt] (.Tuple [e1, e2] k2 pt2) (F.x j).env = pure (some [x, y]))
    (hs : ∀ j, swapsWithSole [.Tuple [.Name x px, .Name y py] kt pt] (.Tuple [e1, e2] k2 pt2) pos.line (F.x j).env = pure false) :
    SD z F (.Assign [.Tuple [.Name x px, .Name y py] kt pt] (.Tuple [e1, e2] k2 pt2) pos) L (.nx ((L'.set i (.ow ds)).set j (.ow us))) := by
  obtain ⟨t1, p1, r1⟩ := h1
  obtain ⟨t2, p2, r2⟩ := h2
  refine ⟨tPar i j (tCons t1 (tCons t2 tNil)), fun q => ?_, fun σ G H S D w => r1 σ G H S _ fun a xs G1 H1 S1 T1 f1 g1 n1 ra => r2 σ G1 H1 S1 _ fun b ys G2 H2 S2 T2 f2 g2 n2 rb => ⟨.ref a, .ref b, rfl, ?_⟩⟩
  · refine ps_par (F.hc q) (by rw [F.hN]; exact hn) (by rw [F.hN]; exact hi) (by rw [F.hN]; exact hj) hij ?_ ?_ (pa_cons (p1 q) (pa_cons (p2 q) pa_nil (hs2 _)) (hs1 _)) (hw q) (hs q)
    · rw [F.hsc]; exact hx
    · rw [F.hsc]; exact hy
  · have no0 : ¬ Own L σ a := S.own_ne f1
    have no1 : ¬ Own L1 σ a := fun v => no0 (T1.ow a v)
    have no1' : ¬ Own L' σ a := fun v => no1 (T2.ow a v)
    have no2 : ¬ Own L' σ b := fun v => S1.own_ne f2 (T2.ow b v)
    obtain ⟨k1, k2⟩ := T2.fr a _ g1 n1 no1 pl_lst
    have nab : b ≠ a := (ne_of_none g1 f2).symm
    obtain ⟨S3, O3⟩ := S2.set_ow (i := i) hil k1 k2 no1' (ra.up T2.g)
    have no3 : ¬ Own (L'.set i (.ow ds)) (σ.set i (some (V.ref a))) b := fun v => (O3 b v).elim no2 nab
    obtain ⟨S4, O4⟩ := S3.set_ow (i := j) (by rw [List.length_set]; exact hjl) g2 n2 no3 rb
    have TT := T1.trans T2
    refine w _ _ _ S4 ⟨TT.g, TT.fr, fun c v => ?_, TT.th⟩ fun k hk => ?_
    · rcases O4 c v with v | rfl
      · rcases O3 c v with v | rfl
        · exact .inl (TT.ow c v)
        · exact .inr f1
      · exact .inr (T1.back f2)
    · rw [List.getElem?_set_ne (fun z => hz.2 (by rw [z]; exact hk)), List.getElem?_set_ne (fun z => hz.1 (by rw [z]; exact hk))]
/-- .. of data -/
theorem sd_parDG (i j : Nat) (h1 : ED F e1 L d1 L1) (h2 : ED F e2 L1 d2 L') (hz : i ∉ z ∧ j ∉ z) (hij : i ≠ j) (hi : F.N[i]? = some x) (hj : F.N[j]? = some y) (hil : i < L'.length) (hjl : j < L'.length)
    (hx : F.sc.names.lookup x = some .local) (hy : F.sc.names.lookup y = some .local) (hn : F.N.Nodup) (hs1 : ∀ env, starEach [e1, e2] env = (false, eval e1 env) :: starEach [e2] env) (hs2 : ∀ env, starEach [e2] env = (false, eval e2 env) :: starEach [] env)
    (hw : ∀ j, swappedStores [.Tuple [.Name x px, .Name y py] kt pt] (.Tuple [e1, e2] k2 pt2) (F.x j).env = pure (some [x, y]))
    (hs : ∀ j, swapsWithSole [.Tuple [.Name x px, .Name y py] kt pt] (.Tuple [e1, e2] k2 pt2) pos.line (F.x j).env = pure false) :
    SD z F (.Assign [.Tuple [.Name x px, .Name y py] kt pt] (.Tuple [e1, e2] k2 pt2) pos) L (.nx ((L'.set i (.va d1)).set j (.va d2))) := by
  obtain ⟨t1, p1, r1⟩ := h1
  obtain ⟨t2, p2, r2⟩ := h2
  refine ⟨tPar i j (tCons t1 (tCons t2 tNil)), fun q => ?_, fun σ G H S D w => r1 σ G H S _ fun a G1 H1 S1 T1 ra => r2 σ G1 H1 S1 _ fun b G2 H2 S2 T2 rb => ⟨a, b, rfl, ?_⟩⟩
  · refine ps_par (F.hc q) (by rw [F.hN]; exact hn) (by rw [F.hN]; exact hi) (by rw [F.hN]; exact hj) hij ?_ ?_ (pa_cons (p1 q) (pa_cons (p2 q) pa_nil (hs2 _)) (hs1 _)) (hw q) (hs q)
    · rw [F.hsc]; exact hx
    · rw [F.hsc]; exact hy
  · obtain ⟨S3, T3⟩ := S2.set_va (i := i) hil (ra.up T2.g)
    obtain ⟨S4, T4⟩ := S3.set_va (i := j) (by rw [List.length_set]; exact hjl) rb
    exact w _ _ _ S4 (((T1.trans T2).ts.trans S2.gh T3).trans S3.gh T4) ((Anc.set hz.1).trans (Anc.set hz.2))
/-- x[b] = e -/
theorem sd_putG (i : Nat) (h : ED F e L d L1) (hb : ED F b L1 (.int n) L') (h0 : ∃ us, L1[i]? = some (Sl.ow us)) (hi : L'[i]? = some (Sl.ow ms)) (hk : ixN ms.length n = some k) (hN : F.N[i]? = some y) (hv : Vis F.sc y) (hd : (y == ("__debug__" : Str)) = false) (hcd : (y == ("__classdict__" : Str)) = false)
    (ha : ∀ env v, assign (.Subscript (.Name y py) b tpos) env v = (do
      let ov ← holding [v] (eval (.Name y py) env)
      let iv ← holding [v, ov] (eval b env)
      standAt tpos
      holding [v, ov, iv] (setItem ov iv v)
      release [v, ov, iv] []))
    (hs : ∀ j, swapsWithSole [.Subscript (.Name y py) b tpos] e pos.line (F.x j).env = pure false) (hw : ∀ j, swappedStores [.Subscript (.Name y py) b tpos] e (F.x j).env = pure none) (h1 : ∀ env, (assignEach [.Subscript (.Name y py) b tpos] env).map (·.2) = [assign (.Subscript (.Name y py) b tpos) env]) :
    SD z F (.Assign [.Subscript (.Name y py) b tpos] e pos) L (.nx (L'.set i (.ow (ms.set k d)))) := by
  obtain ⟨te, pe, run⟩ := h
  obtain ⟨tb, pb, rb⟩ := hb
  refine ⟨_, fun j => ps_asg (pe j) (pg_sub (pvF F i hN hv hd hcd j) (pb j) set_list (ha _)) (hs j) (hw j) (h1 _), fun σ G H S D q => run σ G H S _ fun v G1 H1 S1 T1 r1 => ?_⟩
  obtain ⟨us, h0⟩ := h0
  obtain ⟨x0, e1, q0, xs0, rfl, _⟩ := S1.get h0
  refine ⟨.ref q0, e1, rb σ G1 H1 S1 _ fun w G2 H2 S2 T2 r2 => ?_⟩
  cases r2
  obtain ⟨x1, e2, q1, xs, w, g1, g2, g3⟩ := S2.get hi
  rw [e1] at e2
  cases e2
  cases w
  refine ⟨q0, xs, n, k, rfl, rfl, g1, by rw [g2.len]; exact hk, ?_⟩
  obtain ⟨S3, T3⟩ := S2.put hi e1 (g2.set (r1.up T2.g) k)
  exact q σ _ _ S3 ((T1.trans T2).trans T3).ts .refl
end
end DL
namespace DL
open PySem PyProof.Rows L2 LamX
variable [TabL]
theorem xs_wk {Y : FamW} {sts : List Stmt} {L L1 L' : List Sl} {er : Er} (w : Wk L L1) (h : XsD Y sts L1 er L') : XsD Y sts L er L' := by
  obtain ⟨ts, ps, run⟩ := h
  refine ⟨ts, ps, fun j σ G H S D q => ?_⟩
  obtain ⟨S1, T1⟩ := S.wk w
  exact run j σ G H S1 D fun cls dd σ' G' H' S' T' ok => q cls dd σ' G' H' S' (T1.trans S1.gh T') ok
end DL
namespace DL
open PySem PyProof.Rows L2 LamX
variable [TabL]
/-- how a lambda's body ends -/
inductive Oc where
  | ok (d : PyData)
  | er (e : Er)
def OcOk (o : Oc) (GZ HZ : Hp) (Q : VK) (E : XK) : Prop :=
  match o with
  | .ok d => ∀ v G' H', Aft N0 GZ HZ G' H' → Rp G' v d → Q v H'
  | .er er => ∀ cls dd G' H', Aft N0 GZ HZ G' H' → ErOk G' er cls dd → E cls dd H'
structure LamO (P : Program) (w : World) (K : PySem.W.Frag) (mg : Str → Option Value) (base : Heap) (G1 : Hp) (s0 : Shared) (H0 : Hp) (fs : List Addr) (f : Addr) (k : Nat) (o : Oc) : Prop where
  fa : ∃ oc od fd sl, s0.heap.get? f = some ⟨oc, od, .func fd, sl⟩
  fh : H0 f = none
  ff : f ∉ fs
  go : ∀ (A : Around) (outer : List Env) (s1 : Shared) (HZ : Hp) (Q : VK) (E : XK), A.guards = some [] → Room k A → Env0 P w K mg base A outer s1 HZ → Un fs [] H0 HZ s0.heap s1.heap →
    (∃ GZ, Same G1 GZ ∧ Same GZ HZ ∧ OcOk o GZ HZ Q E) → codeAny (model P w) A (.call (.ref f) ⟨[], []⟩) (CR (L2.CX P w) outer P w HZ s1 Q E) s1
def LamB (F : Fam) (scope : Scope) (k : Nat) (body : Expr) (L : List Sl) (o : Oc) : Prop :=
  match o with
  | .ok d => ∃ L', ED (lamF F scope k).F body L d L'
  | .er er => ∃ L', XeD (lamF F scope k) body L er L'
section
variable {F : Fam} {L : List Sl} {σ : L2.St} {G1 H1 : Hp} {pins : List (Addr × Obj)} {s' : Shared} {scope : Scope} {body : Expr} {o : Oc} {k : Nat} {q : Str} {params : Arguments} {f c' : Addr} {pm ctv : Value}
theorem lamO_of (j : F.J) (I : Inv (F.x j) pins σ H1 s') (Ls : LamS F.sc scope) (hq : (F.x j).env.qual ++ "<lambda>" = q) (hf : s'.heap.get? f = some (PySem.W.kla_obj "<lambda>" q params body scope (cloFrom (F.x j).env.cells scope.names []) pm c' ctv)) (hfn : H1 f = none) (hfr : f ∉ frs (F.x j).stack)
    (hb : ∀ (cl : List (Str × Addr)) (cv : Value), bindArgs (PySem.W.kla_fn "<lambda>" q params body scope cl pm cv ctv) ⟨[], []⟩ = pure []) (S1 : Sta (L.map DL.hid) σ G1 H1) (hco : G1 c' = some (CodeO c' q))
    (h : LamB F scope k body (L.map DL.hid) o) : LamO F.P F.w F.K F.mg F.base G1 s' H1 (frs (F.x j).stack) f (k + 1) o := by
  refine ⟨⟨_, _, _, _, hf⟩, hfn, hfr, fun A outer s1 HZ Q E g r e0 un ⟨GZ, g1, gz, w⟩ => ?_⟩
  have e0' : Env0 (F.x j).prog (F.x j).w (F.x j).K (F.x j).mg (F.x j).base A outer s1 HZ := by
    rw [F.hP, F.hw, F.hK, F.hmg, F.hbase]
    exact e0
  cases o with
  | er er =>
    obtain ⟨L', te, pe, run⟩ := h
    have go := lam_go (A := A) (outer := outer) (Q := Q) (E := E) I (by rw [F.hsc]; exact Ls) hq hf hfn hfr (hb _ _) r e0' un (gz _ _ (g1 _ _ hco)) (pe ⟨(j, A, outer, s1, HZ, E, f, c'), g, r.deeper _⟩)
      (run _ σ GZ HZ (S1.reG g1 gz) Q fun cls dd G' H' S' T' ok => w cls dd G' H' ⟨T'.g, S'.gh, fun b o hb gb _ => T'.fr b o hb gb (fun ⟨i, us, e, _⟩ => hid_own e), T'.th⟩ ok)
    rw [F.hP, F.hw] at go
    exact go
  | ok d =>
    obtain ⟨L', te, pe, run⟩ := h
    have go := lam_go (A := A) (outer := outer) (Q := Q) (E := E) I (by rw [F.hsc]; exact Ls) hq hf hfn hfr (hb _ _) r e0' un (gz _ _ (g1 _ _ hco)) ((lamF F scope k).pe pe ⟨(j, A, outer, s1, HZ, E, f, c'), g, r.deeper _⟩)
      (run σ GZ HZ (S1.reG g1 gz) Q fun v G' H' S' T' rv => w v G' H' ⟨T'.g, S'.gh, fun b o hb gb _ => T'.fr b o hb gb (fun ⟨i, us, e, _⟩ => hid_own e), T'.th⟩ rv)
    rw [F.hP, F.hw] at go
    exact go
end
/-! ### a name that holds a function is called -/
section
variable {Y : FamW} {L : List Sl} {G1 : Hp} {f : Addr} {er : Er} {d : PyData} {k : Nat} {a : Str} {p1 p2 : Pos}
theorem xe_askO (i : Nat) (hl : ∀ j, LamO Y.F.P Y.F.w Y.F.K Y.F.mg Y.F.base G1 (Y.y j).s_0 (Y.y j).H_0 (Y.y j).fs f k (.er er)) (hk : k ≤ Y.F.k) (hi : L[i]? = some (.fn f G1)) (hN : Y.F.N[i]? = some a) (hv : Vis Y.F.sc a)
    (hd : (a == ("__debug__" : Str)) = false) (hcd : (a == ("__classdict__" : Str)) = false) : XeD Y (.Call (.Name a p1) [] [] p2) L er L := by
  refine ⟨fun j σ H Q => ∃ G, Sta L σ G H ∧ ∀ cls dd G' H', Sta L σ G' H' → Te L σ G H L G' H' → ErOk G' er cls dd → Y.W j cls dd σ H', fun j => ⟨fun pins s σ H Q I ⟨G, S, q⟩ => ?_⟩, fun j σ G H S Q q => ⟨G, S, q⟩⟩
  obtain ⟨x0, e1, ex, sg⟩ := S.get hi
  subst ex
  refine wpAny_Call_Name_kw (thn ((Y.pe (pvF Y.F (pos := p1) i hN hv hd hcd) j).run pins s σ H (fun v H1 => v = .ref f ∧ H1 = H) I ⟨.ref f, e1, rfl, rfl⟩) fun u s1 ⟨v, H1, I1, r1, ev, eH⟩ => ?_)
  subst ev eH
  obtain rfl : u = Value.ref f := r1
  have K0 := hl j
  have un : Un (Y.y j).fs [] (Y.y j).H_0 H1 (Y.y j).s_0.heap s1.heap := by
    have := I1.base
    rw [Y.hex j] at this
    exact this
  obtain ⟨oc, od, fd, sl, hf⟩ := K0.fa
  have hf1 := un.keep f _ hf K0.fh K0.ff (fun z => nomatch (show f ∈ ([] : List Addr) from z))
  refine PySem.W.callWith_F0 ⟨_, _, _, _, hf1⟩ ?_
  have e0 : Env0 Y.F.P Y.F.w Y.F.K Y.F.mg Y.F.base (Y.y j).A (Y.y j).stack s1 H1 := by
    have := I1.env0
    rw [Y.hP, Y.hw, Y.hK, Y.hmg, Y.hbase] at this
    exact this
  have c := K0.go (Y.y j).A (Y.y j).stack s1 H1 Q (WE (Y.W j) σ) (Y.hg j) ((Y.hr j).mono hk) e0 un ⟨G, sg, S.gh, fun cls dd G' H' A ok => by
    obtain ⟨S2, T2⟩ := S.aft A
    exact q cls dd G' H' S2 T2 ok⟩
  rw [← Y.hP j, ← Y.hw j] at c
  refine wpAny_call (codeAny_mono c fun res t ht => ?_)
  match res, ht with
  | .ok (.ret u), ht => exact I1.after ht
  | .ok .next, ht => exact ht.elim
  | .ok .brk, ht => exact ht.elim
  | .ok .cont, ht => exact ht.elim
  | .error e, ht => exact passAt (Y.tk j) σ pins H1 s1 e t I1 ht
/-- .. and answers -/
theorem ed_askO {F : Fam} (hex : ∀ j, (F.x j).ex = []) (i : Nat) (hl : ∀ j, LamO F.P F.w F.K F.mg F.base G1 (F.x j).s_0 (F.x j).H_0 (F.x j).fs f k (.ok d)) (hk : k ≤ F.k) (hi : L[i]? = some (.fn f G1)) (hN : F.N[i]? = some a) (hv : Vis F.sc a)
    (hd : (a == ("__debug__" : Str)) = false) (hcd : (a == ("__classdict__" : Str)) = false) : ED F (.Call (.Name a p1) [] [] p2) L d L := by
  refine ⟨fun σ H Q => ∃ G, Sta L σ G H ∧ ∀ v G' H', Sta L σ G' H' → Te L σ G H L G' H' → Rp G' v d → Q v H', fun j => ⟨fun pins s σ H Q I ⟨G, S, q⟩ => ?_⟩, fun σ G H S Q q => ⟨G, S, q⟩⟩
  obtain ⟨x0, e1, ex, sg⟩ := S.get hi
  subst ex
  refine wpAny_Call_Name_kw (thn ((pvF F (pos := p1) i hN hv hd hcd j).run pins s σ H (fun v H1 => v = .ref f ∧ H1 = H) I ⟨.ref f, e1, rfl, rfl⟩) fun u s1 ⟨v, H1, I1, r1, ev, eH⟩ => ?_)
  subst ev eH
  obtain rfl : u = Value.ref f := r1
  have K0 := hl j
  have un : Un (F.x j).fs [] (F.x j).H_0 H1 (F.x j).s_0.heap s1.heap := by
    have := I1.base
    rw [hex j] at this
    exact this
  obtain ⟨oc, od, fd, sl, hf⟩ := K0.fa
  have hf1 := un.keep f _ hf K0.fh K0.ff (fun z => nomatch (show f ∈ ([] : List Addr) from z))
  refine PySem.W.callWith_F0 ⟨_, _, _, _, hf1⟩ ?_
  have e0 : Env0 F.P F.w F.K F.mg F.base (F.x j).A (F.x j).stack s1 H1 := by
    have := I1.env0
    rw [F.hP, F.hw, F.hK, F.hmg, F.hbase] at this
    exact this
  have c := K0.go (F.x j).A (F.x j).stack s1 H1 Q E0 (F.hg j) ((F.hr j).mono hk) e0 un ⟨G, sg, S.gh, fun v G' H' A rv => by
    obtain ⟨S2, T2⟩ := S.aft A
    exact q v G' H' S2 T2 rv⟩
  rw [← F.hP j, ← F.hw j] at c
  refine wpAny_call (codeAny_mono c fun res t ht => ?_)
  match res, ht with
  | .ok (.ret u), ht => exact I1.after ht
  | .ok .next, ht => exact ht.elim
  | .ok .brk, ht => exact ht.elim
  | .ok .cont, ht => exact ht.elim
  | .error e, ht =>
    obtain ⟨_, _, _, _, _, _, _, _, _, _, _, _, w⟩ := ht
    exact w.elim
end
/-! ### a def that gets a lambda -/
structure DfO (P : Program) (w : World) (K : PySem.W.Frag) (mg : Str → Option Value) (base : Heap) (x : Str) (k : Nat) (Φ : Oc → PyData → Prop) : Prop where
  ex : ∃ (g : Addr) (fd : FuncData) (a : Str), mg x = some (.ref g) ∧ PySem.W.keepIn K (.ref g) = true ∧ (∀ (s : Shared) (u : Value), K.In s.heap → BindsTo s fd ⟨[u], []⟩ [(a, u)]) ∧
    ∀ (o : Oc) (r : PyData) (f : Addr) (G1 : Hp) (A : Around) (outer : List Env) (s : Shared) (H : Hp) (args : Args) (Q : VK), Φ o r → A.guards = some [] → Room (k + 1) A → Env0 P w K mg base A outer s H → BindsTo s fd args [(a, .ref f)] → LamO P w K mg base G1 s H (frs outer) f k o → Same G1 H →
      (∀ v G' H', Aft N0 G1 H G' H' → Rp G' v r → Q v H') → codeAny (model P w) A (.call (.ref g) args) (CR CX0 outer P w H s Q E0) s
def famO (P : Program) (w : World) (K : PySem.W.Frag) (mg : Str → Option Value) (base : Heap) (N : List Str) (qual : Str) (sc : Scope) (g : Addr) (k : Nat) (G1 : Hp) (f : Addr) (o : Oc) : Fam :=
  (famOf P w K mg base N qual sc g k).pull { j : FamJ qual sc g k // LamO P w K mg base G1 j.1.2.2.2.1 j.1.2.2.2.2 (frs j.1.2.2.1) f k o } (·.1)
section
variable {P : Program} {w : World} {K : PySem.W.Frag} {mg : Str → Option Value} {base : Heap} {x qual : Str} {st : Stmt} {g : Addr} {fd : FuncData} {N : List Str} {a : Str} {k : Nat} {Φ : Oc → PyData → Prop}
theorem funO (Fn : Fun K x qual st g fd) (S : FnScope N [a] (defScope st)) (hb : ∀ o r f G1, Φ o r → ∃ L', SsD [] (famO P w K mg base N qual (defScope st) g k G1 f o) (defBody st) (startF N f G1) (.rt r L')) (m : mg x = some (.ref g)) (b : Binds K fd [a] []) : DfO P w K mg base x k Φ := by
  refine ⟨g, fd, a, m, Fn.kp, fun s u inK => ?_, fun o r f G1 A outer s H args Q hΦ hg hr e0 hbd LK gh q => ?_⟩
  · have := b s [u] inK rfl
    rw [List.append_nil] at this
    exact this
  · obtain ⟨oc, od, kV, doc, pm, an, cdv, ct, osl, rfl, lk, hcd⟩ := Fn.ex
    obtain ⟨L', ts, ps, run⟩ := hb o r f G1 hΦ
    refine fn_at (us := [.ref f]) (vs := [.ref f]) lk hcd S hr e0 hbd (.cons rfl .nil) rfl ⟨ts, ps ⟨⟨(cdv, A, outer, s, H), hg, hr.deeper _⟩, LK⟩, run _ G1 H (staF gh (FnScope.fit S)) _ fun v σ' G' H' S' T' _ rv => ?_⟩
    exact q v G' H' ⟨T'.g, S'.gh, fun b o hb gb _ => T'.fr b o hb gb noOwnF, T'.th⟩ rv
end
/-! ### x(lambda: body) -/
section
variable {F : Fam} {L : List Sl} {i k : Nat} {x : Str} {Φ : Oc → PyData → Prop} {o : Oc} {r : PyData} {c Pt : Addr} {q : Str} {params : Arguments} {body : Expr} {scope : Scope} {p lpos pos : Pos}
theorem ed_lamO (i : Nat) (D : DfO F.P F.w F.K F.mg F.base x (k + 1) Φ) (hk : k + 2 ≤ F.k) (hcode : ∀ j, (F.x j).env.code = .ref c) (hq : ∀ j, (F.x j).env.qual ++ "<lambda>" = q) (TB : TabB F.base F.mg c Pt) (hm : (Pt, q) ∈ TabL.T) (hu : ∀ p ∈ TabL.T, p.1 = Pt → p.2 = q) (hi : L[i]? = some .tb)
    (h : LamB F scope k body (L.map DL.hid) o) (hΦ : Φ o r) (Ls : LamS F.sc scope) (hdef : ∀ j, defaultsOf params (F.x j).env = ([], []))
    (hb : ∀ (cl : List (Str × Addr)) (pm cv ctv : Value), bindArgs (PySem.W.kla_fn "<lambda>" q params body scope cl pm cv ctv) ⟨[], []⟩ = pure []) (hg : GlF F x) (hdb : (x == ("__debug__" : Str)) = false) : ED F (.Call (.Name x p) [.Lambda params body scope lpos] [] pos) L r L := by
  obtain ⟨g, fd, a, mf, kp, hbd, go⟩ := D.ex
  refine ⟨fun σ H Q => ∃ G, Sta L σ G H ∧ ∀ v G' H', Sta L σ G' H' → Te L σ G H L G' H' → Rp G' v r → Q v H', fun j => ⟨fun pins s σ H Q I ⟨G, S, w⟩ => ?_⟩, fun σ G H S Q w => ⟨G, S, w⟩⟩
  obtain ⟨hT, hG⟩ := S.tabs hi
  have LsX : LamS (F.x j).env.scope scope := by rw [F.hsc]; exact Ls
  have TBX : TabB (F.x j).base (F.x j).mg c Pt := by rw [F.hbase, F.hmg]; exact TB
  refine wpAny_Call_Name_kw (ld_glob I (hg.gl j) (by rw [F.hmg]; exact mf) ?_ hdb)
  refine PySem.W.callWith_K (K := F.K) (h₀ := (F.x j).base) (by rw [← F.hK j]; exact I.ok.mod.kin) kp ?_ (by rfl) (by rfl)
  refine Calls.spliced_cons (lam_mk I TBX (hcode j) (hq j) hm hu hT (hdef j) (LsX.has I.ok) fun f c' pm ctv H1 s' I1 mkd hf hfn hfr => ?_)
  have inK : F.K.In s'.heap := by
    rw [← F.hK j]
    exact I1.kIn
  refine Calls.spliced_nil ⟨inK, ?_⟩
  obtain ⟨G2, S2, T2, hco⟩ := S.made hG mkd
  have LK := lamO_of j I1 Ls (hq j) hf hfn hfr (fun cl cv => hb cl pm cv ctv) S2.hid hco h
  have e0 : Env0 F.P F.w F.K F.mg F.base (F.x j).A (F.x j).stack s' H1 := by
    have := I1.env0
    rw [F.hP, F.hw, F.hK, F.hmg, F.hbase] at this
    exact this
  have cc := go o r f G2 (F.x j).A (F.x j).stack s' H1 ⟨[.ref f], []⟩ Q hΦ (F.hg j) ((F.hr j).mono hk) e0 (hbd s' (.ref f) inK) LK S2.gh fun v G' H' A rv => by
    obtain ⟨S3, T3⟩ := S2.aft A
    exact w v G' H' S3 (T2.trans T3) rv
  rw [← F.hP j, ← F.hw j] at cc
  refine wpAny_call (codeAny_mono cc fun res t ht => ?_)
  match res, ht with
  | .ok (.ret u), ht => exact I1.after ht
  | .ok .next, ht => exact ht.elim
  | .ok .brk, ht => exact ht.elim
  | .ok .cont, ht => exact ht.elim
  | .error e, ht => exact ht.elim
end
/-! ### try, its body raising nothing -/
section
variable {F : Fam} {t : Expr} {n y : Str} {body : List Stmt} {L L' : List Sl} {i k : Nat} {p1 p2 p3 pos pos' : Pos} {C : Value}
theorem sd_tryOk (i k : Nat) (hst : ∀ j, (F.x j).stack = (F.x j).env :: (F.x j).outer) (hfr : ∀ j, (F.x j).env.frame = some (F.x j).env.locals) (hex : ∀ j, (F.x j).ex = []) (hb : SsD [] (F.trW hst hfr hex).F body L (.nx L')) (ht : ∀ j, TestC (F.x j) t C) (hN : F.N.Nodup) (hni : F.N[i]? = some n) (hnk : F.N[k]? = some y) (hxi : F.sc.names.lookup n = some .local) (hxk : F.sc.names.lookup y = some .local)
    (hsw : ∀ j, swapsWith (.Name n p2) (some (.Name y p1)) p3.line (F.x j).env = pure false) (hd : (n == ("__debug__" : Str)) = false) (hcd : (n == ("__classdict__" : Str)) = false) :
    SD [] F (.Try body [.ExceptHandler (some t) (some n) [.Assign [.Name y p1] (.Name n p2) p3] pos'] [] [] pos) L (.nx L') := by
  obtain ⟨ts, ps, run⟩ := hb
  have kin : ∀ j, ((F.x j).env.kindOf n = some .local) ∧ ((F.x j).env.kindOf y = some .local) := fun j => by
    have e := F.hsc j
    exact ⟨by show (F.x j).env.scope.names.lookup n = _; rw [e]; exact hxi, by show (F.x j).env.scope.names.lookup y = _; rw [e]; exact hxk⟩
  refine ⟨ts, fun j => ?_, fun σ G H S D q => run σ G H S D q⟩
  have := ps_try_keep (X := F.x j) (t := t) (n := n) (y := y) (cls0 := C) (i := i) (k := k) (body := body) (p1 := p1) (p2 := p2) (p3 := p3) (pos := pos) (pos' := pos') (tb := fun _ => ts) (hst j) (hfr j) (hex j) (by rw [F.hN]; exact hN) (by rw [F.hN]; exact hni) (kin j).1 (by rw [F.hN]; exact hnk) (kin j).2 (ht j)
    (fun W pn xe tk po => by
      have p : PSs ((F.x j).tr pn xe).nox body ts := ps ⟨(j, pn, xe, W), tk, po⟩
      exact p.nox) (hsw j) hd hcd (by rw [F.hN]; exact (List.getElem?_eq_some_iff.mp hni).1)
  exact this
end
end DL
/-! max(xs, default=d) -/
namespace MxD
open PySem PyProof.Rows
open Sem (wp)
section
variable {prog : Program} {w : World} {A : Around} {R : Result → Shared → Prop} {it : Addr} {fp wr : List Addr} {n : Nat} {Pv : Nat → Value → Prop} {Stt : Nat → Heap → Prop} {kws : List (Str × Value)}
theorem nmL : (toString "max" ++ toString ".loop" : String) = "max.loop" := by decide
/-- the loop with a best one at B, whatever is said by names -/
theorem loopK (Wk : Walks prog w A.in1 it fp wr n Pv Stt) (bt : Nat → Nat → Bool) (cmp : CmpOf prog w A.in1 .Gt Pv bt) (B : Addr) (nf : B ∉ fp) : ∀ (k j : Nat) (s : Shared) (best : Value) (c : Nat), n - (j + 1) = k → j + 1 ≤ n → Stt (j + 1) s.heap → Pv (argBest bt j) best →
    s.heap.get? B = some { cls := .type "list", dict := none, data := .seq #[best, best] c, slots := #[] } →
    (∀ v h' tk, Pv (argBest bt (n - 1)) v → (∀ b o, b ∉ wr → b ≠ B → s.heap.get? b = some o → h'.get? b = some o) → R (.ok (.ret v)) { s with heap := h', toks := tk }) → codeAny (model prog w) A (.builtin "max.loop" ⟨[.ref it, .none, .ref B], kws⟩) R s := by
  have nw : B ∉ wr := fun h => nf (Wk.sub _ h)
  intro k; induction k with
  | zero =>
    intro j s best c ek lj hs hP hB hR
    have en : j + 1 = n := by omega
    refine codeAny_builtin F.entry_max_loop ?_; rw [Around.under_plainId F.plain_max_loop _]
    show wpAny _ A.in1 (seqItems? (.ref B) >>= _) _ _ s
    refine wpAny_bind (wpAny_seqItems hB rfl ?_); show wpAny _ A.in1 (tryCatch (pyNext (.ref it)) _ >>= _) _ _ s
    refine wpAny_bind (wpAny_tryCatch (Wk.done s _ _ (en ▸ hs) fun h1 tk1 keep => ?_))
    have hB1 := keep B _ nw hB
    show wpAny _ A.in1 (updateSeq B (fun _ => #[]) >>= _) _ _ _
    refine wpAny_bind (wpAny_updateSeq hB1 rfl (wpAny_bind (wpAny_letGo (wpAny_pure ?_))))
    exact hR best _ tk1 (by rw [← en]; exact hP) fun b o hb hne e => (Heap.get?_update_other _ _ (Ne.symm hne)).trans (keep b o hb e)
  | succ k ih =>
    intro j s best c ek lj hs hP hB hR
    have more : j + 1 < n := by omega
    refine codeAny_builtin F.entry_max_loop ?_; rw [Around.under_plainId F.plain_max_loop _]
    show wpAny _ A.in1 (seqItems? (.ref B) >>= _) _ _ s
    refine wpAny_bind (wpAny_seqItems hB rfl ?_); show wpAny _ A.in1 (tryCatch (pyNext (.ref it)) _ >>= _) _ _ s
    refine wpAny_bind (wpAny_tryCatch (Wk.item (j + 1) s _ _ more hs fun v h1 tk1 hv hs1 keep => ?_))
    have hB1 := keep B _ nw hB
    show wpAny _ A.in1 (tryCatch (holding [v, v] (richCompare .Gt v best >>= _)) _ >>= _) _ _ _
    refine wpAny_bind (wpAny_tryCatch (wpAny_holding (wpAny_bind (cmp (j + 1) (argBest bt j) v best _ _ _ hv hP ?_))))
    refine wpAny_bind (wpAny_holding (wpAny_truthy_bool ?_)); refine wpAny_bind (wpAny_letGo (wpAny_pure ?_))
    cases q : bt (j + 1) (argBest bt j) with
    | true =>
      simp only [if_true]
      refine wpAny_bind (wpAny_updateSeq hB1 rfl (wpAny_bind (wpAny_letGo ?_))); rw [nmL]
      refine wpAny_pure ⟨plainId_quiet F.plain_max_loop _, ih (j + 1) _ v _ (by omega) more (Wk.frame _ _ _ hs1 fun b hb o e => (Heap.get?_update_other _ _ (fun z : B = b => nf (by rw [z]; exact hb))).trans e) (by simp only [argBest, q, if_true]; exact hv) (Heap.get?_update_self _ hB1 rfl) fun v2 h2 tk2 hv2 keep2 => ?_⟩
      exact hR v2 h2 tk2 hv2 fun b o hb hne e => keep2 b o hb hne ((Heap.get?_update_other _ _ (Ne.symm hne)).trans (keep b o hb e))
    | false =>
      simp only [Bool.false_eq_true, if_false]
      refine wpAny_bind (wpAny_letGo ?_); rw [nmL]
      refine wpAny_pure ⟨plainId_quiet F.plain_max_loop _, ih (j + 1) _ best c (by omega) more hs1 (by simp only [argBest, q, Bool.false_eq_true, if_false]; exact hP) hB1 fun v2 h2 tk2 hv2 keep2 => ?_⟩
      exact hR v2 h2 tk2 hv2 fun b o hb hne e => keep2 b o hb hne (keep b o hb e)
theorem loopK0 (Wk : Walks prog w A.in1 it fp wr n Pv Stt) (bt : Nat → Nat → Bool) (cmp : CmpOf prog w A.in1 .Gt Pv bt) (B : Addr) (nf : B ∉ fp) (pos : 0 < n) {s : Shared} {c : Nat} (hs : Stt 0 s.heap) (hB : s.heap.get? B = some { cls := .type "list", dict := none, data := .seq #[] c, slots := #[] })
    (hR : ∀ v h' tk, Pv (argBest bt (n - 1)) v → (∀ b o, b ∉ wr → b ≠ B → s.heap.get? b = some o → h'.get? b = some o) → R (.ok (.ret v)) { s with heap := h', toks := tk }) : codeAny (model prog w) A (.builtin "max.loop" ⟨[.ref it, .none, .ref B], kws⟩) R s := by
  have nw : B ∉ wr := fun h => nf (Wk.sub _ h)
  refine codeAny_builtin F.entry_max_loop ?_; rw [Around.under_plainId F.plain_max_loop _]
  show wpAny _ A.in1 (seqItems? (.ref B) >>= _) _ _ s
  refine wpAny_bind (wpAny_seqItems hB rfl ?_); show wpAny _ A.in1 (tryCatch (pyNext (.ref it)) _ >>= _) _ _ s
  refine wpAny_bind (wpAny_tryCatch (Wk.item 0 s _ _ pos hs fun v h1 tk1 hv hs1 keep => ?_))
  have hB1 := keep B _ nw hB
  show wpAny _ A.in1 (updateSeq B (fun _ => #[v, v]) >>= _) _ _ _
  refine wpAny_bind (wpAny_updateSeq hB1 rfl ?_); rw [nmL]
  refine wpAny_pure ⟨plainId_quiet F.plain_max_loop _, loopK Wk bt cmp B nf _ 0 _ v _ rfl pos (Wk.frame _ _ _ hs1 fun b hb o e => (Heap.get?_update_other _ _ (fun z : B = b => nf (by rw [z]; exact hb))).trans e) hv (Heap.get?_update_self _ hB1 rfl) fun v2 h2 tk2 hv2 keep2 => ?_⟩
  exact hR v2 h2 tk2 hv2 fun b o hb hne e => keep2 b o hb hne ((Heap.get?_update_other _ _ (Ne.symm hne)).trans (keep b o hb e))
theorem loopKN (Wk : Walks prog w A.in1 it fp wr n Pv Stt) (B : Addr) (z : n = 0) {s : Shared} {c : Nat} {d : Value} {nm : Str} {more : List (Str × Value)} (hs : Stt 0 s.heap) (nw : B ∉ wr) (hB : s.heap.get? B = some { cls := .type "list", dict := none, data := .seq #[] c, slots := #[] })
    (hR : ∀ h' tk, (∀ b o, b ∉ wr → s.heap.get? b = some o → h'.get? b = some o) → R (.ok (.ret d)) { s with heap := h', toks := tk }) : codeAny (model prog w) A (.builtin "max.loop" ⟨[.ref it, .none, .ref B], (nm, d) :: more⟩) R s := by
  refine codeAny_builtin F.entry_max_loop ?_; rw [Around.under_plainId F.plain_max_loop _]
  show wpAny _ A.in1 (seqItems? (.ref B) >>= _) _ _ s
  refine wpAny_bind (wpAny_seqItems hB rfl ?_); show wpAny _ A.in1 (tryCatch (pyNext (.ref it)) _ >>= _) _ _ s
  refine wpAny_bind (wpAny_tryCatch (Wk.done s _ _ (by rw [z]; exact hs) fun h1 tk1 keep => ?_))
  exact wpAny_bind (wpAny_rule (wpAny_pure (hR h1 tk1 keep)))
end
section
variable {prog : Program} {w : World} {A : Around} {E : Value → Shared → Prop} {s : Shared} {d : Value}
theorem args_maxD (a d : Value) : argsOk "max" ⟨[a], [(Str.ofString "default", d)]⟩ := by unfold argsOk; kernel_rfl
theorem bindD (d : Value) : Builtin.Builtins.bindParams "max" ["key", "default"] 0 ⟨[], [(Str.ofString "default", d)]⟩ = pure [none, some d] := by rfl
theorem call_treeK {id : String} {b : Builtin} {args : List Value} {kws : List (Str × Value)} {Q : Value → Shared → Prop} (hk : builtinKind id = none) (hp : plainId id = true) (hb : entryFor table id = some b) (ha : argsOk id ⟨args, kws⟩)
    (hc : wpAny (model prog w) A.in1 (b ⟨args, kws⟩) (fun fin s' => match fin with
      | .done f => (match (Except.ok f : Result) with | .ok (.ret v) => Q v s' | .ok _ => False | .error e => E e s')
      | .again c' => c'.quiet = true ∧ codeAny (model prog w) A c' (fun r s' => match r with | .ok (.ret v) => Q v s' | .ok _ => False | .error e => E e s') s') E s) : wpAny (model prog w) A (call (.builtin id) args kws) Q E s := by
  refine wpAny_call (codeAny_call_builtin hp hb ?_)
  unfold checkBuiltinCall
  rw [hk]
  cases e : Manifest.signature? id with
  | none => exact wpAny_pure hc
  | some sg =>
    simp only [argsOk, e] at ha
    have e2 : Bind.checkArgs id sg ⟨args, kws⟩ = pure () := ha
    show wpAny _ A.in1 (Bind.checkArgs id sg ⟨args, kws⟩) _ _ s
    rw [e2]; exact wpAny_pure hc
theorem call_walkD {x : Value} {Q : Value → Shared → Prop}
    (h : wpAny (model prog w) A.in1 (pyIter x) (fun i s₂ => ∃ I fp wr n Pv Stt bt, i = .ref I ∧ Walks prog w A.in1 I fp wr n Pv Stt ∧ Stt 0 s₂.heap ∧ (∀ b ∈ fp, b < s₂.heap.objs.size) ∧ CmpOf prog w A.in1 .Gt Pv bt ∧
      (0 < n → ∀ v h' tk, Pv (argBest bt (n - 1)) v → (∀ b o, b ∉ wr → s₂.heap.get? b = some o → h'.get? b = some o) → Q v { s₂ with heap := h', toks := tk }) ∧ (n = 0 → ∀ h' tk, (∀ b o, b ∉ wr → s₂.heap.get? b = some o → h'.get? b = some o) → Q d { s₂ with heap := h', toks := tk })) E s) : wpAny (model prog w) A (call (.builtin "max") [x] [(Str.ofString "default", d)]) Q E s := by
  refine call_treeK F.kind_max F.plain_max F.entry_max (args_maxD _ _) ?_
  show wpAny _ A.in1 (Builtin.Builtins.bindParams "max" ["key", "default"] 0 ⟨[], [(Str.ofString "default", d)]⟩ >>= _) _ _ s
  refine wpAny_bind (wpAny_of_eq (bindD d) ?_); refine wpAny_bind (wpAny_pure ?_)
  refine wpAny_bind (wpAny_mono h (fun i s₂ h₂ => ?_) fun _ _ e => e)
  obtain ⟨I, fp, wr, n, Pv, Stt, bt, rfl, Wk, hs, hf, cmp, q1, q0⟩ := h₂
  refine wpAny_bind (wpAny_newObj_type ?_); rw [nmL]
  have nf : s₂.heap.objs.size ∉ fp := fun z => Nat.lt_irrefl _ (hf _ z)
  have hs2 : Stt 0 (s₂.heap.push { cls := .type "list", data := .seq #[] }) := Wk.frame _ _ _ hs fun b _ o e => Heap.get?_push_of_some _ e
  refine wpAny_pure ⟨plainId_quiet F.plain_max_loop _, ?_⟩
  by_cases z : n = 0
  · refine loopKN Wk s₂.heap.objs.size z hs2 (fun y => nf (Wk.sub _ y)) (Heap.get?_push_size _ rfl) fun h1 tk1 keep => ?_
    exact q0 z h1 tk1 fun b o hb e => keep b o hb (Heap.get?_push_of_some _ e)
  · refine loopK0 Wk bt cmp s₂.heap.objs.size nf (by omega) hs2 (Heap.get?_push_size _ rfl) fun v h1 tk1 hv keep => ?_
    exact q1 (by omega) v h1 tk1 hv fun b o hb e => keep b o hb (Nat.ne_of_lt (Heap.lt_size e)) (Heap.get?_push_of_some _ e)
end
end MxD
namespace DL
open PySem PyProof.Rows L2 LamX
variable [TabL]
def rMaxDf (K : PySem.W.Frag) : List V → List V → Hp → VK → Prop := fun vs zs H Q => ∃ (a : Addr) (ns : List Int) (d : Int), vs = [V.ref a] ∧ zs = [V.int d] ∧ SqL K H a (ns.map V.int) ∧ (ns = [] → Q (.int d) H) ∧ (0 < ns.length → ∀ m, m ∈ ns → (∀ y, y ∈ ns → y ≤ m) → Q (.int m) H)
theorem cr_maxDf {X : Cx} (hc : X.calm = true) : CallRK X (.builtin "max") [Str.ofString "default"] (rMaxDf X.K) := by
  intro pins s σ H vs zs us ws Q I r rz h
  obtain ⟨a, ns, d, rfl, rfl, hs, q0, q1⟩ := h
  obtain ⟨its, rv, hl, _⟩ := I.list hs
  obtain ⟨w1, rfl, ⟨td, rfl⟩⟩ := vals1 rz
  rw [Vals.ref1 r]
  have hi := rv.ints
  have hl := hl.isList
  obtain ⟨xs, e⟩ := hi.allInts.items
  have hn : numsOf (intItems xs).toList = ns := by rw [← e]; exact hi.numsOf
  rw [nums_intItems] at hn
  subst hn
  rw [e] at hl
  show wpAny _ _ (call (.builtin "max") [.ref a] [(Str.ofString "default", .int d td)]) _ _ s
  refine MxD.call_walkD (iter_intList hl fun s₂ e2 st hfp hlI => ?_)
  subst e2
  refine ⟨_, _, _, _, _, _, _, rfl, Walks.list (A := X.A.in1) (I.ok.hd hc) _ a hlI (intItems xs), st, hfp, CmpOf.ints_gt (numAt xs) (fun _ _ => intItems_at), fun pos v h' tk hP hk => ?_, fun z h' tk hk => ?_⟩
  · have hsz : 0 < xs.size := by simpa [intItems] using pos
    obtain ⟨t, rfl⟩ := intItems_at hP
    obtain ⟨h1, h2⟩ := argBest_gt (numAt xs) (xs.size - 1)
    have es : (intItems xs).size = xs.size := by simp [intItems]
    rw [es] at *
    refine ⟨.int _, H, I.kept (old_kept hk), ⟨_, rfl⟩, q1 (by simpa using hsz) _ ?_ fun y hy => ?_⟩
    · rw [numAt_eq]; exact PySem.getD_mem (by rw [List.length_map, Array.length_toList]; omega)
    · obtain ⟨j, hj, rfl⟩ := mem_getD hy
      rw [List.length_map, Array.length_toList] at hj
      rw [← numAt_eq]; exact h2 j (by omega)
  · have hsz : xs.size = 0 := by simpa [intItems] using z
    refine ⟨.int _, H, I.kept (old_kept hk), ⟨_, rfl⟩, q0 ?_⟩
    have : xs.toList = [] := List.length_eq_zero_iff.mp (by rw [Array.length_toList]; exact hsz)
    rw [this]
    rfl
theorem maxDff (F : Fam) (j : F.J) : CallRK (F.x j) (.builtin "max") [Str.ofString "default"] (rMaxDf F.K) := by
  rw [← F.hK j]
  exact cr_maxDf (F.hc j)
section
variable {F : Fam} {e b : Expr} {L L1 L' : List Sl} {ns : List Int} {d m : Int} {p pos kp : Pos}
theorem ed_maxD (h : ED F e L (.list (ns.map .int)) L1) (hb : ED F b L1 (.int d) L') (h0 : ns = [] → m = d) (h1 : 0 < ns.length → m ∈ ns ∧ ∀ y ∈ ns, y ≤ m) (hm : F.mg "max" = none) (hg : GlF F "max" := by rfl) (hs : ∀ env, starEach [e] env = (false, eval e env) :: starEach [] env := by intro _; rfl) (hk : ∀ X te, PE X b te → PK X [⟨some (Str.ofString "default"), b, kp⟩] (tCons te tNil) := by intro X te h; exact pk_cons h pk_nil)
    (he : ∀ env, backTo pos (starEach [e] env) = (false, eval e env) :: backTo pos (starEach [] env) := by intro _; rfl) (hpl : ∀ env, (backTo pos (starEach [e] env)).any (·.1) = false := by intro _; rfl)
    (hall : ∀ env, (backToKw pos (keywordEach [⟨some (Str.ofString "default"), b, kp⟩] env)).all (·.1.isSome) = true := by intro _; rfl) (hnone : ∀ env, (backToKw pos (keywordEach [⟨some (Str.ofString "default"), b, kp⟩] env)).any (·.1.isNone) = false := by intro _; rfl) (hks : ∀ env, (backToKw pos (keywordEach [⟨some (Str.ofString "default"), b, kp⟩] env)).filterMap (·.1) = [Str.ofString "default"] := by intro _; rfl) :
    ED F (.Call (.Name "max" p) [e] [⟨some (Str.ofString "default"), b, kp⟩] pos) L (.int m) L' := by
  obtain ⟨te, pe, run⟩ := h
  obtain ⟨tb, pb, rb⟩ := hb
  refine ⟨_, fun j => pe_callBK (maxDff F j) (hg.gl j) (by rw [F.hmg]; exact hm) (by decide +kernel) (pa_cons (pe j) pa_nil (hs _)) (hk _ _ (pb j)) (by decide) (by decide) (he _) (hpl _) (hall _) (hnone _) (hks _), fun σ G H S Q q => run σ G H S _ fun u G1 H1 S1 T1 r1 => rb σ G1 H1 S1 _ fun v G2 H2 S2 T2 r2 => ?_⟩
  cases r2
  cases r1 with
  | @lst a xs _ k1 k2 =>
    rw [k2.of_ints] at k1
    refine ⟨a, ns, d, rfl, rfl, SqL.of (S2.gh _ _ (T2.g _ _ k1)), fun z => ?_, fun pos m2 hm2 hall2 => ?_⟩
    · rw [← h0 z]
      exact q _ _ _ S2 (T1.trans T2) (.int _)
    · obtain ⟨g1, g2⟩ := h1 pos
      have e : m2 = m := Int.le_antisymm (g2 m2 hm2) (hall2 m g1)
      rw [e]
      exact q _ _ _ S2 (T1.trans T2) (.int _)
end
end DL
namespace DL
open PySem PyProof.Rows L2
variable [TabL]
section
variable {z : List Nat} {F : Fam} {e e1 e2 a b c kx vx tg iter ek ev : Expr} {ifs : List Expr} {rest : List Stmt} {L L1 L2' L' L3 : List Sl} {d d1 d2 : PyData} {ds its rs : List PyData} {x y : Str} {pos p : Pos} {σ σ' : L2.St} {G G1 H1 H G' H' : Hp} {scope : Scope} {o : Out} {q : Addr} {ob oc : HO}
/-- ss_dcputC, what comes behind raising er -/
theorem xs_dcputC {Y : FamW} {er : Er} {own : List (Str × Nat)} {T : List Nat} {ok : PyData → Prop} {u : PyData → List Sl → List Sl} {k : Str} {n : Option Int} {py py2 spos pos2 pos3 : Pos} (i : Nat) (f : PyData → Str) (w : PyData → Option Int) (hi : ItD Y.F tg iter L its L1) (hb : BlkOk Y.F.N Y.F.sc scope own) (ht : TgD (Y.F.blk scope) tg T ok u)
    (hT : ∀ k ∈ T, k ∈ own.map (·.2)) (hM : L1.length = Y.F.N.length) (hno : AllNo (own.map (·.2)) L1)
    (he : ∀ d, d ∈ its → ok d ∧ ED (Y.F.blk scope) kx (u d L1) (.str (f d)) (u d L1) ∧ ED (Y.F.blk scope) vx (u d L1) (oD (w d)) (u d L1)) (nd : (its.map f).Nodup) (hlen : its.length ≤ 100000)
    (hk : ED Y.F ek (L1.set i .no) (.str k) (L1.set i .no)) (hv : ED Y.F ev (L1.set i .no) (oD n) (L1.set i .no)) (hnk : k ∉ its.map f)
    (hr : XsD Y rest (L1.set i (.va (.dict (vsD ((its.map fun d => (f d, w d)) ++ [(k, n)]))))) er L')
    (hN : Y.F.N[i]? = some y := by rfl) (hl : i < L1.length := by exact Nat.le_of_ble_eq_true rfl) (hx : Loc Y.F.sc y := by first | exact Or.inl rfl | exact Or.inr rfl) (hfy : StF Y.F y := by first | exact Or.inl rfl | exact Or.inr rfl) (hs0 : ∀ j, swapsWith (.DictComp kx vx [⟨tg, iter, [], 0⟩] scope pos) (some (.Name y py)) spos.line (Y.F.x j).env = pure false := by intro _; rfl)
    (hn : Y.F.N.Nodup := by exact of_decide_eq_true rfl) (hvis : Vis Y.F.sc y := by first | exact Or.inl rfl | exact Or.inr (Or.inl rfl) | exact Or.inr (Or.inr rfl)) (hd : (y == ("__debug__" : Str)) = false := by decide) (hcd : (y == ("__classdict__" : Str)) = false := by decide)
    (hs : ∀ env x, foldedSetIterable iter env x = pure x := by intro _ _; rfl) (hsw : ∀ j, swapsWith ev (some (.Subscript (.Name y py2) ek pos2)) pos3.line (Y.F.x j).env = pure false := by intro _; rfl) :
    XsD Y (.Assign [.Name y py] (.DictComp kx vx [⟨tg, iter, [], 0⟩] scope pos) spos :: .Assign [.Subscript (.Name y py2) ek pos2] ev pos3 :: rest) L er L' := by
  obtain ⟨wi, g, pi, pg, run⟩ := dc_run (kx := kx) (vx := vx) f w hi ht hT hM hno he nd hlen
  obtain ⟨tk, pk, rk⟩ := hk
  obtain ⟨tv, pv, rv⟩ := hv
  obtain ⟨tr, pr, rr⟩ := hr
  refine ⟨fun j => tSeq (tAsg (tDc wi g (ttsA (Y.F.blk scope) []) (teA (Y.F.blk scope) kx) (teA (Y.F.blk scope) vx) (own.map fun (x : Str × Nat) => x.snd)) (gName i)) (tSeq (sDPut (tVar i) tk tv) (tr j)), fun j => pss_cons (Y.ps (t := tAsg (tDc wi g (ttsA (Y.F.blk scope) []) (teA (Y.F.blk scope) kx) (teA (Y.F.blk scope) vx) (own.map fun (x : Str × Nat) => x.snd)) (gName i)) (fun j => ?_) j) (pss_cons (Y.ps (t := sDPut (tVar i) tk tv) (fun j => ps_dput (by have := (Y.F.hr j).un; omega) (pvF Y.F i hN hvis hd hcd j) (pk j) (pv j) (hsw j)) j) (pr j)), fun j0 σ G H S D q => ?_⟩
  · refine set_any (fun j => pe_dc (Y.F.hc j) (by rw [Y.F.hN]; exact hn) (pi j) (by rw [Y.F.hN, Y.F.hsc]; exact hb) (fun s H C cl fp => ?_) (fun s H C cl fp => ?_) (fun s H C cl fp => ?_) (fun s H C cl fp => ?_) (hs _)) hn hN hx hfy hs0 j
    · exact pg (_, s, H, C, cl, fp)
    · exact pts_any (Y.F.blk scope) [] (_, s, H, C, cl, fp)
    · exact pe_any (Y.F.blk scope) kx (_, s, H, C, cl, fp)
    · exact pe_any (Y.F.blk scope) vx (_, s, H, C, cl, fp)
  · refine run σ G H S (fun v H1 => sDPut (tVar i) tk tv { D with nx := tr j0 D } (σ.set i (some v)) H1) fun p G1 H1 S1 T1 hp hp1 gp1 => ?_
    have hs1 : i < σ.length := by rw [S1.ln]; exact hl
    have no1 : ¬ Own L1 σ p := fun w => S.own_ne hp (T1.ow p w)
    obtain ⟨S2, O2⟩ := S1.set_no (i := i) (v := some (.ref p))
    have no2 : ¬ Own (L1.set i .no) (σ.set i (some (.ref p))) p := fun w => no1 (O2 p w)
    refine rv _ G1 H1 S2 _ fun v2 G3 H3 S3 T3 r3 => ⟨.ref p, List.getElem?_set_self hs1, rk _ G3 H3 S3 _ fun v4 G4 H4 S4 T4 r4 => ?_⟩
    cases r4
    obtain rfl := oD_inv r3
    obtain ⟨h3, g3⟩ := T3.fr p _ hp1 gp1 no2 pl_dK
    obtain ⟨h4, g4⟩ := T4.fr p _ h3 g3 no2 pl_dK
    have lenR : (vsK (its.map fun d => (f d, w d))).length < sizeLine := by
      have : (vsK (its.map fun d => (f d, w d))).length ≤ 100000 := by
        unfold vsK
        rw [List.length_map, List.length_map]
        exact hlen
      exact Nat.lt_of_lt_of_le (by omega : _ < 200000) (by decide)
    have nin : k ∉ (its.map fun d => (f d, w d)).map (·.1) := by
      rw [List.map_map]
      exact hnk
    refine ⟨p, _, rfl, DPut.k (k := Sum.inr k) h4 lenR, ?_⟩
    rw [putK_vs nin]
    have S5 := S4.offP (oc := .dK (vsK ((its.map fun d => (f d, w d)) ++ [(k, n)]))) g4 no2 h4 pl_dK
    obtain ⟨S6, e6⟩ := S5.freeze upd_same g4 no2
    obtain ⟨S7, T7⟩ := S6.set_va (i := i) (v := .ref p) (by rw [List.length_set]; exact hl) (Rp.dks _ upd_same)
    rw [List.set_set, List.set_set] at S7
    have TT : Ts L σ G H (L1.set i (.va (.dict (vsD ((its.map fun d => (f d, w d)) ++ [(k, n)]))))) (σ.set i (some (.ref p))) (upd G4 p (.dK (vsK ((its.map fun d => (f d, w d)) ++ [(k, n)])))) (upd H4 p (.dK (vsK ((its.map fun d => (f d, w d)) ++ [(k, n)])))) := ?TT
    · refine rr j0 _ _ _ S7 D fun cls dd σ' G' H' S' T' r => q cls dd σ' G' H' S' (TT.trans S7.gh T') r
    refine ⟨((T1.g.trans T3.g).trans T4.g).trans e6, fun b ob hb gb nb nt => ?_, fun b v => ?_, ?_⟩
    · obtain ⟨k1, k2⟩ := T1.fr b ob hb gb nb nt
      have nb1 : ¬ Own (L1.set i .no) (σ.set i (some (.ref p))) b := fun v => nb (T1.ow b (O2 b v))
      obtain ⟨k3, k4⟩ := (T3.trans T4).fr b ob k1 k2 nb1 nt
      have hbp : b ≠ p := ne_of_none hb hp
      exact ⟨by rw [upd_ne hbp]; exact k3, by rw [upd_ne hbp]; exact k4⟩
    · obtain ⟨j, us, f1, f2⟩ := v
      refine .inl (T1.ow b ?_)
      by_cases hj : i = j
      · subst hj
        rw [List.getElem?_set_self hl] at f1
        cases f1
      · rw [List.getElem?_set_ne hj] at f1 f2
        exact ⟨j, us, f1, f2⟩
    · exact (((T1.th.trans T3.th).trans T4.th).trans (.pl h4 pl_dK)).trans (.frz pl_dK.1)
theorem cd_inKH {kvs : List (Str × Option Int)} {k : Str} (ha : ED F a L (.str k) L1) (hb : HD F b L1 (.dict (vsD kvs)) L') (hne : kvs ≠ []) (hm : behindInMarks .In b = false := by rfl) : CD F (.Compare a [.In] [b] pos) L ((kvs.find? fun q => decide (q.1 = k)).isSome) L' := by
  obtain ⟨ta, pa, ra⟩ := ha
  obtain ⟨tb, pb, rb⟩ := hb
  refine ⟨tDIn ta tb, fun j => pe_cmp (pc_din (by have := (F.hr j).un; omega) (pa j) (pb j)) hm, fun j => pt_cmp (pc_din (by have := (F.hr j).un; omega) (pa j) (pb j)) hm, fun σ G H S Q q => ra σ G H S _ fun x G1 H1 S1 T1 r1 => rb σ G1 H1 S1 _ fun y G2 H2 S2 T2 r2 => ?_⟩
  cases r1
  obtain ⟨a0, rfl, h1⟩ := vsD_inv r2 hne
  have g := DGet.k (k := Sum.inr k) h1
  rw [valV_vs] at g
  refine ⟨a0, _, rfl, g, ?_⟩
  have e : ((kvs.find? fun q => decide (q.1 = k)).map fun q => oV q.2).isSome = (kvs.find? fun q => decide (q.1 = k)).isSome := by simp
  rw [e]
  exact q _ _ S2 (T1.trans T2)
end
end DL
/-! What a def does, told over data: a Lean function for each construct. -/
namespace DI
open PySem PyProof.Rows L2 DL LamX

/-- an error: its class, its field, the field's data -/
structure Xr where
  nm : Str
  f : Str
  d : PyData
inductive Vl where
  | d (d : PyData)
  /-- a new list -/
  | l (ds : List PyData)
  | x (e : Xr)
inductive Th where
  | ok (d : PyData)
  | er (e : Xr)
/-- what a slot holds -/
inductive Ce where
  | no
  | va (d : PyData)
  | ow (ds : List PyData)
  | er (e : Xr)
  | fn (t : Th)
  | tb
abbrev Sx := List Ce
inductive Re (α : Type) where
  | ok (a : α) (s : Sx)
  | er (x : Xr) (s : Sx)
  | no
/-- what a def hands back -/
inductive Rs where
  | ok (v : Vl)
  | er (x : Xr)
  | no
/-- .. which changed its first argument -/
inductive Rm where
  | ok (v : Vl) (ls : List PyData)
  | no
/-- how a statement ends -/
inductive Ro where
  | nx (s : Sx)
  | ct (s : Sx)
  | bk (s : Sx)
  | rt (v : Vl) (s : Sx)
  | er (x : Xr) (s : Sx)
  | no
def Re.da {β : Type} (m : Re Vl) (f : PyData → Sx → Re β) : Re β :=
  match m with
  | .ok (.d d) s => f d s
  | .ok (.l ds) s => f (.list ds) s
  | _ => .no
def Re.bd {α β : Type} (m : Re α) (f : α → Sx → Re β) : Re β :=
  match m with
  | .ok a s => f a s
  | _ => .no
abbrev Em := Sx → Re Vl
def rO {α : Type} (o : Option α) (s : Sx) : Re α :=
  match o with
  | some v => .ok v s
  | none => .no
def gI (b : Prop) [Decidable b] {α : Type} (x : Option α) : Option α := if b then x else none

/-! ### expressions -/
def eK (d : PyData) : Em := fun s => .ok (.d d) s
def eVar (i : Nat) : Em := fun s =>
  match s[i]? with
  | some (.va d) => .ok (.d d) s
  | some (.ow ds) => .ok (.d (.list ds)) (s.set i (.va (.list ds)))
  | some (.er x) => .ok (.x x) s
  | _ => .no
/-- as it stands now, nothing frozen -/
def hVar (i : Nat) : Sx → Re PyData := fun s =>
  match s[i]? with
  | some (.va d) => .ok d s
  | some (.ow ds) => .ok (.list ds) s
  | _ => .no
def hE (m : Em) : Sx → Re PyData := fun s => (m s).da .ok
/-- [x, y, ..] of names, as they stand now -/
def hNames : List Nat → Sx → Re (List PyData)
  | [], s => .ok [] s
  | i :: is, s => (hVar i s).bd fun d s1 => (hNames is s1).bd fun ds s2 => .ok (d :: ds) s2
def hDisp (is : List Nat) : Sx → Re PyData := fun s => (hNames is s).bd fun ds s1 => .ok (.list ds) s1
def eOp (o : PyData → PyData → Option Vl) (a b : Em) : Em := fun s => (a s).da fun x s1 => (b s1).da fun y s2 => rO (o x y) s2
def eUn (o : PyData → Option Vl) (a : Em) : Em := fun s => (a s).da fun x s1 => rO (o x) s1
/-- a reader of what stands now -/
def eLk (o : PyData → Option Vl) (a : Sx → Re PyData) : Em := fun s => (a s).bd fun x s1 => rO (o x) s1
def oAdd : PyData → PyData → Option Vl
  | .int m, .int n => some (.d (.int (m + n)))
  | .str x, .str y => gI (x.length + y.length ≤ 100000) (some (.d (.str (x ++ y))))
  | .list a, .list b => gI (a.length + b.length ≤ 100000) (some (.l (a ++ b)))
  | _, _ => none
def oSub : PyData → PyData → Option Vl
  | .int m, .int n => some (.d (.int (m - n)))
  | _, _ => none
def oMul : PyData → PyData → Option Vl
  | .int m, .int n => gI (m.natAbs.log2 + n.natAbs.log2 < 1000000) (some (.d (.int (m * n))))
  | .list a, .int n => gI (n.natAbs ≤ 2 ^ 62 ∧ a.length * n.toNat ≤ 100000) (some (.l (List.replicate n.toNat a).flatten))
  | .str x, .int n => gI (1 < n ∧ n ≤ 1000 ∧ 0 < x.length ∧ x.length ≤ 1000) (some (.d (.str (repS x n.toNat))))
  | _, _ => none
def oDiv : PyData → PyData → Option Vl
  | .int m, .int n => gI (0 < n ∧ n.natAbs.log2 < 9000) (some (.d (.int (m / n))))
  | _, _ => none
def oMod : PyData → PyData → Option Vl
  | .int m, .int n => gI (0 < n) (some (.d (.int (m % n))))
  | _, _ => none
def oPow : PyData → PyData → Option Vl
  | .int m, .int n => gI (0 ≤ n ∧ (Builtin.Int.intBits m : Int) * n ≤ 2 ^ 27) (some (.d (.int (m ^ n.toNat))))
  | _, _ => none
def oNeg : PyData → Option Vl
  | .int m => some (.d (.int (-m)))
  | _ => none
/-! tests -/
abbrev Tm := Sx → Re Bool
def cOp (o : PyData → PyData → Option Bool) (a b : Em) : Tm := fun s => (a s).da fun x s1 => (b s1).da fun y s2 => rO (o x y) s2
def oLt : PyData → PyData → Option Bool
  | .int m, .int n => some (decide (m < n))
  | _, _ => none
def oLe : PyData → PyData → Option Bool
  | .int m, .int n => some (decide (m ≤ n))
  | _, _ => none
def oGt : PyData → PyData → Option Bool
  | .int m, .int n => some (decide (n < m))
  | _, _ => none
def oGe : PyData → PyData → Option Bool
  | .int m, .int n => some (decide (n ≤ m))
  | _, _ => none
/-- a comparison with what stands now -/
def cOpH (o : PyData → PyData → Option Bool) (a : Em) (b : Sx → Re PyData) : Tm := fun s => (a s).da fun x s1 => (b s1).bd fun y s2 => rO (o x y) s2
/-- .. of a name, as it stands then -/
def cOpV (o : PyData → PyData → Option Bool) (i : Nat) (b : Sx → Re PyData) : Tm := fun s => (hVar i s).bd fun _ s0 => (b s0).bd fun y s1 => (hVar i s1).bd fun x s2 => rO (o x y) s2
/-- == by data alone -/
def oEqD (x y : PyData) : Option Bool := gI (SeqAt.shaped x = true ∧ SeqAt.shaped y = true) (some (PyData.eqv x y))
def oNeD (x y : PyData) : Option Bool := (oEqD x y).map (!·)
def oEq : PyData → PyData → Option Bool
  | .int m, .int n => some (decide (m = n))
  | .str x, .str y => some (decide (x = y))
  | x, y => oEqD x y
def oNe (x y : PyData) : Option Bool := (oEq x y).map (!·)
def strsOf : List PyData → Option (List Str)
  | [] => some []
  | .str x :: ds => (strsOf ds).map (x :: ·)
  | _ => none
/-- a dict by texts, its values ints or None -/
def kvOf : List (PyData × PyData) → Option (List (Str × Option Int))
  | [] => some []
  | (.str k, .int n) :: r => (kvOf r).map ((k, some n) :: ·)
  | (.str k, .none) :: r => (kvOf r).map ((k, none) :: ·)
  | _ => none
def oIn : PyData → PyData → Option Bool
  | .str x, .dict kvs => (kvOf kvs).bind fun l => if l.isEmpty then none else some (l.find? fun q => decide (q.1 = x)).isSome
  | x, .list ds => gI (SeqAt.shaped x = true ∧ SeqAt.shaped (.list ds) = true) (some (ds.any fun z => PyData.eqv z x))
  | .str x, .tuple ds => (strsOf ds).map fun ws => decide (x ∈ ws)
  | .str x, .str y =>
    match x.cps.toList with
    | [c] => some (decide (c ∈ y.cps.toList))
    | _ => none
  | _, _ => none
def oNin (x y : PyData) : Option Bool :=
  match y with
  | .dict _ => none
  | y => (oIn x y).map (!·)
/-- a <= b <= c and its like -/
def cCh (o1 o2 : PyData → PyData → Option Bool) (a b c : Em) : Tm := fun s => (a s).da fun x s1 => (b s1).da fun y s2 =>
  match o1 x y with
  | some true => (c s2).da fun z s3 => rO (o2 y z) s3
  | some false => .ok false s2
  | none => .no
def vN : Vl → Bool
  | .d d => isN d
  | _ => false
def cIsN (m : Em) : Tm := fun s => (m s).bd fun v s1 => .ok (vN v) s1
def cNotN (m : Em) : Tm := fun s => (m s).bd fun v s1 => .ok (!vN v) s1
def eC (t : Tm) : Em := fun s => (t s).bd fun k s1 => .ok (.d (.bool k)) s1
def truD : PyData → Option Bool
  | .none => some false
  | .bool b => some b
  | .int i => some (i != 0)
  | .list ds => some !ds.isEmpty
  | .tuple ds => some !ds.isEmpty
  | .str x => gI (x.length ≤ 100000) (some (decide (0 < x.length)))
  | _ => none
def tTru (a : Sx → Re PyData) : Tm := fun s => (a s).bd fun x s1 => rO (truD x) s1
def tNot (t : Tm) : Tm := fun s => (t s).bd fun k s1 => .ok (!k) s1
def tAnd (a b : Tm) : Tm := fun s => (a s).bd fun k s1 => if k then b s1 else .ok false s1
def tOr (a b : Tm) : Tm := fun s => (a s).bd fun k s1 => if k then .ok true s1 else b s1
/-- a value and: of bools -/
def eAnd (a b : Em) : Em := fun s => (a s).da fun x s1 =>
  match x with
  | .bool true => (b s1).da fun y s2 => .ok (.d y) s2
  | .bool false => .ok (.d (.bool false)) s1
  | _ => .no
def eOr (a b : Em) : Em := fun s => (a s).da fun x s1 =>
  match x with
  | .bool true => .ok (.d (.bool true)) s1
  | .bool false => (b s1).da fun y s2 => .ok (.d y) s2
  | _ => .no
def eNot (a : Em) : Em := fun s => (a s).da fun x s1 =>
  match x with
  | .bool k => .ok (.d (.bool !k)) s1
  | _ => .no
def eIf (t : Tm) (a b : Em) : Em := fun s => (t s).bd fun k s1 => if k then a s1 else b s1
/-! displays, arguments -/
abbrev Am := Sx → Re (List PyData)
def aN : Am := fun s => .ok [] s
def aC (m : Em) (ms : Am) : Am := fun s => (m s).da fun d s1 => (ms s1).bd fun ds s2 => .ok (d :: ds) s2
def eLst (ms : Am) : Em := fun s => (ms s).bd fun ds s1 => .ok (.l ds) s1
def eTup (ms : Am) : Em := fun s => (ms s).bd fun ds s1 => .ok (.d (.tuple ds)) s1
def eDict0 : Em := fun s => .ok (.d (.dict [])) s
/-! items, slices -/
def oIx : PyData → PyData → Option Vl
  | .list ds, .int n => (atI ds n).map .d
  | .tuple ds, .int n => (atI ds n).map .d
  | .dict kvs, .str k => (kvOf kvs).bind fun l => (l.find? fun q => decide (q.1 = k)).map fun q => .d (oD q.2)
  | .str x, .int n => gI (x.length ≤ 100000) ((L2.atI x.cps.toList n).map fun c => .d (.str ⟨#[c]⟩))
  | _, _ => none
def oIxL : PyData → PyData → Option Vl
  | .list ds, .int n => (atI ds n).map .d
  | _, _ => none
/-- x[b], x as it stands then -/
def eIx (a b : Em) : Em := eOp oIx a b
def eIxV (i : Nat) (b : Em) : Em := fun s => (hVar i s).bd fun _ s0 => (b s0).da fun y s1 => (hVar i s1).bd fun x s2 => rO (oIxL x y) s2
def oN : Sx → Re (Option Int) := fun s => .ok none s
def oS (m : Em) : Sx → Re (Option Int) := fun s => (m s).da fun d s1 =>
  match d with
  | .int n => .ok (some n) s1
  | _ => .no
def oCut (d : PyData) (lo hi : Option Int) : Option Vl :=
  match d with
  | .list ds => some (.l (DL.cutD ds lo hi))
  | .str x => gI (x.length ≤ 100000) (some (.d (.str (cutS x lo hi))))
  | _ => none
def oCutL (d : PyData) (lo hi : Option Int) : Option Vl :=
  match d with
  | .list ds => some (.l (DL.cutD ds lo hi))
  | _ => none
def eSl (a : Em) (lo hi : Sx → Re (Option Int)) : Em := fun s => (a s).da fun x s1 => (lo s1).bd fun l s2 => (hi s2).bd fun h s3 => rO (oCut x l h) s3
def eSlV (i : Nat) (lo hi : Sx → Re (Option Int)) : Em := fun s => (hVar i s).bd fun _ s0 => (lo s0).bd fun l s1 => (hi s1).bd fun h s2 => (hVar i s2).bd fun x s3 => rO (oCutL x l h) s3
def oRev : PyData → Option Vl
  | .list ds => some (.l ds.reverse)
  | _ => none
/-! built-ins -/
def oLen : PyData → Option Vl
  | .list ds => some (.d (.int ds.length))
  | .tuple ds => some (.d (.int ds.length))
  | .str x => gI (x.length ≤ 100000) (some (.d (.int x.length)))
  | _ => none
def oInt : PyData → Option Vl
  | .int n => some (.d (.int n))
  | .bool k => some (.d (.int (if k then 1 else 0)))
  | .str x => gI (x.length ≤ 640) ((PySem.intText? x).map fun n => .d (.int n))
  | _ => none
def oStr : PyData → Option Vl
  | .int n => gI (n.natAbs.log2 < 1920) (some (.d (.str (toString n))))
  | _ => none
def rOk (d : PyData) : Bool := d.showable && (!d.hasDict && (decide (d.depth ≤ 60) && (isDisplay d && decide (d.shown.length ≤ sizeLine))))
def flatB : PyData → Bool
  | .none => true
  | .bool _ => true
  | .int i => decide (i.natAbs.log2 < 1920)
  | .str x => decide ((reprText x).length ≤ sizeLine)
  | .dict [] => true
  | _ => false
def oRepr (d : PyData) : Option Vl := gI ((rOk d || flatB d) = true) (some (.d (.str d.shown)))
def oList : PyData → Option Vl
  | .list ds => some (.l ds)
  | _ => none
def oTuple : PyData → Option Vl
  | .list ds => some (.d (.tuple ds))
  | _ => none
def intsOf : List PyData → Option (List Int)
  | [] => some []
  | .int n :: ds => (intsOf ds).map (n :: ·)
  | _ => none
def ins (n : Int) : List Int → List Int
  | [] => [n]
  | m :: ms => if n ≤ m then n :: m :: ms else m :: ins n ms
def isort : List Int → List Int
  | [] => []
  | n :: ns => ins n (isort ns)
def oSorted : PyData → Option Vl
  | .list ds => (intsOf ds).map fun ns => .l ((isort ns).map .int)
  | _ => none
def minI : Int → List Int → Int
  | m, [] => m
  | m, n :: ns => minI (if n < m then n else m) ns
def oMin : PyData → Option Vl
  | .list ds => (intsOf ds).bind fun ns =>
    match ns with
    | [] => none
    | n :: ns => some (.d (.int (minI n ns)))
  | _ => none
def boolsOf : List PyData → Option (List Bool)
  | [] => some []
  | .bool n :: ds => (boolsOf ds).map (n :: ·)
  | _ => none
def oAll : PyData → Option Vl
  | .list ds => (boolsOf ds).map fun bs => .d (.bool (bs.all id))
  | _ => none
inductive Ty where | int | bool | str | list | tuple
def Ty.nm : Ty → String
  | .int => "int"
  | .bool => "bool"
  | .str => "str"
  | .list => "list"
  | .tuple => "tuple"
def isiD : Ty → PyData → Option Bool
  | _, .dict ((.str _, _) :: _) => none
  | .int, .int _ => some true
  | .int, .bool _ => some true
  | .bool, .bool _ => some true
  | .str, .str _ => some true
  | .list, .list _ => some true
  | .tuple, .tuple _ => some true
  | _, _ => some false
def oIsi (T : Ty) (d : PyData) : Option Vl := (isiD T d).map fun k => .d (.bool k)
/-- isinstance of an error, by its class's name -/
def eIsX (m : Em) (t : Xr → Option Bool) : Em := fun s =>
  match m s with
  | .ok (.x x) s1 => rO ((t x).map fun k => .d (.bool k)) s1
  | _ => .no
def eAttr (f : Str) (T : List (Str × Str)) (m : Em) : Em := fun s =>
  match m s with
  | .ok (.x x) s1 => if x.f = f ∧ (x.nm, x.f) ∈ T then .ok (.d x.d) s1 else .no
  | _ => .no
/-- list(range(..)) -/
def eLRg (m : Em) : Em := fun s => (m s).da fun d s1 =>
  match d with
  | .int n => if 0 ≤ n ∧ n.natAbs ≤ 100000 then .ok (.l (DL.rgD 0 n)) s1 else .no
  | _ => .no
def eLRg2 (a b : Em) : Em := fun s => (a s).da fun x s1 => (b s1).da fun y s2 =>
  match x, y with
  | .int m, .int n => if 0 ≤ m ∧ m.natAbs ≤ 100000 ∧ 0 ≤ n ∧ n.natAbs ≤ 100000 then .ok (.l (DL.rgD m n)) s2 else .no
  | _, _ => .no
/-! calls -/
def rC (r : Rs) (s : Sx) : Re Vl :=
  match r with
  | .ok v => .ok v s
  | .er x => .er x s
  | .no => .no
def eCall (φ : List PyData → Rs) (ms : Am) : Em := fun s => (ms s).bd fun ds s1 => rC (φ ds) s1
def eCallM (φ : List PyData → List PyData → Rm) (i : Nat) (ms : Am) : Em := fun s =>
  match s[i]? with
  | some (.ow _) => (ms s).bd fun ds s1 =>
    match s1[i]? with
    | some (.ow ls) =>
      match φ ls ds with
      | .ok v ls' => .ok v (s1.set i (.ow ls'))
      | .no => .no
    | _ => .no
  | _ => .no
/-- a lambda's body: data, or an error; what it is asked over is frozen -/
def thk (m : Em) (s : Sx) : Option Th :=
  match m s with
  | .ok (.d d) _ => some (.ok d)
  | .ok (.l ds) _ => some (.ok (.list ds))
  | .er x _ => some (.er x)
  | _ => none
def hidC : Ce → Ce
  | .va d => .va d
  | .er x => .er x
  | _ => .no
def eCallL (φ : Th → Rs) (m : Em) : Em := fun s =>
  match thk m (s.map hidC) with
  | some t => rC (φ t) s
  | none => .no
def eAsk (i : Nat) : Em := fun s =>
  match s[i]? with
  | some (.fn (.ok d)) => .ok (.d d) s
  | some (.fn (.er x)) => .er x s
  | _ => .no
/-! targets, iterators, comprehensions -/
abbrev Um := PyData → Sx → Option Sx
def uName (i : Nat) : Um := fun d s => some (s.set i (.va d))
def uTwo (i j : Nat) : Um := fun d s =>
  match d with
  | .tuple [a, b] => some ((s.set i (.va a)).set j (.va b))
  | _ => none
def iE (m : Em) : Am := fun s => (m s).da fun d s1 =>
  match d with
  | .list ds => .ok ds s1
  | .str x => .ok (signsD x) s1
  | _ => .no
def iRg (m : Em) : Am := fun s => (m s).da fun d s1 =>
  match d with
  | .int n => if n.natAbs ≤ 2 ^ 61 then .ok ((List.range n.toNat).map fun (i : Nat) => .int i) s1 else .no
  | _ => .no
def iRg2 (a b : Em) : Am := fun s => (a s).da fun x s1 => (b s1).da fun y s2 =>
  match x, y with
  | .int m, .int n => if m.natAbs ≤ 2 ^ 61 ∧ n.natAbs ≤ 2 ^ 61 then .ok ((List.range (n - m).toNat).map fun (i : Nat) => .int (m + i)) s2 else .no
  | _, _ => .no
def iEnum (m : Em) : Am := fun s => (m s).da fun d s1 =>
  match d with
  | .list ds => .ok (enumD ds) s1
  | .str x => .ok (enumD (signsD x)) s1
  | _ => .no
def iZip (a b : Em) : Am := fun s => (a s).da fun x s1 => (b s1).da fun y s2 =>
  match x, y with
  | .list ds, .list es => .ok (List.zipWith (fun a b => .tuple [a, b]) ds es) s2
  | _, _ => .no
def wipeC (W : List Nat) (s : Sx) : Sx := s.mapIdx fun i x => if i ∈ W then .no else x
def lcL (W : List Nat) (u : Um) (t : Tm) (e : Em) : List PyData → Sx → Re (List PyData)
  | [], s => .ok [] s
  | d :: ds, s =>
    match u d s with
    | none => .no
    | some s1 => (t s1).bd fun k s2 =>
      if k then (e s2).da fun r s3 => (lcL W u t e ds (wipeC W s3)).bd fun rs s4 => .ok (r :: rs) s4
      else lcL W u t e ds (wipeC W s2)
def tT : Tm := fun s => .ok true s
def eLc (n : Nat) (W : List Nat) (u : Um) (it : Am) (t : Tm) (e : Em) : Sx → Re (List PyData) := fun s =>
  if s.length = n then (it (wipeC W s)).bd fun its s1 => if its.length ≤ 100000 then lcL W u t e its (wipeC W s1) else .no else .no
def eL (m : Sx → Re (List PyData)) : Em := fun s => (m s).bd fun ds s1 => .ok (.l ds) s1

/-! ### statements -/
abbrev Sm := Sx → Ro
def vC : Vl → Ce
  | .d d => .va d
  | .l ds => .ow ds
  | .x x => .er x
def Re.k (m : Re Vl) (f : Vl → Sx → Ro) : Ro :=
  match m with
  | .ok v s => f v s
  | .er x s => .er x s
  | .no => .no
def Re.kd (m : Re Vl) (f : PyData → Sx → Ro) : Ro :=
  match m with
  | .ok (.d d) s => f d s
  | .ok (.l ds) s => f (.list ds) s
  | _ => .no
/-- it raises nothing -/
def Re.q {α : Type} (m : Re α) : Re α :=
  match m with
  | .ok v s => .ok v s
  | _ => .no
def q (m : Em) : Em := fun s => (m s).q
def sSet (i : Nat) (m : Em) : Sm := fun s => (m s).k fun v s1 => .nx (s1.set i (vC v))
/-- x = [.. for ..], x a plain local -/
def sSetL (i : Nat) (m : Sx → Re (List PyData)) : Sm := fun s =>
  match m s with
  | .ok ds s1 => .nx (s1.set i (.ow ds))
  | _ => .no
def sTwo (i j : Nat) (m : Em) : Sm := fun s => (m s).kd fun d s1 =>
  match d with
  | .tuple [a, b] => .nx ((s1.set i (.va a)).set j (.va b))
  | .list [a, b] => .nx ((s1.set i (.va a)).set j (.va b))
  | _ => .no
def sStar (i j : Nat) (m : Em) : Sm := fun s => (m s).kd fun d s1 =>
  match d with
  | .list (a :: ds) => if ds.length ≤ 10000 then .nx ((s1.set i (.va a)).set j (.ow ds)) else .no
  | _ => .no
/-- x, y = two new lists -/
def sPar (i j : Nat) (a b : Em) : Sm := fun s => (a s).k fun v s1 => (b s1).k fun w s2 =>
  match v, w with
  | .l ds, .l us => .nx ((s2.set i (.ow ds)).set j (.ow us))
  | .d a, .d b => .nx ((s2.set i (.va a)).set j (.va b))
  | _, _ => .no
/-- x[b] = e -/
def sPut (i : Nat) (e b : Em) : Sm := fun s => (e s).kd fun d s1 =>
  match s1[i]? with
  | some (.ow _) => (b s1).kd fun n s2 =>
    match n, s2[i]? with
    | .int n, some (.ow ms) =>
      match ixN ms.length n with
      | some k => .nx (s2.set i (.ow (ms.set k d)))
      | none => .no
    | _, _ => .no
  | _ => .no
def sApp (i : Nat) (e : Em) : Sm := fun s =>
  match s[i]? with
  | some (.ow _) => (e s).kd fun d s1 =>
    match s1[i]? with
    | some (.ow ms) => if ms.length < 100000 then .nx (s1.set i (.ow (ms ++ [d]))) else .no
    | _ => .no
  | _ => .no
def sExpr (m : Em) : Sm := fun s => (m s).k fun _ s1 => .nx s1
def sRet (m : Em) : Sm := fun s => (m s).k fun v s1 => .rt v s1
/-- return x: what is one's own goes out as a new list -/
def sRetV (i : Nat) : Sm := fun s =>
  match s[i]? with
  | some (.va d) => .rt (.d d) s
  | some (.ow ds) => .rt (.l ds) (s.set i .no)
  | some (.er x) => .rt (.x x) s
  | _ => .no
def sIf (t : Tm) (a b : Sm) : Sm := fun s =>
  match t s with
  | .ok k s1 => if k then a s1 else b s1
  | _ => .no
def forL (u : Um) (b : Sm) : List PyData → Sm
  | [], s => .nx s
  | d :: ds, s =>
    match u d s with
    | none => .no
    | some s1 =>
      match b s1 with
      | .nx s2 => forL u b ds s2
      | .ct s2 => forL u b ds s2
      | .bk s2 => .nx s2
      | r => r
def sFor (u : Um) (it : Am) (b : Sm) : Sm := fun s =>
  match it s with
  | .ok its s1 => forL u b its s1
  | _ => .no
def whL (t : Tm) (b : Sm) : Nat → Sm
  | 0, _ => .no
  | n + 1, s =>
    match t s with
    | .ok true s1 =>
      match b s1 with
      | .nx s2 => whL t b n s2
      | .ct s2 => whL t b n s2
      | .bk s2 => .nx s2
      | .rt v s2 => .rt v s2
      | _ => .no
    | .ok false s1 => .nx s1
    | _ => .no
def sWhile (t : Tm) (b : Sm) : Sm := fun s => whL t b 100000 s
def sAug (f : Int → Int → Int) (i : Nat) (e : Em) : Sm := fun s =>
  match s[i]? with
  | some (.va (.int m)) => (e s).kd fun d s1 =>
    match d, s1[i]? with
    | .int n, some (.va (.int m2)) => if m2 = m then .nx (s1.set i (.va (.int (f m n)))) else .no
    | _, _ => .no
  | _ => .no
def sPass : Sm := fun s => .nx s
def sCont : Sm := fun s => .ct s
def sBrk : Sm := fun s => .bk s
def sRaise (nm f : Str) (m : Em) : Sm := fun s => (m s).kd fun d s1 => .er ⟨nm, f, d⟩ s1
/-- try: b / except (cs) as .. : x = .. -/
def sTry (cs : List Str) (i k : Nat) (b : Sm) : Sm := fun s =>
  match b s with
  | .nx s1 => .nx s1
  | .er x s1 =>
    if cs.contains x.nm then
      match s1[i]? with
      | some .no => if s1.length = s.length then .nx (s1.set k (.er x)) else .no
      | _ => .no
    else .no
  | _ => .no
def sNil : Sm := fun s => .nx s
def sSeq (a b : Sm) : Sm := fun s =>
  match a s with
  | .nx s1 => b s1
  | r => r
/-- slots let go -/
def sWp (W : List Nat) (b : Sm) : Sm := fun s => b (wipeC W s)

/-! ### defs -/
def startC (n : Nat) (ds : List PyData) : Sx := ds.map .va ++ List.replicate (n - ds.length) .no
def startCM (n : Nat) (ms ds : List PyData) : Sx := .ow ms :: (ds.map .va ++ List.replicate (n - (ds.length + 1)) .no)
/-- a def of data: np parameters, n names -/
def runD (np n : Nat) (b : Sm) (ds : List PyData) : Rs :=
  if ds.length = np then
    match b (startC n ds) with
    | .nx _ => .ok (.d .none)
    | .rt v _ => .ok v
    | .er x _ => .er x
    | _ => .no
  else .no
def runM (np n : Nat) (b : Sm) (ms ds : List PyData) : Rm :=
  if ds.length + 1 = np then
    match b (startCM n ms ds) with
    | .nx s => match (s[0]? : Option Ce) with
      | some (.ow ms') => .ok (.d .none) ms'
      | _ => .no
    | .rt v s => match (s[0]? : Option Ce) with
      | some (.ow ms') => .ok v ms'
      | _ => .no
    | _ => .no
  else .no
/-- a def that gets a lambda, and nothing else -/
def runT (n : Nat) (b : Sm) (t : Th) : Rs :=
  match b (.fn t :: List.replicate (n - 1) .no) with
  | .rt v _ => .ok v
  | .er x _ => .er x
  | _ => .no
end DI
namespace DI
open PySem PyProof.Rows L2 DL LamX
variable [TabL]
/-- where classes stand; the function that was handed in -/
class Mp where
  CA : Str → Addr
  fa : Addr
  fG : Hp
variable [MP : Mp]
def Xr.r (x : Xr) : Er := ⟨MP.CA x.nm, x.f, x.d⟩
def xD (x : Xr) : PyData := excD (MP.CA x.nm) x.f x.d
def sl : Ce → Sl
  | .no => .no
  | .va d => .va d
  | .ow ds => .ow ds
  | .er x => .va (xD x)
  | .fn _ => .fn MP.fa MP.fG
  | .tb => .tb
def sls (s : Sx) : List Sl := s.map sl
/-- nothing becomes one's own -/
structure Kp (s s' : Sx) : Prop where
  ln : s'.length = s.length
  ow : ∀ (k : Nat) (ds : List PyData), s'[k]? = some (Ce.ow ds) → ∃ es, s[k]? = some (Ce.ow es)
section
variable {s s1 s2 s' : Sx} {i : Nat} {c : Ce} {ds es : List PyData} {d : PyData} {W : List Nat}
theorem Kp.refl : Kp s s := ⟨rfl, fun _ ds h => ⟨ds, h⟩⟩
theorem Kp.trans (a : Kp s s1) (b : Kp s1 s2) : Kp s s2 := ⟨b.ln.trans a.ln, fun k ds h => let ⟨es, h1⟩ := b.ow k ds h; a.ow k es h1⟩
theorem Kp.set (h : s[i]? = some (Ce.ow ds)) : Kp s (s.set i c) := by
  refine ⟨List.length_set, fun k us e => ?_⟩
  by_cases hk : i = k
  · subst hk
    exact ⟨_, h⟩
  · rw [List.getElem?_set_ne hk] at e
    exact ⟨_, e⟩
theorem wipeC_len : (wipeC W s).length = s.length := by unfold wipeC; rw [List.length_mapIdx]
theorem wipeC_get {k : Nat} : (wipeC W s)[k]? = (s[k]?).map fun x => if k ∈ W then .no else x := by
  unfold wipeC
  rw [List.getElem?_mapIdx]
theorem Kp.wipe : Kp s (wipeC W s) := by
  refine ⟨wipeC_len, fun k ds h => ?_⟩
  rw [wipeC_get] at h
  cases e : s[k]? with
  | none => rw [e] at h; cases h
  | some c =>
    rw [e] at h
    by_cases hk : k ∈ W
    · simp [hk] at h
    · simp [hk] at h
      exact ⟨ds, by rw [h]⟩
theorem sls_get {k : Nat} : (sls s)[k]? = (s[k]?).map sl := by unfold sls; rw [List.getElem?_map]
theorem sls_at {k : Nat} (h : s[k]? = some c) : (sls s)[k]? = some (sl c) := by rw [sls_get, h]; rfl
theorem sls_set : sls (s.set i c) = (sls s).set i (sl c) := by unfold sls; rw [List.map_set]
theorem sls_len : (sls s).length = s.length := by unfold sls; rw [List.length_map]
theorem sls_wipe : sls (wipeC W s) = cutL W (sls s) := by
  apply List.ext_getElem?
  intro k
  rw [sls_get, wipeC_get, cutL_get, sls_get]
  cases s[k]? with
  | none => rfl
  | some c =>
    simp only [Option.map_some]
    by_cases hk : k ∈ W
    · simp only [hk, if_true]; rfl
    · simp only [hk, if_false]
theorem sl_ow {c : Ce} (h : sl c = .ow ds) : c = .ow ds := by
  cases c <;> simp [sl] at h <;> first | rw [h] | cases h
theorem own_at {k : Nat} (h : (sls s)[k]? = some (Sl.ow ds)) : s[k]? = some (Ce.ow ds) := by
  rw [sls_get] at h
  cases e : s[k]? with
  | none => rw [e] at h; cases h
  | some c =>
    rw [e] at h
    rw [sl_ow (Option.some.inj h)]
end

/-! ### judgements -/
section
variable (F : Fam)
def EV (e : Expr) (L : List Sl) (v : Vl) (L' : List Sl) : Prop :=
  match v with
  | .d d => ED F e L d L'
  | .l ds => FD F e L ds L'
  | .x x => ED F e L (xD x) L'
def EF (e : Expr) (m : Em) : Prop := ∀ s v s', m s = .ok v s' → EV F e (sls s) v (sls s') ∧ Kp s s'
def HF (e : Expr) (m : Sx → Re PyData) : Prop := ∀ s v s', m s = .ok v s' → HD F e (sls s) v (sls s') ∧ Kp s s'
/-- a list to be read, or other data -/
def LKD (e : Expr) (L : List Sl) (d : PyData) (L' : List Sl) : Prop :=
  match d with
  | .list ds => LD F e L ds L'
  | d => ED F e L d L'
def LF (e : Expr) (m : Sx → Re PyData) : Prop := ∀ s v s', m s = .ok v s' → LKD F e (sls s) v (sls s') ∧ Kp s s'
def BF (e : Expr) (t : Tm) : Prop := ∀ s k s', t s = .ok k s' → BD F e (sls s) k (sls s') ∧ Kp s s'
def WF (e : Expr) (t : Tm) : Prop := ∀ s k s', t s = .ok k s' → WD F e (sls s) k (sls s') ∧ Kp s s'
def CF (e : Expr) (t : Tm) : Prop := ∀ s k s', t s = .ok k s' → CD F e (sls s) k (sls s') ∧ Kp s s'
def AF (es : List Expr) (m : Am) : Prop := ∀ s ds s', m s = .ok ds s' → AD F es (sls s) ds (sls s') ∧ Kp s s' ∧ ds.length = es.length
def OF (e : Option Expr) (m : Sx → Re (Option Int)) : Prop := ∀ s o s', m s = .ok o s' → OD F e (sls s) o (sls s') ∧ Kp s s'
def IF (tg iter : Expr) (m : Am) : Prop := ∀ s its s', m s = .ok its s' → ItD F tg iter (sls s) its (sls s') ∧ Kp s s'
def QF (elt tg iter : Expr) (ifs : List Expr) (scope : Scope) (m : Sx → Re (List PyData)) : Prop := ∀ s ds s', m s = .ok ds s' → CompD F elt tg iter ifs scope (sls s) ds (sls s') ∧ Kp s s'
structure TF (tg : Expr) (T : List Nat) (u : Um) : Prop where
  ex : ∃ (ok : PyData → Prop) (us : PyData → List Sl → List Sl), TgD F tg T ok us ∧ ∀ d s s', u d s = some s' → ok d ∧ us d (sls s) = sls s' ∧ s'.length = s.length ∧ ∀ (k : Nat) (ds : List PyData), s'[k]? = some (Ce.ow ds) → s[k]? = some (Ce.ow ds)
end
def EX (Y : FamW) (e : Expr) (m : Em) : Prop := ∀ s x s', m s = .er x s' → XeD Y e (sls s) x.r (sls s') ∧ s'.length = s.length

section
variable {F : Fam} {Y : FamW} {e a b c tg iter elt : Expr} {es : List Expr} {m ma mb mc : Em} {s s' s1 : Sx} {v : Vl} {d : PyData} {ds : List PyData} {pos p p2 : Pos} {x y : Str} {i : Nat} {α β : Type}
theorem da_inv {r : Re Vl} {f : PyData → Sx → Re β} {w : β} (h : r.da f = .ok w s') : ∃ d s1, (r = .ok (.d d) s1 ∨ ∃ ds, r = .ok (.l ds) s1 ∧ d = .list ds) ∧ f d s1 = .ok w s' := by
  unfold Re.da at h
  split at h
  · exact ⟨_, _, .inl rfl, h⟩
  · exact ⟨_, _, .inr ⟨_, rfl, rfl⟩, h⟩
  · cases h
theorem bd_inv {r : Re α} {f : α → Sx → Re β} {w : β} (h : r.bd f = .ok w s') : ∃ a s1, r = .ok a s1 ∧ f a s1 = .ok w s' := by
  unfold Re.bd at h
  split at h
  · exact ⟨_, _, rfl, h⟩
  · cases h
theorem rO_inv {o : Option α} {w : α} (h : rO o s = .ok w s') : o = some w ∧ s' = s := by
  unfold rO at h
  split at h
  · cases h
    exact ⟨rfl, rfl⟩
  · cases h
theorem gI_inv {P : Prop} [Decidable P] {o : Option α} {w : α} (h : gI P o = some w) : P ∧ o = some w := by
  unfold gI at h
  split at h
  · exact ⟨by assumption, h⟩
  · cases h
theorem EF.da (h : EF F e m) {f : PyData → Sx → Re β} {w : β} (q : (m s).da f = .ok w s') : ∃ d s1, ED F e (sls s) d (sls s1) ∧ Kp s s1 ∧ f d s1 = .ok w s' := by
  obtain ⟨d, s1, h1, h2⟩ := da_inv q
  rcases h1 with h1 | ⟨ds, h1, rfl⟩
  · exact ⟨d, s1, (h _ _ _ h1).1, (h _ _ _ h1).2, h2⟩
  · exact ⟨_, s1, FD.ed (h _ _ _ h1).1, (h _ _ _ h1).2, h2⟩
theorem HF.bd {m : Sx → Re PyData} (h : HF F e m) {f : PyData → Sx → Re β} {w : β} (q : (m s).bd f = .ok w s') : ∃ d s1, HD F e (sls s) d (sls s1) ∧ Kp s s1 ∧ f d s1 = .ok w s' := by
  obtain ⟨d, s1, h1, h2⟩ := bd_inv q
  exact ⟨d, s1, (h _ _ _ h1).1, (h _ _ _ h1).2, h2⟩
theorem LF.bd {m : Sx → Re PyData} (h : LF F e m) {f : PyData → Sx → Re β} {w : β} (q : (m s).bd f = .ok w s') : ∃ d s1, LKD F e (sls s) d (sls s1) ∧ Kp s s1 ∧ f d s1 = .ok w s' := by
  obtain ⟨d, s1, h1, h2⟩ := bd_inv q
  exact ⟨d, s1, (h _ _ _ h1).1, (h _ _ _ h1).2, h2⟩
theorem BF.bd {t : Tm} (h : BF F e t) {f : Bool → Sx → Re β} {w : β} (q : (t s).bd f = .ok w s') : ∃ d s1, BD F e (sls s) d (sls s1) ∧ Kp s s1 ∧ f d s1 = .ok w s' := by
  obtain ⟨d, s1, h1, h2⟩ := bd_inv q
  exact ⟨d, s1, (h _ _ _ h1).1, (h _ _ _ h1).2, h2⟩
theorem AF.bd {t : Am} (h : AF F es t) {f : List PyData → Sx → Re β} {w : β} (q : (t s).bd f = .ok w s') : ∃ d s1, AD F es (sls s) d (sls s1) ∧ Kp s s1 ∧ d.length = es.length ∧ f d s1 = .ok w s' := by
  obtain ⟨d, s1, h1, h2⟩ := bd_inv q
  exact ⟨d, s1, (h _ _ _ h1).1, (h _ _ _ h1).2.1, (h _ _ _ h1).2.2, h2⟩
theorem OF.bd {o : Option Expr} {t : Sx → Re (Option Int)} (h : OF F o t) {f : Option Int → Sx → Re β} {w : β} (q : (t s).bd f = .ok w s') : ∃ d s1, OD F o (sls s) d (sls s1) ∧ Kp s s1 ∧ f d s1 = .ok w s' := by
  obtain ⟨d, s1, h1, h2⟩ := bd_inv q
  exact ⟨d, s1, (h _ _ _ h1).1, (h _ _ _ h1).2, h2⟩

/-! ### names, constants -/
theorem ef_int {n : Int} {j} : EF F (.Constant (.int n) j pos) (eK (.int n)) := fun s v s' h => by cases h; exact ⟨ed_int, .refl⟩
theorem ef_bl {n : Bool} {j} : EF F (.Constant (.bool n) j pos) (eK (.bool n)) := fun s v s' h => by cases h; exact ⟨ed_bl, .refl⟩
theorem ef_non {j} : EF F (.Constant .none j pos) (eK .none) := fun s v s' h => by cases h; exact ⟨ed_non, .refl⟩
theorem ef_str {n : Str} {j} : EF F (.Constant (.str n) j pos) (eK (.str n)) := fun s v s' h => by cases h; exact ⟨ed_str, .refl⟩
theorem ef_globI {n : Int} (hm : ∃ t, F.mg x = some (.int n t)) (hg : GlF F x := by rfl) (hd : (x == ("__debug__" : Str)) = false := by decide) : EF F (.Name x pos) (eK (.int n)) := fun s v s' h => by
  cases h
  obtain ⟨t, hm⟩ := hm
  exact ⟨ed_globI hm hg hd, .refl⟩
theorem ef_globS {n : Str} (hm : ∃ t, F.mg x = some (.str n t)) (hg : GlF F x := by rfl) (hd : (x == ("__debug__" : Str)) = false := by decide) : EF F (.Name x pos) (eK (.str n)) := fun s v s' h => by
  cases h
  obtain ⟨t, hm⟩ := hm
  exact ⟨ed_glob (v := .str n) hm ⟨_, rfl⟩ (fun _ => .str _) hg hd, .refl⟩
theorem ef_var (i : Nat) (hN : F.N[i]? = some x := by rfl) (hv : Vis F.sc x := by first | exact Or.inl rfl | exact Or.inr (Or.inl rfl) | exact Or.inr (Or.inr rfl)) (hd : (x == ("__debug__" : Str)) = false := by decide) (hcd : (x == ("__classdict__" : Str)) = false := by decide) : EF F (.Name x pos) (eVar i) := fun s v s' h => by
  unfold eVar at h
  split at h
  · next d e => cases h; exact ⟨ed_var i (sls_at e) hN hv hd hcd, .refl⟩
  · next ds e =>
    cases h
    refine ⟨?_, .set e⟩
    show ED _ _ _ _ _
    rw [sls_set]
    exact ed_varF i (sls_at e) hN hv hd hcd
  · next x e => cases h; exact ⟨ed_var (d := xD x) i (sls_at e) hN hv hd hcd, .refl⟩
  · cases h
theorem hf_var (i : Nat) (hN : F.N[i]? = some x := by rfl) (hv : Vis F.sc x := by first | exact Or.inl rfl | exact Or.inr (Or.inl rfl) | exact Or.inr (Or.inr rfl)) (hd : (x == ("__debug__" : Str)) = false := by decide) (hcd : (x == ("__classdict__" : Str)) = false := by decide) : HF F (.Name x pos) (hVar i) := fun s v s' h => by
  unfold hVar at h
  split at h
  · next d e => cases h; exact ⟨ED.hd (ed_var i (sls_at e) hN hv hd hcd), .refl⟩
  · next ds e => cases h; exact ⟨LD.hd (ld_var i (sls_at e) hN hv hd hcd), .refl⟩
  · cases h
theorem LKD.of {L L' : List Sl} (h : ED F e L d L') : LKD F e L d L' := by
  cases d <;> first | exact ED.ld h | exact h
theorem lf_var (i : Nat) (hN : F.N[i]? = some x := by rfl) (hv : Vis F.sc x := by first | exact Or.inl rfl | exact Or.inr (Or.inl rfl) | exact Or.inr (Or.inr rfl)) (hd : (x == ("__debug__" : Str)) = false := by decide) (hcd : (x == ("__classdict__" : Str)) = false := by decide) : LF F (.Name x pos) (hVar i) := fun s v s' h => by
  unfold hVar at h
  split at h
  · next d e => cases h; exact ⟨.of (ed_var i (sls_at e) hN hv hd hcd), .refl⟩
  · next ds e => cases h; exact ⟨ld_var i (sls_at e) hN hv hd hcd, .refl⟩
  · cases h
theorem hf_ef (h : EF F e m) : HF F e (hE m) := fun s v s' q => by
  obtain ⟨d, s1, h1, k, q⟩ := h.da q
  cases q
  exact ⟨ED.hd h1, k⟩
theorem lf_ef (h : EF F e m) : LF F e (hE m) := fun s v s' q => by
  obtain ⟨d, s1, h1, k, q⟩ := h.da q
  cases q
  exact ⟨.of h1, k⟩

theorem hVar_inv (h : hVar i s = .ok d s') : AtS (sls s) i d ∧ s' = s := by
  unfold hVar at h
  split at h
  · next d e => cases h; exact ⟨.inl (sls_at e), rfl⟩
  · next ds e => cases h; exact ⟨.inr ⟨ds, sls_at e, rfl⟩, rfl⟩
  · cases h

/-! ### operators -/
theorem ef_op {op : Operator} {o : PyData → PyData → Option Vl} (ha : EF F a ma) (hb : EF F b mb) (ho : ∀ L L1 L2 d1 d2 v, o d1 d2 = some v → ED F a L d1 L1 → ED F b L1 d2 L2 → EV F (.BinOp a op b pos) L v L2) : EF F (.BinOp a op b pos) (eOp o ma mb) := fun s v s' h => by
  obtain ⟨d1, s1, h1, k1, h⟩ := ha.da h
  obtain ⟨d2, s2, h2, k2, h⟩ := hb.da h
  obtain ⟨ho2, rfl⟩ := rO_inv h
  exact ⟨ho _ _ _ _ _ _ ho2 h1 h2, k1.trans k2⟩
theorem ef_add (ha : EF F a ma) (hb : EF F b mb) : EF F (.BinOp a .Add b pos) (eOp oAdd ma mb) := ef_op ha hb fun L L1 L2 d1 d2 v h h1 h2 => by
  unfold oAdd at h
  split at h
  · cases h; exact ed_add h1 h2
  · obtain ⟨g, h⟩ := gI_inv h; cases h; exact ed_addS h1 h2 g
  · obtain ⟨g, h⟩ := gI_inv h; cases h; exact fd_cat h1 h2 g
  · cases h
theorem ef_sub (ha : EF F a ma) (hb : EF F b mb) : EF F (.BinOp a .Sub b pos) (eOp oSub ma mb) := ef_op ha hb fun L L1 L2 d1 d2 v h h1 h2 => by
  unfold oSub at h
  split at h
  · cases h; exact ed_sub h1 h2
  · cases h
theorem ef_mul (ha : EF F a ma) (hb : EF F b mb) : EF F (.BinOp a .Mult b pos) (eOp oMul ma mb) := ef_op ha hb fun L L1 L2 d1 d2 v h h1 h2 => by
  unfold oMul at h
  split at h
  · obtain ⟨g, h⟩ := gI_inv h; cases h; exact ed_mulW g h1 h2
  · obtain ⟨g, h⟩ := gI_inv h; cases h; exact fd_rep h1 h2 ⟨by omega, by omega⟩ g.2
  · obtain ⟨g, h⟩ := gI_inv h; cases h; exact ed_repS h1 h2 g
  · cases h
theorem ef_fdiv (ha : EF F a ma) (hb : EF F b mb) : EF F (.BinOp a .FloorDiv b pos) (eOp oDiv ma mb) := ef_op ha hb fun L L1 L2 d1 d2 v h h1 h2 => by
  unfold oDiv at h
  split at h
  · obtain ⟨g, h⟩ := gI_inv h; cases h; exact ed_fdivW g h1 h2
  · cases h
theorem ef_mod (ha : EF F a ma) (hb : EF F b mb) : EF F (.BinOp a .Mod b pos) (eOp oMod ma mb) := ef_op ha hb fun L L1 L2 d1 d2 v h h1 h2 => by
  unfold oMod at h
  split at h
  · obtain ⟨g, h⟩ := gI_inv h; cases h; exact ed_mod g h1 h2
  · cases h
theorem ef_pow (ha : EF F a ma) (hb : EF F b mb) : EF F (.BinOp a .Pow b pos) (eOp oPow ma mb) := ef_op ha hb fun L L1 L2 d1 d2 v h h1 h2 => by
  unfold oPow at h
  split at h
  · obtain ⟨g, h⟩ := gI_inv h; cases h; exact ed_powW g h1 h2
  · cases h
theorem EF.un {o : PyData → Option Vl} {e2 : Expr} (ha : EF F a ma) (ho : ∀ L L1 d v, o d = some v → ED F a L d L1 → EV F e2 L v L1) : EF F e2 (eUn o ma) := fun s v s' h => by
  obtain ⟨d1, s1, h1, k1, h⟩ := ha.da h
  obtain ⟨ho2, rfl⟩ := rO_inv h
  exact ⟨ho _ _ _ _ ho2 h1, k1⟩
theorem ef_neg (ha : EF F a ma) : EF F (.UnaryOp .USub a pos) (eUn oNeg ma) := ha.un fun L L1 d v h h1 => by
  unfold oNeg at h
  split at h
  · cases h; exact ed_neg h1
  · cases h

/-! ### comparisons -/
theorem cf_op {op : CmpOp} {o : PyData → PyData → Option Bool} (ha : EF F a ma) (hb : EF F b mb) (ho : ∀ L L1 L2 d1 d2 k, o d1 d2 = some k → ED F a L d1 L1 → ED F b L1 d2 L2 → CD F (.Compare a [op] [b] pos) L k L2) : CF F (.Compare a [op] [b] pos) (cOp o ma mb) := fun s v s' h => by
  obtain ⟨d1, s1, h1, k1, h⟩ := ha.da h
  obtain ⟨d2, s2, h2, k2, h⟩ := hb.da h
  obtain ⟨ho2, rfl⟩ := rO_inv h
  exact ⟨ho _ _ _ _ _ _ ho2 h1 h2, k1.trans k2⟩
theorem cf_lt (ha : EF F a ma) (hb : EF F b mb) : CF F (.Compare a [.Lt] [b] pos) (cOp oLt ma mb) := cf_op ha hb fun L L1 L2 d1 d2 v h h1 h2 => by
  unfold oLt at h
  split at h
  · cases h; exact cd_lt h1 h2
  · cases h
theorem cf_le (ha : EF F a ma) (hb : EF F b mb) : CF F (.Compare a [.LtE] [b] pos) (cOp oLe ma mb) := cf_op ha hb fun L L1 L2 d1 d2 v h h1 h2 => by
  unfold oLe at h
  split at h
  · cases h; exact cd_le h1 h2
  · cases h
theorem cf_gt (ha : EF F a ma) (hb : EF F b mb) : CF F (.Compare a [.Gt] [b] pos) (cOp oGt ma mb) := cf_op ha hb fun L L1 L2 d1 d2 v h h1 h2 => by
  unfold oGt at h
  split at h
  · cases h; exact cd_gt h1 h2
  · cases h
theorem cf_ge (ha : EF F a ma) (hb : EF F b mb) : CF F (.Compare a [.GtE] [b] pos) (cOp oGe ma mb) := cf_op ha hb fun L L1 L2 d1 d2 v h h1 h2 => by
  unfold oGe at h
  split at h
  · cases h; exact cd_ge h1 h2
  · cases h
theorem cf_opH {op : CmpOp} {o : PyData → PyData → Option Bool} {mb : Sx → Re PyData} (ha : EF F a ma) (hb : HF F b mb) (ho : ∀ L L1 L2 d1 d2 k, o d1 d2 = some k → ED F a L d1 L1 → HD F b L1 d2 L2 → CD F (.Compare a [op] [b] pos) L k L2) : CF F (.Compare a [op] [b] pos) (cOpH o ma mb) := fun s v s' h => by
  obtain ⟨d1, s1, h1, k1, h⟩ := ha.da h
  obtain ⟨d2, s2, h2, k2, h⟩ := hb.bd h
  obtain ⟨ho2, rfl⟩ := rO_inv h
  exact ⟨ho _ _ _ _ _ _ ho2 h1 h2, k1.trans k2⟩
theorem cf_eq {mb : Sx → Re PyData} (ha : EF F a ma) (hb : HF F b mb) : CF F (.Compare a [.Eq] [b] pos) (cOpH oEq ma mb) := cf_opH ha hb fun L L1 L2 d1 d2 v h h1 h2 => by
  unfold oEq at h
  split at h
  · cases h; exact cd_eqI h1 (h2.edF rfl)
  · cases h; exact cd_eqS h1 (h2.edF rfl)
  · unfold oEqD at h
    obtain ⟨g, h⟩ := gI_inv h; cases h; exact cd_eqD h1 h2 g.1 g.2
theorem cf_ne {mb : Sx → Re PyData} (ha : EF F a ma) (hb : HF F b mb) : CF F (.Compare a [.NotEq] [b] pos) (cOpH oNe ma mb) := cf_opH ha hb fun L L1 L2 d1 d2 v h h1 h2 => by
  unfold oNe oEq at h
  rw [Option.map_eq_some_iff] at h
  obtain ⟨k, h, rfl⟩ := h
  split at h
  · cases h; exact cd_neI h1 (h2.edF rfl)
  · cases h; exact cd_neS h1 (h2.edF rfl)
  · unfold oEqD at h
    obtain ⟨g, h⟩ := gI_inv h; cases h; exact cd_neD h1 h2 g.1 g.2
theorem strsOf_inv : ∀ {ds : List PyData} {ws : List Str}, strsOf ds = some ws → ds = ws.map .str
  | [], _, h => by cases h; rfl
  | .str x :: ds, _, h => by
    unfold strsOf at h
    rw [Option.map_eq_some_iff] at h
    obtain ⟨k, h, rfl⟩ := h
    rw [strsOf_inv h]
    rfl
  | .none :: _, _, h => by cases h
  | .bool _ :: _, _, h => by cases h
  | .int _ :: _, _, h => by cases h
  | .list _ :: _, _, h => by cases h
  | .tuple _ :: _, _, h => by cases h
  | .dict _ :: _, _, h => by cases h
theorem sign_inv {x : Str} {c : Nat} (h : x.cps.toList = [c]) : x = ⟨#[c]⟩ := by
  obtain ⟨v⟩ := x
  have h : v.toList = [c] := h
  have e : v = #[c] := by
    apply Array.toList_inj.mp
    rw [h]
  rw [e]
theorem kvOf_inv : ∀ {kvs : List (PyData × PyData)} {l : List (Str × Option Int)}, kvOf kvs = some l → vsD l = kvs
  | [], l, h => by cases h; rfl
  | (a, b) :: r, l, h => by
    unfold kvOf at h
    split at h
    · next e => cases e
    · next k n r2 e =>
      cases e
      rw [Option.map_eq_some_iff] at h
      obtain ⟨l2, h, rfl⟩ := h
      rw [← kvOf_inv h]
      rfl
    · next k r2 e =>
      cases e
      rw [Option.map_eq_some_iff] at h
      obtain ⟨l2, h, rfl⟩ := h
      rw [← kvOf_inv h]
      rfl
    · cases h
theorem cf_in {mb : Sx → Re PyData} (ha : EF F a ma) (hb : HF F b mb) (hm : behindInMarks .In b = false := by rfl) : CF F (.Compare a [.In] [b] pos) (cOpH oIn ma mb) := cf_opH ha hb fun L L1 L2 d1 d2 v h h1 h2 => by
  unfold oIn at h
  split at h
  · rw [Option.bind_eq_some_iff] at h
    obtain ⟨l, h3, h⟩ := h
    split at h
    · cases h
    · next hne =>
      cases h
      rw [← kvOf_inv h3] at h2
      exact cd_inKH h1 h2 (fun e => hne (by rw [e]; rfl)) hm
  · obtain ⟨g, h⟩ := gI_inv h; cases h; exact cd_inD h1 h2 g.1 g.2 hm
  · rw [Option.map_eq_some_iff] at h
    obtain ⟨ws, h, rfl⟩ := h
    rw [strsOf_inv h] at h2
    exact cd_inTH h1 h2 hm
  · split at h
    · next c e =>
      cases h
      rw [sign_inv e] at h1
      refine cd_cmp (r := rInS) (fun _ => op_inS) hm h1 (h2.edF rfl) fun u v G H gh r1 r2 Q q => ?_
      cases r1
      cases r2
      exact ⟨c, _, rfl, rfl, q⟩
    · cases h
  · cases h
theorem cf_nin {mb : Sx → Re PyData} (ha : EF F a ma) (hb : HF F b mb) (hm : behindInMarks .NotIn b = false := by rfl) : CF F (.Compare a [.NotIn] [b] pos) (cOpH oNin ma mb) := cf_opH ha hb fun L L1 L2 d1 d2 v h h1 h2 => by
  unfold oNin at h
  split at h
  · cases h
  rw [Option.map_eq_some_iff] at h
  obtain ⟨k, h, rfl⟩ := h
  unfold oIn at h
  split at h
  · next nd => exact absurd rfl (nd _)
  · obtain ⟨g, h⟩ := gI_inv h; cases h; exact cd_ninD h1 h2 g.1 g.2 hm
  · rw [Option.map_eq_some_iff] at h
    obtain ⟨ws, h, rfl⟩ := h
    rw [strsOf_inv h] at h2
    exact cd_ninTH h1 h2 hm
  · split at h
    · next c e =>
      cases h
      rw [sign_inv e] at h1
      refine cd_cmp (r := rNotInS) (fun _ => op_notInS) hm h1 (h2.edF rfl) fun u v G H gh r1 r2 Q q => ?_
      cases r1
      cases r2
      exact ⟨c, _, rfl, rfl, q⟩
    · cases h
  · cases h
theorem cf_eqV {mb : Sx → Re PyData} (i : Nat) (hb : HF F b mb) (hN : F.N[i]? = some x := by rfl) (hv : Vis F.sc x := by first | exact Or.inl rfl | exact Or.inr (Or.inl rfl) | exact Or.inr (Or.inr rfl)) (hd : (x == ("__debug__" : Str)) = false := by decide) (hcd : (x == ("__classdict__" : Str)) = false := by decide) : CF F (.Compare (.Name x p) [.Eq] [b] pos) (cOpV oEqD i mb) := fun s v s' h => by
  replace h := bd_inv h
  obtain ⟨d0, s0, g0, h⟩ := h
  obtain ⟨a0, e0⟩ := hVar_inv g0
  subst e0
  replace h := hb.bd h
  obtain ⟨d2, s1, h2, k2, h⟩ := h
  replace h := bd_inv h
  obtain ⟨d1, s2, g1, h⟩ := h
  obtain ⟨a1, e1⟩ := hVar_inv g1
  subst e1
  obtain ⟨ho2, e2⟩ := rO_inv h
  subst e2
  unfold oEqD at ho2
  obtain ⟨g, ho2⟩ := gI_inv ho2
  cases ho2
  exact ⟨cd_eqV i a0 h2 a1 g.1 g.2 hN hv hd hcd, k2⟩
theorem cf_neV {mb : Sx → Re PyData} (i : Nat) (hb : HF F b mb) (hN : F.N[i]? = some x := by rfl) (hv : Vis F.sc x := by first | exact Or.inl rfl | exact Or.inr (Or.inl rfl) | exact Or.inr (Or.inr rfl)) (hd : (x == ("__debug__" : Str)) = false := by decide) (hcd : (x == ("__classdict__" : Str)) = false := by decide) : CF F (.Compare (.Name x p) [.NotEq] [b] pos) (cOpV oNeD i mb) := fun s v s' h => by
  replace h := bd_inv h
  obtain ⟨d0, s0, g0, h⟩ := h
  obtain ⟨a0, e0⟩ := hVar_inv g0
  subst e0
  replace h := hb.bd h
  obtain ⟨d2, s1, h2, k2, h⟩ := h
  replace h := bd_inv h
  obtain ⟨d1, s2, g1, h⟩ := h
  obtain ⟨a1, e1⟩ := hVar_inv g1
  subst e1
  obtain ⟨ho2, e2⟩ := rO_inv h
  subst e2
  unfold oNeD oEqD at ho2
  rw [Option.map_eq_some_iff] at ho2
  obtain ⟨k, ho2, rfl⟩ := ho2
  obtain ⟨g, ho2⟩ := gI_inv ho2
  cases ho2
  exact ⟨cd_neV i a0 h2 a1 g.1 g.2 hN hv hd hcd, k2⟩
theorem CF.ef {t : Tm} (h : CF F e t) : EF F e (eC t) := fun s v s' q => by
  obtain ⟨k, s1, h1, q⟩ := bd_inv q
  cases q
  exact ⟨CD.ed (h _ _ _ h1).1, (h _ _ _ h1).2⟩
theorem CF.bf {t : Tm} (h : CF F e t) : BF F e t := fun s v s' q => ⟨CD.bd (h _ _ _ q).1, (h _ _ _ q).2⟩
theorem cf_isN {j0 : Nat} {pos' : Pos} (h : EF F a ma) : CF F (.Compare a [.Is] [.Constant .none j0 pos'] pos) (cIsN ma) := fun s v s' q => by
  obtain ⟨w, s1, h1, q⟩ := bd_inv q
  cases q
  obtain ⟨h2, k⟩ := h _ _ _ h1
  refine ⟨?_, k⟩
  cases w with
  | d d => exact cd_isN h2
  | l ds => exact cd_isN (d := .list ds) (FD.ed h2)
  | x x => exact cd_isN (d := xD x) h2
theorem cf_notN {j0 : Nat} {pos' : Pos} (h : EF F a ma) : CF F (.Compare a [.IsNot] [.Constant .none j0 pos'] pos) (cNotN ma) := fun s v s' q => by
  obtain ⟨w, s1, h1, q⟩ := bd_inv q
  cases q
  obtain ⟨h2, k⟩ := h _ _ _ h1
  refine ⟨?_, k⟩
  cases w with
  | d d => exact cd_notN h2
  | l ds => exact cd_notN (d := .list ds) (FD.ed h2)
  | x x => exact cd_notN (d := xD x) h2
end
end DI
namespace DI
open PySem PyProof.Rows L2 DL LamX
variable [TabL] [MP : Mp]
section
variable {F : Fam} {Y : FamW} {e a b c tg iter elt : Expr} {es : List Expr} {m ma mb mc : Em} {s s' s1 : Sx} {v : Vl} {d : PyData} {ds : List PyData} {pos p p2 p3 p4 : Pos} {x y : Str} {i : Nat} {α β : Type}
/-! ### chains -/
def OpI (F : Fam) (op : CmpOp) (o : PyData → PyData → Option Bool) : Prop := ∃ r : R2, (∀ j, OpR (F.x j) (compareOp op) r) ∧ ∀ d1 d2 k, o d1 d2 = some k → ∀ (x y : V) (G H : Hp), Rp G x d1 → Rp G y d2 → ∀ Q : VK, Q (.bl k) H → r x y H Q
theorem opI_lt : OpI F .Lt oLt := ⟨_, fun _ => op_lt, fun d1 d2 k h x y G H r1 r2 Q q => by
  unfold oLt at h
  split at h
  · cases h; cases r1; cases r2; exact ⟨_, _, rfl, rfl, q⟩
  · cases h⟩
theorem opI_le : OpI F .LtE oLe := ⟨_, fun _ => op_le, fun d1 d2 k h x y G H r1 r2 Q q => by
  unfold oLe at h
  split at h
  · cases h; cases r1; cases r2; exact ⟨_, _, rfl, rfl, q⟩
  · cases h⟩
theorem cf_ch {op op' : CmpOp} {o1 o2 : PyData → PyData → Option Bool} (h1 : OpI F op o1) (h2 : OpI F op' o2) (ha : EF F a ma) (hb : EF F b mb) (hc : EF F c mc) (hmk : lastMarks [op, op'] [b, c] = false := by rfl) : CF F (.Compare a [op, op'] [b, c] pos) (cCh o1 o2 ma mb mc) := fun s v s' h => by
  obtain ⟨r1, p1, q1⟩ := h1
  obtain ⟨r2, p2, q2⟩ := h2
  replace h := ha.da h
  obtain ⟨x, s1, h1, k1, h⟩ := h
  replace h := hb.da h
  obtain ⟨y, s2, h2, k2, h⟩ := h
  split at h
  · next e1 =>
    replace h := hc.da h
    obtain ⟨z, s3, h3, k3, h⟩ := h
    replace h := rO_inv h
    obtain ⟨h, e5⟩ := h
    subst e5
    exact ⟨cd_chT p1 p2 h1 h2 h3 (q1 _ _ _ e1) (q2 _ _ _ h) hmk, (k1.trans k2).trans k3⟩
  · next e1 =>
    cases h
    exact ⟨cd_chF p1 p2 h1 h2 (q1 _ _ _ e1) hmk, k1.trans k2⟩
  · cases h
/-! ### tests -/
theorem bf_tru {ma : Sx → Re PyData} (ha : HF F a ma) (he : ∀ X : Cx, ∀ whole, isTrue a X.env whole = (do let v ← whole; standAt a.pos; holding [v] (truthy v)) := by intro _ _; rfl) : BF F a (tTru ma) := fun s v s' h => by
  replace h := ha.bd h
  obtain ⟨d, s1, h1, k1, h⟩ := h
  replace h := rO_inv h
  obtain ⟨h, e5⟩ := h
  subst e5
  refine ⟨?_, k1⟩
  unfold truD at h
  split at h
  · cases h; exact bd_tru h1 (by rfl) he
  · cases h; exact bd_tru h1 (by rfl) he
  · cases h; exact bd_tru h1 (by rfl) he
  · cases h; exact bd_tru h1 (by rfl) he
  · cases h; exact bd_tru h1 (by rfl) he
  · replace h := gI_inv h; obtain ⟨g, h⟩ := h; cases h; exact bd_truS (h1.edF rfl) g he
  · cases h
theorem bf_not {t : Tm} (h : BF F e t) : BF F (.UnaryOp .Not e pos) (tNot t) := fun s v s' q => by
  replace q := h.bd q
  obtain ⟨k, s1, h1, k1, q⟩ := q
  cases q
  exact ⟨bd_not h1, k1⟩
theorem WF.bf {t : Tm} (h : WF F e t) : BF F e t := fun s v s' q => ⟨WD.bd (h _ _ _ q).1, (h _ _ _ q).2⟩
theorem wf_and1 {t : Tm} (h : BF F a t) : WF F (.BoolOp .And [a] pos) t := fun s v s' q => ⟨wd_and1 (h _ _ _ q).1, (h _ _ _ q).2⟩
theorem wf_or1 {t : Tm} (h : BF F a t) : WF F (.BoolOp .Or [a] pos) t := fun s v s' q => ⟨wd_or1 (h _ _ _ q).1, (h _ _ _ q).2⟩
theorem wf_and {t u : Tm} (h : BF F a t) (h2 : WF F (.BoolOp .And (b :: es) pos) u) : WF F (.BoolOp .And (a :: b :: es) pos) (tAnd t u) := fun s v s' q => by
  replace q := h.bd q
  obtain ⟨k, s1, h1, k1, q⟩ := q
  cases k with
  | true =>
    have q : u s1 = .ok v s' := q
    exact ⟨wd_andT h1 (h2 _ _ _ q).1, k1.trans (h2 _ _ _ q).2⟩
  | false =>
    have q : Re.ok false s1 = .ok v s' := q
    cases q
    exact ⟨wd_andF h1, k1⟩
theorem wf_or {t u : Tm} (h : BF F a t) (h2 : WF F (.BoolOp .Or (b :: es) pos) u) : WF F (.BoolOp .Or (a :: b :: es) pos) (tOr t u) := fun s v s' q => by
  replace q := h.bd q
  obtain ⟨k, s1, h1, k1, q⟩ := q
  cases k with
  | false =>
    have q : u s1 = .ok v s' := q
    exact ⟨wd_orF h1 (h2 _ _ _ q).1, k1.trans (h2 _ _ _ q).2⟩
  | true =>
    have q : Re.ok true s1 = .ok v s' := q
    cases q
    exact ⟨wd_orT h1, k1⟩
/-! values -/
theorem ef_one {op : BoolOp} (h : EF F a ma) : EF F (.BoolOp op [a] pos) ma := fun s v s' q => by
  obtain ⟨h1, k⟩ := h _ _ _ q
  refine ⟨?_, k⟩
  cases v with
  | d d => obtain ⟨te, pe, run⟩ := h1; exact ⟨te, fun j => pe_one (pe j), run⟩
  | l ds => obtain ⟨te, pe, run⟩ := h1; exact ⟨te, fun j => pe_one (pe j), run⟩
  | x x => obtain ⟨te, pe, run⟩ := h1; exact ⟨te, fun j => pe_one (pe j), run⟩
theorem ef_and (ha : EF F a ma) (hb : EF F (.BoolOp .And (b :: es) pos) mb) : EF F (.BoolOp .And (a :: b :: es) pos) (eAnd ma mb) := fun s v s' h => by
  replace h := ha.da h
  obtain ⟨x, s1, h1, k1, h⟩ := h
  split at h
  · obtain ⟨y, s2, h2, k2, h⟩ := hb.da h
    cases h
    exact ⟨ed_andTG h1 h2, k1.trans k2⟩
  · cases h
    exact ⟨ed_andFG h1, k1⟩
  · cases h
theorem ef_or (ha : EF F a ma) (hb : EF F (.BoolOp .Or (b :: es) pos) mb) : EF F (.BoolOp .Or (a :: b :: es) pos) (eOr ma mb) := fun s v s' h => by
  replace h := ha.da h
  obtain ⟨x, s1, h1, k1, h⟩ := h
  split at h
  · cases h
    exact ⟨ed_orTG h1, k1⟩
  · obtain ⟨y, s2, h2, k2, h⟩ := hb.da h
    cases h
    exact ⟨ed_orFG h1 h2, k1.trans k2⟩
  · cases h
theorem ef_not (ha : EF F a ma) : EF F (.UnaryOp .Not a pos) (eNot ma) := fun s v s' h => by
  replace h := ha.da h
  obtain ⟨x, s1, h1, k1, h⟩ := h
  split at h
  · cases h
    exact ⟨ed_not h1, k1⟩
  · cases h
theorem ef_if {t : Tm} (ht : BF F c t) (ha : EF F a ma) (hb : EF F b mb) : EF F (.IfExp c a b pos) (eIf t ma mb) := fun s v s' h => by
  replace h := ht.bd h
  obtain ⟨k, s1, h1, k1, h⟩ := h
  cases k with
  | true =>
    have h : ma s1 = .ok v s' := h
    obtain ⟨h2, k2⟩ := ha _ _ _ h
    refine ⟨?_, k1.trans k2⟩
    cases v with
    | d d => exact ed_if h1 (fun _ => h2) (fun z => by cases z)
    | l ds => exact fd_if h1 (fun _ => h2) (fun z => by cases z)
    | x x => exact ed_if (d := xD x) h1 (fun _ => h2) (fun z => by cases z)
  | false =>
    have h : mb s1 = .ok v s' := h
    obtain ⟨h2, k2⟩ := hb _ _ _ h
    refine ⟨?_, k1.trans k2⟩
    cases v with
    | d d => exact ed_if h1 (fun z => by cases z) (fun _ => h2)
    | l ds => exact fd_if h1 (fun z => by cases z) (fun _ => h2)
    | x x => exact ed_if (d := xD x) h1 (fun z => by cases z) (fun _ => h2)
/-! ### displays -/
theorem af_nil : AF F [] aN := fun s ds s' h => by cases h; exact ⟨ad_nil, .refl, rfl⟩
theorem af_cons {ms : Am} (h : EF F e m) (h2 : AF F es ms) (hs : ∀ env, starEach (e :: es) env = (false, eval e env) :: starEach es env := by intro _; rfl) : AF F (e :: es) (aC m ms) := fun s ds s' q => by
  replace q := h.da q
  obtain ⟨d, s1, h1, k1, q⟩ := q
  replace q := h2.bd q
  obtain ⟨ds2, s2, h3, k2, l2, q⟩ := q
  cases q
  exact ⟨ad_cons h1 h3 hs, k1.trans k2, by rw [List.length_cons, List.length_cons, l2]⟩
theorem ef_lst {ms : Am} (h : AF F es ms) (hl : es.length ≤ 100000 := by decide) : EF F (.List es pos) (eLst ms) := fun s v s' q => by
  replace q := h.bd q
  obtain ⟨ds, s1, h1, k1, l1, q⟩ := q
  cases q
  exact ⟨fd_lst h1 (by rw [l1]; exact hl), k1⟩
theorem ef_tup {ms : Am} {x1} (h : AF F es ms) (hl : es.length ≤ 100000 := by decide) : EF F (.Tuple es x1 pos) (eTup ms) := fun s v s' q => by
  replace q := h.bd q
  obtain ⟨ds, s1, h1, k1, l1, q⟩ := q
  cases q
  exact ⟨ed_tup h1 (by rw [l1]; exact hl), k1⟩
theorem ef_dict0 : EF F (.Dict [] [] pos) eDict0 := fun s v s' q => by cases q; exact ⟨ed_dict0, .refl⟩
/-- names, as they stand now -/
inductive NmF (F : Fam) : List Expr → List Nat → Prop
  | nil : NmF F [] []
  | cons {x : Str} {i : Nat} {pos : Pos} {es : List Expr} {is : List Nat} (hN : F.N[i]? = some x) (hv : Vis F.sc x) (hd : (x == ("__debug__" : Str)) = false) (hcd : (x == ("__classdict__" : Str)) = false) (h : NmF F es is) : NmF F (.Name x pos :: es) (i :: is)
theorem nm_nil : NmF F [] [] := .nil
theorem nm_cons {is : List Nat} (i : Nat) (h : NmF F es is) (hN : F.N[i]? = some x := by rfl) (hv : Vis F.sc x := by first | exact Or.inl rfl | exact Or.inr (Or.inl rfl) | exact Or.inr (Or.inr rfl)) (hd : (x == ("__debug__" : Str)) = false := by decide) (hcd : (x == ("__classdict__" : Str)) = false := by decide) : NmF F (.Name x pos :: es) (i :: is) := .cons hN hv hd hcd h
theorem hNames_inv : ∀ {is : List Nat} {s s' : Sx} {ds : List PyData}, hNames is s = .ok ds s' → s' = s ∧ AtSs (sls s) is ds
  | [], s, s', ds, h => by cases h; exact ⟨rfl, .nil⟩
  | i :: is, s, s', ds, h => by
    replace h := bd_inv h
    obtain ⟨d, s1, h1, h⟩ := h
    obtain ⟨a1, e1⟩ := hVar_inv h1
    subst e1
    replace h := bd_inv h
    obtain ⟨ds2, s2, h2, h⟩ := h
    obtain ⟨e2, a2⟩ := hNames_inv h2
    subst e2
    cases h
    exact ⟨rfl, .cons a1 a2⟩
theorem NmF.nms {is : List Nat} (h : NmF F es is) : Nms F es is := by
  induction h with
  | nil => exact .nil
  | cons hN hv hd hcd _ ih => exact .cons hN hv hd hcd ih
theorem hf_disp {is : List Nat} (h : NmF F es is) (hl : es.length ≤ 100 := by decide) : HF F (.List es pos) (hDisp is) := fun s v s' q => by
  replace q := bd_inv q
  obtain ⟨ds, s1, h1, q⟩ := q
  obtain ⟨e1, a1⟩ := hNames_inv h1
  subst e1
  cases q
  exact ⟨hd_disp h.nms a1 hl, .refl⟩
/-! ### items, slices -/
theorem ef_ix (ha : EF F a ma) (hb : EF F b mb) (hs : PlainIx b := by exact fun _ _ => rfl) : EF F (.Subscript a b pos) (eIx ma mb) := fun s v s' h => by
  replace h := ha.da h
  obtain ⟨x, s1, h1, k1, h⟩ := h
  replace h := hb.da h
  obtain ⟨y, s2, h2, k2, h⟩ := h
  replace h := rO_inv h
  obtain ⟨h, e5⟩ := h
  subst e5
  refine ⟨?_, k1.trans k2⟩
  unfold oIx at h
  split at h
  · rw [Option.map_eq_some_iff] at h
    obtain ⟨k, h, rfl⟩ := h
    exact ed_ixL h1 h2 h hs
  · rw [Option.map_eq_some_iff] at h
    obtain ⟨k, h, rfl⟩ := h
    exact ed_ixT h1 h2 h hs
  · rw [Option.bind_eq_some_iff] at h
    obtain ⟨l, h3, h⟩ := h
    rw [Option.map_eq_some_iff] at h
    obtain ⟨k, h, rfl⟩ := h
    rw [← kvOf_inv h3] at h1
    exact ed_ixK h1 h2 h hs
  · replace h := gI_inv h
    obtain ⟨g, h⟩ := h
    rw [Option.map_eq_some_iff] at h
    obtain ⟨k, h, rfl⟩ := h
    exact ed_ixS2 h1 h2 g h hs
  · cases h
theorem ef_ixV (i : Nat) (hb : EF F b mb) (hN : F.N[i]? = some y := by rfl) (hv : Vis F.sc y := by first | exact Or.inl rfl | exact Or.inr (Or.inl rfl) | exact Or.inr (Or.inr rfl)) (hd : (y == ("__debug__" : Str)) = false := by decide) (hcd : (y == ("__classdict__" : Str)) = false := by decide) (hs : PlainIx b := by exact fun _ _ => rfl) : EF F (.Subscript (.Name y p) b pos) (eIxV i mb) := fun s v s' h => by
  replace h := bd_inv h
  obtain ⟨d0, s0, g0, h⟩ := h
  obtain ⟨a0, e0⟩ := hVar_inv g0
  subst e0
  replace h := hb.da h
  obtain ⟨d2, s1, h2, k2, h⟩ := h
  replace h := bd_inv h
  obtain ⟨d1, s2, g1, h⟩ := h
  obtain ⟨a1, e1⟩ := hVar_inv g1
  subst e1
  replace h := rO_inv h
  obtain ⟨h, e2⟩ := h
  subst e2
  refine ⟨?_, k2⟩
  unfold oIxL at h
  split at h
  · rw [Option.map_eq_some_iff] at h
    obtain ⟨k, h, rfl⟩ := h
    exact ed_ixV i a0 h2 a1 h hN hv hd hcd hs
  · cases h
theorem of_none : OF F none oN := fun s o s' h => by cases h; exact ⟨od_none, .refl⟩
theorem of_some (h : EF F e m) : OF F (some e) (oS m) := fun s o s' q => by
  replace q := h.da q
  obtain ⟨d, s1, h1, k1, q⟩ := q
  split at q
  · cases q; exact ⟨od_some h1, k1⟩
  · cases q
theorem ef_sl {lo hi : Option Expr} {ml mh : Sx → Re (Option Int)} (ha : EF F a ma) (hl : OF F lo ml) (hh : OF F hi mh) : EF F (.Subscript a (.Slice lo hi none p2) pos) (eSl ma ml mh) := fun s v s' h => by
  replace h := ha.da h
  obtain ⟨x, s1, h1, k1, h⟩ := h
  replace h := hl.bd h
  obtain ⟨l, s2, h2, k2, h⟩ := h
  replace h := hh.bd h
  obtain ⟨u, s3, h3, k3, h⟩ := h
  replace h := rO_inv h
  obtain ⟨h, e5⟩ := h
  subst e5
  refine ⟨?_, (k1.trans k2).trans k3⟩
  unfold oCut at h
  split at h
  · cases h; exact fd_slice h1 h2 h3
  · replace h := gI_inv h; obtain ⟨g, h⟩ := h; cases h; exact ed_slS h1 h2 h3 g
  · cases h
theorem ef_slV {lo hi : Option Expr} {ml mh : Sx → Re (Option Int)} (i : Nat) (hl : OF F lo ml) (hh : OF F hi mh) (hN : F.N[i]? = some y := by rfl) (hv : Vis F.sc y := by first | exact Or.inl rfl | exact Or.inr (Or.inl rfl) | exact Or.inr (Or.inr rfl)) (hd : (y == ("__debug__" : Str)) = false := by decide) (hcd : (y == ("__classdict__" : Str)) = false := by decide) : EF F (.Subscript (.Name y p) (.Slice lo hi none p2) pos) (eSlV i ml mh) := fun s v s' h => by
  replace h := bd_inv h
  obtain ⟨d0, s0, g0, h⟩ := h
  obtain ⟨a0, e0⟩ := hVar_inv g0
  subst e0
  replace h := hl.bd h
  obtain ⟨l, s2, h2, k2, h⟩ := h
  replace h := hh.bd h
  obtain ⟨u, s3, h3, k3, h⟩ := h
  replace h := bd_inv h
  obtain ⟨d1, s4, g1, h⟩ := h
  obtain ⟨a1, e1⟩ := hVar_inv g1
  subst e1
  replace h := rO_inv h
  obtain ⟨h, e2⟩ := h
  subst e2
  refine ⟨?_, k2.trans k3⟩
  unfold oCutL at h
  split at h
  · cases h; exact fd_slV i a0 h2 h3 a1 hN hv hd hcd
  · cases h
theorem ef_rev {k : Nat} {ma : Sx → Re PyData} (ha : LF F a ma) : EF F (.Subscript a (.Slice none none (some (.UnaryOp .USub (.Constant (.int 1) k p) p2)) p3) pos) (eLk oRev ma) := fun s v s' h => by
  replace h := ha.bd h
  obtain ⟨x, s1, h1, k1, h⟩ := h
  replace h := rO_inv h
  obtain ⟨h, e5⟩ := h
  subst e5
  refine ⟨?_, k1⟩
  unfold oRev at h
  split at h
  · cases h; exact fd_rev h1
  · cases h
/-! ### built-ins -/
theorem EF.lk {o : PyData → Option Vl} {e2 : Expr} {ma : Sx → Re PyData} (ha : LF F a ma) (ho : ∀ L L1 d v, o d = some v → LKD F a L d L1 → EV F e2 L v L1) : EF F e2 (eLk o ma) := fun s v s' h => by
  replace h := ha.bd h
  obtain ⟨d1, s1, h1, k1, h⟩ := h
  obtain ⟨ho2, rfl⟩ := rO_inv h
  exact ⟨ho _ _ _ _ ho2 h1, k1⟩
theorem ef_len {ma : Sx → Re PyData} (ha : LF F e ma) (hm : F.mg "len" = none) (hg : GlF F "len" := by rfl) (hs : ∀ env, starEach [e] env = (false, eval e env) :: starEach [] env := by intro _; rfl) : EF F (.Call (.Name "len" p) [e] [] pos) (eLk oLen ma) := EF.lk ha fun L L1 d v h h1 => by
  unfold oLen at h
  split at h
  · cases h; exact ed_len h1 hm hg hs
  · cases h; exact ed_lenT h1 hm hg hs
  · replace h := gI_inv h; obtain ⟨g, h⟩ := h; cases h; exact ed_lenS h1 g hm hg hs
  · cases h
theorem ef_int1 (ha : EF F e m) (hm : F.mg "int" = none) (hg : GlF F "int" := by rfl) (hs : ∀ env, starEach [e] env = (false, eval e env) :: starEach [] env := by intro _; rfl) : EF F (.Call (.Name "int" p) [e] [] pos) (eUn oInt m) := ha.un fun L L1 d v h h1 => by
  unfold oInt at h
  split at h
  · cases h; exact ed_int1 h1 hm hg hs
  · cases h; exact ed_intB h1 hm hg hs
  · replace h := gI_inv h
    obtain ⟨g, h⟩ := h
    rw [Option.map_eq_some_iff] at h
    obtain ⟨k, h, rfl⟩ := h
    exact ed_intS h1 h g hm hg hs
  · cases h
theorem ef_str1 (ha : EF F e m) (hm : F.mg "str" = none) (hg : GlF F "str" := by rfl) (hs : ∀ env, starEach [e] env = (false, eval e env) :: starEach [] env := by intro _; rfl) : EF F (.Call (.Name "str" p) [e] [] pos) (eUn oStr m) := ha.un fun L L1 d v h h1 => by
  unfold oStr at h
  split at h
  · replace h := gI_inv h; obtain ⟨g, h⟩ := h; cases h; exact ed_strI h1 g hm hg hs
  · cases h
theorem rOk_inv (h : rOk d = true) : ReprOk d := by
  unfold rOk at h
  simp only [Bool.and_eq_true, decide_eq_true_eq, Bool.not_eq_true'] at h
  obtain ⟨h1, h2, h3, h4, h5⟩ := h
  exact ⟨h1, h2, h3, h4, h5⟩
theorem rOk_of (h : ReprOk d) : rOk d = true := by
  unfold rOk
  rw [h.sh, h.nd, h.di, decide_eq_true h.dp, decide_eq_true h.ln]
  rfl
theorem flatB_inv : ∀ {d : PyData}, flatB d = true → FlatOk d
  | .none, _ => trivial
  | .bool _, _ => trivial
  | .int i, h => of_decide_eq_true (p := i.natAbs.log2 < 1920) h
  | .str x, h => of_decide_eq_true (p := (reprText x).length ≤ sizeLine) h
  | .dict [], _ => trivial
  | .dict (_ :: _), h => by cases h
  | .list _, h => by cases h
  | .tuple _, h => by cases h
theorem ef_repr {ma : Sx → Re PyData} (ha : HF F e ma) (hm : F.mg "repr" = none) (hg : GlF F "repr" := by rfl) (hs : ∀ env, starEach [e] env = (false, eval e env) :: starEach [] env := by intro _; rfl) : EF F (.Call (.Name "repr" p) [e] [] pos) (eLk oRepr ma) := fun s v s' h => by
  replace h := ha.bd h
  obtain ⟨d, s1, h1, k1, h⟩ := h
  replace h := rO_inv h
  obtain ⟨h, e5⟩ := h
  subst e5
  refine ⟨?_, k1⟩
  unfold oRepr at h
  replace h := gI_inv h
  obtain ⟨g, h⟩ := h
  cases h
  rw [Bool.or_eq_true] at g
  rcases g with g | g
  · exact ed_repr h1 (rOk_inv g) hm hg hs
  · exact ed_reprF h1 (flatB_inv g) hm hg hs
theorem ef_list {ma : Sx → Re PyData} (ha : LF F e ma) (hm : F.mg "list" = none) (hg : GlF F "list" := by rfl) (hs : ∀ env, starEach [e] env = (false, eval e env) :: starEach [] env := by intro _; rfl) : EF F (.Call (.Name "list" p) [e] [] pos) (eLk oList ma) := EF.lk ha fun L L1 d v h h1 => by
  unfold oList at h
  split at h
  · cases h; exact fd_list h1 hm hg hs
  · cases h
theorem ef_tuple {ma : Sx → Re PyData} (ha : LF F e ma) (hm : F.mg "tuple" = none) (hg : GlF F "tuple" := by rfl) (hs : ∀ env, starEach [e] env = (false, eval e env) :: starEach [] env := by intro _; rfl) : EF F (.Call (.Name "tuple" p) [e] [] pos) (eLk oTuple ma) := EF.lk ha fun L L1 d v h h1 => by
  unfold oTuple at h
  split at h
  · cases h; exact ed_tupL h1 hm hg hs
  · cases h
theorem intsOf_inv : ∀ {ds : List PyData} {ws : List Int}, intsOf ds = some ws → ds = ws.map .int
  | [], _, h => by cases h; rfl
  | .int x :: ds, _, h => by
    unfold intsOf at h
    rw [Option.map_eq_some_iff] at h
    obtain ⟨k, h, rfl⟩ := h
    rw [intsOf_inv h]
    rfl
  | .none :: _, _, h => by cases h
  | .bool _ :: _, _, h => by cases h
  | .str _ :: _, _, h => by cases h
  | .list _ :: _, _, h => by cases h
  | .tuple _ :: _, _, h => by cases h
  | .dict _ :: _, _, h => by cases h
theorem intsOf_map (ns : List Int) : intsOf (ns.map .int) = some ns := by
  induction ns with
  | nil => rfl
  | cons n ns ih =>
    show (intsOf (ns.map .int)).map (n :: ·) = _
    rw [ih]
    rfl
theorem boolsOf_inv : ∀ {ds : List PyData} {ws : List Bool}, boolsOf ds = some ws → ds = ws.map .bool
  | [], _, h => by cases h; rfl
  | .bool x :: ds, _, h => by
    unfold boolsOf at h
    rw [Option.map_eq_some_iff] at h
    obtain ⟨k, h, rfl⟩ := h
    rw [boolsOf_inv h]
    rfl
  | .none :: _, _, h => by cases h
  | .int _ :: _, _, h => by cases h
  | .str _ :: _, _, h => by cases h
  | .list _ :: _, _, h => by cases h
  | .tuple _ :: _, _, h => by cases h
  | .dict _ :: _, _, h => by cases h
theorem boolsOf_map (ns : List Bool) : boolsOf (ns.map .bool) = some ns := by
  induction ns with
  | nil => rfl
  | cons n ns ih =>
    show (boolsOf (ns.map .bool)).map (n :: ·) = _
    rw [ih]
    rfl
theorem strsOf_map (ns : List Str) : strsOf (ns.map .str) = some ns := by
  induction ns with
  | nil => rfl
  | cons n ns ih =>
    show (strsOf (ns.map .str)).map (n :: ·) = _
    rw [ih]
    rfl
theorem ins_perm (n : Int) : ∀ ms, (ins n ms).Perm (n :: ms)
  | [] => .refl _
  | m :: ms => by
    unfold ins
    split
    · exact .refl _
    · exact ((ins_perm n ms).cons m).trans (.swap n m ms)
theorem isort_perm : ∀ ns, (isort ns).Perm ns
  | [] => .refl _
  | n :: ns => (ins_perm n _).trans ((isort_perm ns).cons n)
theorem ins_sorted (n : Int) : ∀ {ms : List Int}, ms.Pairwise (· ≤ ·) → (ins n ms).Pairwise (· ≤ ·)
  | [], _ => by simp [ins]
  | m :: ms, h => by
    unfold ins
    obtain ⟨h1, h2⟩ := List.pairwise_cons.mp h
    split
    · next q =>
      refine List.pairwise_cons.mpr ⟨fun x hx => ?_, h⟩
      rcases List.mem_cons.mp hx with rfl | hx
      · exact q
      · exact Int.le_trans q (h1 x hx)
    · next q =>
      refine List.pairwise_cons.mpr ⟨fun x hx => ?_, ins_sorted n h2⟩
      rcases List.mem_cons.mp ((ins_perm n ms).mem_iff.mp hx) with rfl | hx
      · omega
      · exact h1 x hx
theorem isort_sorted : ∀ ns, (isort ns).Pairwise (· ≤ ·)
  | [] => .nil
  | n :: ns => ins_sorted n (isort_sorted ns)
theorem ef_sorted {ma : Sx → Re PyData} (ha : LF F e ma) (hm : F.mg "sorted" = none) (hg : GlF F "sorted" := by rfl) (hs : ∀ env, starEach [e] env = (false, eval e env) :: starEach [] env := by intro _; rfl) : EF F (.Call (.Name "sorted" p) [e] [] pos) (eLk oSorted ma) := EF.lk ha fun L L1 d v h h1 => by
  unfold oSorted at h
  split at h
  · rw [Option.map_eq_some_iff] at h
    obtain ⟨k, h, rfl⟩ := h
    rw [intsOf_inv h] at h1
    exact fd_sorted h1 ⟨isort_perm k, isort_sorted k⟩ hm hg hs
  · cases h
theorem minI_spec : ∀ (ns : List Int) (m : Int), (minI m ns = m ∨ minI m ns ∈ ns) ∧ minI m ns ≤ m ∧ ∀ n ∈ ns, minI m ns ≤ n
  | [], m => ⟨.inl rfl, Int.le_refl _, fun _ h => by cases h⟩
  | n :: ns, m => by
    unfold minI
    obtain ⟨h1, h2, h3⟩ := minI_spec ns (if n < m then n else m)
    refine ⟨?_, ?_, fun k hk => ?_⟩
    · rcases h1 with h | h
      · rw [h]
        split
        · exact .inr (List.mem_cons_self ..)
        · exact .inl rfl
      · exact .inr (List.mem_cons_of_mem _ h)
    · refine Int.le_trans h2 ?_
      split <;> omega
    · rcases List.mem_cons.mp hk with rfl | hk
      · refine Int.le_trans h2 ?_
        split <;> omega
      · exact h3 k hk
theorem ef_min {ma : Sx → Re PyData} (ha : LF F e ma) (hm : F.mg "min" = none) (hg : GlF F "min" := by rfl) (hs : ∀ env, starEach [e] env = (false, eval e env) :: starEach [] env := by intro _; rfl) : EF F (.Call (.Name "min" p) [e] [] pos) (eLk oMin ma) := EF.lk ha fun L L1 d v h h1 => by
  unfold oMin at h
  split at h
  · rw [Option.bind_eq_some_iff] at h
    obtain ⟨k, h, h2⟩ := h
    rw [intsOf_inv h] at h1
    cases k with
    | nil => cases h2
    | cons n ns =>
      cases h2
      obtain ⟨g1, g2, g3⟩ := minI_spec ns n
      refine ed_min h1 (by simp) (fun q hq hy => ?_) hm hg hs
      have a0 : minI n ns ∈ n :: ns := by
        rcases g1 with g | g
        · rw [g]
          exact List.mem_cons_self ..
        · exact List.mem_cons_of_mem _ g
      have a1 : q ≤ minI n ns := hy _ a0
      have a2 : minI n ns ≤ q := by
        rcases List.mem_cons.mp hq with rfl | hq
        · exact g2
        · exact g3 q hq
      omega
  · cases h
theorem ef_all {ma : Sx → Re PyData} (ha : LF F e ma) (hm : F.mg "all" = none) (hg : GlF F "all" := by rfl) (hs : ∀ env, starEach [e] env = (false, eval e env) :: starEach [] env := by intro _; rfl) : EF F (.Call (.Name "all" p) [e] [] pos) (eLk oAll ma) := EF.lk ha fun L L1 d v h h1 => by
  unfold oAll at h
  split at h
  · rw [Option.map_eq_some_iff] at h
    obtain ⟨k, h, rfl⟩ := h
    rw [boolsOf_inv h] at h1
    exact ed_all h1 hm hg hs
  · cases h
theorem ef_lrg (ha : EF F e m) (hm : F.mg "list" = none) (hm2 : F.mg "range" = none) (hg : GlF F "list" := by rfl) (hg2 : GlF F "range" := by rfl) (hs : ∀ env, starEach [e] env = (false, eval e env) :: starEach [] env := by intro _; rfl)
    (hs2 : ∀ env, starEach [.Call (.Name "range" p3) [e] [] p4] env = (false, eval (.Call (.Name "range" p3) [e] [] p4) env) :: starEach [] env := by intro _; rfl) : EF F (.Call (.Name "list" p) [.Call (.Name "range" p3) [e] [] p4] [] pos) (eLRg m) := fun s v s' h => by
  replace h := ha.da h
  obtain ⟨d, s1, h1, k1, h⟩ := h
  split at h
  · split at h
    · next g => cases h; exact ⟨fd_listRg h1 ⟨by omega, by omega⟩ hm hm2 hg hg2 hs hs2, k1⟩
    · cases h
  · cases h
theorem ef_lrg2 (ha : EF F a ma) (hb : EF F b mb) (hm : F.mg "list" = none) (hm2 : F.mg "range" = none) (hg : GlF F "list" := by rfl) (hg2 : GlF F "range" := by rfl) (hs : ∀ env, starEach [a, b] env = (false, eval a env) :: starEach [b] env := by intro _; rfl) (hsb : ∀ env, starEach [b] env = (false, eval b env) :: starEach [] env := by intro _; rfl)
    (hpb : ∀ env, (backTo p4 (starEach [b] env)).any (·.1) = false := by intro _; rfl) (hs2 : ∀ env, starEach [.Call (.Name "range" p3) [a, b] [] p4] env = (false, eval (.Call (.Name "range" p3) [a, b] [] p4) env) :: starEach [] env := by intro _; rfl) : EF F (.Call (.Name "list" p) [.Call (.Name "range" p3) [a, b] [] p4] [] pos) (eLRg2 ma mb) := fun s v s' h => by
  replace h := ha.da h
  obtain ⟨x, s1, h1, k1, h⟩ := h
  replace h := hb.da h
  obtain ⟨y, s2, h2, k2, h⟩ := h
  split at h
  · split at h
    · next g => cases h; exact ⟨fd_listRg2 h1 h2 ⟨by omega, by omega, by omega, by omega⟩ hm hm2 hg hg2 hs hsb hpb hs2, k1.trans k2⟩
    · cases h
  · cases h
end
end DI
namespace DI
open PySem PyProof.Rows L2 DL LamX
variable [TabL] [MP : Mp]
/-- what a value is as data, errors told by their class's place -/
def vD : Vl → Option PyData
  | .d d => some d
  | .x x => some (xD x)
  | .l _ => none
/-! ### promises of defs -/
structure FnC (P : Program) (w : World) (K : PySem.W.Frag) (mg : Str → Option Value) (base : Heap) (x : Str) (k : Nat) (φ : List PyData → Rs) : Prop where
  d : Df P w K mg base x k (spD fun ds r => ∃ v, φ ds = .ok v ∧ vD v = some r)
  l : Df P w K mg base x k (spL fun ds rs => φ ds = .ok (.l rs))
  e : De P w K mg base x k (spE fun ds er => ∃ x, φ ds = .er x ∧ er = x.r)
structure FnM (P : Program) (w : World) (K : PySem.W.Frag) (mg : Str → Option Value) (base : Heap) (x : Str) (k : Nat) (φ : List PyData → List PyData → Rm) : Prop where
  d : Df P w K mg base x k (spM fun ms ds r => ∃ v, φ ms ds = .ok v r.2 ∧ vD v = some r.1)
  l : Df P w K mg base x k (spML fun ms ds r => φ ms ds = .ok (.l r.1) r.2)
/-- n things by place, the others by the names ks -/
structure FnK (P : Program) (w : World) (K : PySem.W.Frag) (mg : Str → Option Value) (base : Heap) (x : Str) (k : Nat) (n : Nat) (ks : List Str) (φ : List PyData → Rs) : Prop where
  ex : ∃ (g : List Value → List Value) (gV : List V → List V) (gD : List PyData → List PyData) (ψ : List PyData → Rs), (∀ ds, ds.length = n + ks.length → ψ (gD ds) = φ ds) ∧
    Dk P w K mg base x k n ks g gV gD (spD fun ds r => ∃ v, ψ ds = .ok v ∧ vD v = some r) ∧ Dk P w K mg base x k n ks g gV gD (spL fun ds rs => ψ ds = .ok (.l rs)) ∧ Dke P w K mg base x k n ks g gV gD (spE fun ds er => ∃ x, ψ ds = .er x ∧ er = x.r)
theorem FnC.mono {P : Program} {w : World} {K : PySem.W.Frag} {mg : Str → Option Value} {base : Heap} {x : Str} {j k : Nat} {φ : List PyData → Rs} (D : FnC P w K mg base x j φ) (h : j ≤ k := by exact Nat.le_of_ble_eq_true rfl) : FnC P w K mg base x k φ := ⟨D.d.mono h, D.l.mono h, D.e.mono h⟩
theorem FnM.mono {P : Program} {w : World} {K : PySem.W.Frag} {mg : Str → Option Value} {base : Heap} {x : Str} {j k : Nat} {φ : List PyData → List PyData → Rm} (D : FnM P w K mg base x j φ) (h : j ≤ k := by exact Nat.le_of_ble_eq_true rfl) : FnM P w K mg base x k φ := ⟨D.d.mono h, D.l.mono h⟩
theorem FnK.mono {P : Program} {w : World} {K : PySem.W.Frag} {mg : Str → Option Value} {base : Heap} {x : Str} {j k n : Nat} {ks : List Str} {φ : List PyData → Rs} (D : FnK P w K mg base x j n ks φ) (h : j ≤ k := by exact Nat.le_of_ble_eq_true rfl) : FnK P w K mg base x k n ks φ := by
  obtain ⟨g, gV, gD, ψ, e, a, b, c⟩ := D.ex
  exact ⟨g, gV, gD, ψ, e, a.mono h, b.mono h, c.mono h⟩
abbrev Fam.C (F : Fam) (x : Str) (φ : List PyData → Rs) : Prop := FnC F.P F.w F.K F.mg F.base x F.k φ
abbrev Fam.M (F : Fam) (x : Str) (φ : List PyData → List PyData → Rm) : Prop := FnM F.P F.w F.K F.mg F.base x F.k φ
abbrev Fam.Q (F : Fam) (x : Str) (n : Nat) (ks : List Str) (φ : List PyData → Rs) : Prop := FnK F.P F.w F.K F.mg F.base x F.k n ks φ
section
variable {F : Fam} {Y : FamW} {e a b c tg iter elt : Expr} {es : List Expr} {kws : List Keyword} {m ma mb mc : Em} {ms : Am} {s s' s1 : Sx} {v : Vl} {d : PyData} {ds : List PyData} {pos p p2 p3 p4 : Pos} {x y : Str} {i : Nat} {α β : Type} {φ : List PyData → Rs} {n : Nat} {ks : List Str}
theorem rC_ok {r : Rs} (h : rC r s = .ok v s') : r = .ok v ∧ s' = s := by
  unfold rC at h
  split at h
  · cases h; exact ⟨rfl, rfl⟩
  · cases h
  · cases h
theorem rC_er {r : Rs} {x : Xr} (h : rC r s = .er x s') : r = .er x ∧ s' = s := by
  unfold rC at h
  split at h
  · cases h
  · cases h; exact ⟨rfl, rfl⟩
  · cases h
theorem bd_er {r : Re α} {f : α → Sx → Re β} {x : Xr} (h : r.bd f = .er x s') : ∃ a s1, r = .ok a s1 ∧ f a s1 = .er x s' := by
  unfold Re.bd at h
  split at h
  · exact ⟨_, _, rfl, h⟩
  · cases h
theorem ef_call (D : Fam.C F x φ) (ha : AF F (e :: es) ms) (hg : GlF F x := by rfl) (hdb : (x == ("__debug__" : Str)) = false := by decide)
    (he : ∀ env, starEach (e :: es) env = (false, eval e env) :: starEach es env := by intro _; rfl) (hpl : ∀ env, (backTo pos (starEach es env)).any (·.1) = false := by intro _; rfl) : EF F (.Call (.Name x p) (e :: es) [] pos) (eCall φ ms) := fun s v s' h => by
  replace h := ha.bd h
  obtain ⟨ds, s1, h1, k1, l1, h⟩ := h
  obtain ⟨h2, e2⟩ := rC_ok h
  subst e2
  refine ⟨?_, k1⟩
  cases v with
  | d d => exact ed_call D.d h1 ⟨_, h2, rfl⟩ hg hdb he hpl
  | l us => exact fd_call D.l h1 h2 hg hdb he hpl
  | x u => exact ed_call D.d h1 ⟨_, h2, rfl⟩ hg hdb he hpl
theorem ex_call (D : Fam.C Y.F x φ) (ha : AF Y.F (e :: es) ms) (hg : GlF Y.F x := by rfl) (hdb : (x == ("__debug__" : Str)) = false := by decide)
    (he : ∀ env, starEach (e :: es) env = (false, eval e env) :: starEach es env := by intro _; rfl) (hpl : ∀ env, (backTo pos (starEach es env)).any (·.1) = false := by intro _; rfl) : EX Y (.Call (.Name x p) (e :: es) [] pos) (eCall φ ms) := fun s u s' h => by
  replace h := bd_er h
  obtain ⟨ds, s1, h0, h⟩ := h
  obtain ⟨h1, k1, l1⟩ := ha _ _ _ h0
  obtain ⟨h2, e2⟩ := rC_er h
  subst e2
  exact ⟨xe_call D.e h1 ⟨_, h2, rfl⟩ hg hdb he hpl, k1.ln⟩
theorem ef_callM {ψ : List PyData → List PyData → Rm} {py : Pos} (i : Nat) (D : Fam.M F x ψ) (ha : AF F es ms) (hg : GlF F x := by rfl)
    (hN : F.N[i]? = some y := by rfl) (hv : Vis F.sc y := by first | exact Or.inl rfl | exact Or.inr (Or.inl rfl) | exact Or.inr (Or.inr rfl)) (hd : (y == ("__debug__" : Str)) = false := by decide) (hcd : (y == ("__classdict__" : Str)) = false := by decide)
    (hdb : (x == ("__debug__" : Str)) = false := by decide) (he : ∀ env, starEach (.Name y py :: es) env = (false, eval (.Name y py) env) :: starEach es env := by intro _; rfl) (hpl : ∀ env, (backTo pos (starEach es env)).any (·.1) = false := by intro _; rfl) : EF F (.Call (.Name x p) (.Name y py :: es) [] pos) (eCallM ψ i ms) := fun s v s' h => by
  unfold eCallM at h
  split at h
  · next us e0 =>
    replace h := ha.bd h
    obtain ⟨ds, s1, h1, k1, l1, h⟩ := h
    split at h
    · next ls e1 =>
      cases e2 : ψ ls ds with
      | no => rw [e2] at h; cases h
      | ok v2 ls' =>
        rw [e2] at h
        cases h
        refine ⟨?_, k1.trans (.set e1)⟩
        rw [sls_set]
        cases v with
        | d d => exact ed_callM (ms' := ls') i D.d (sls_at e1) h1 ⟨_, e2, rfl⟩ hg hN hv hd hcd hdb he hpl ⟨_, sls_at e0⟩
        | l us => exact fd_callM (ms' := ls') i D.l (sls_at e1) h1 e2 hg hN hv hd hcd hdb he hpl ⟨_, sls_at e0⟩
        | x u => exact ed_callM (ms' := ls') (r := xD u) i D.d (sls_at e1) h1 ⟨_, e2, rfl⟩ hg hN hv hd hcd hdb he hpl ⟨_, sls_at e0⟩
    · cases h
  · cases h
/-! by names -/
def KF (F : Fam) (kws : List Keyword) (m : Am) : Prop := ∀ s ds s', m s = .ok ds s' → KD F kws (sls s) ds (sls s') ∧ Kp s s' ∧ ds.length = kws.length
theorem kf_nil : KF F [] aN := fun s ds s' h => by cases h; exact ⟨kd_nil, .refl, rfl⟩
theorem kf_cons {nm : Option Str} {kp : Pos} (h : EF F e m) (h2 : KF F kws ms) (hx : ∀ X te t, PE X e te → PK X kws t → PK X (⟨nm, e, kp⟩ :: kws) (tCons te t) := by intro X te t a b; exact pk_cons a b) : KF F (⟨nm, e, kp⟩ :: kws) (aC m ms) := fun s ds s' q => by
  replace q := h.da q
  obtain ⟨d, s1, h1, k1, q⟩ := q
  replace q := bd_inv q
  obtain ⟨ds2, s2, h3, q⟩ := q
  obtain ⟨h4, k2, l2⟩ := h2 _ _ _ h3
  cases q
  exact ⟨kd_cons h1 h4 hx, k1.trans k2, by rw [List.length_cons, List.length_cons, l2]⟩
def eCallK (φ : List PyData → Rs) (ms ks : Am) : Em := fun s => (ms s).bd fun ds s1 => (ks s1).bd fun us s2 => rC (φ (ds ++ us)) s2
theorem ef_callK {kss : Am} (D : Fam.Q F x n ks φ) (ha : AF F (e :: es) ms) (hk : KF F kws kss) (hn : (e :: es).length = n := by rfl) (hn2 : kws.length = ks.length := by rfl) (hg : GlF F x := by rfl) (hdb : (x == ("__debug__" : Str)) = false := by decide)
    (he : ∀ env, starEach (e :: es) env = (false, eval e env) :: starEach es env := by intro _; rfl) (hall : ∀ env, (backToKw pos (keywordEach kws env)).all (·.1.isSome) = true := by intro _; rfl) (hks : ∀ env, (backToKw pos (keywordEach kws env)).filterMap (·.1) = ks := by intro _; rfl)
    (hpl : ∀ env, ((backTo pos (starEach (e :: es) env)).any (·.1) || (backToKw pos (keywordEach kws env)).any (·.1.isNone)) = false := by intro _; rfl) : EF F (.Call (.Name x p) (e :: es) kws pos) (eCallK φ ms kss) := fun s v s' h => by
  replace h := ha.bd h
  obtain ⟨ds, s1, h1, k1, l1, h⟩ := h
  replace h := bd_inv h
  obtain ⟨us, s2, h0, h⟩ := h
  obtain ⟨h2, k2, l2⟩ := hk _ _ _ h0
  obtain ⟨h3, e3⟩ := rC_ok h
  subst e3
  obtain ⟨g, gV, gD, ψ, eq, dD, dL, dE⟩ := D.ex
  have hl : (ds ++ us).length = n + ks.length := by rw [List.length_append, l1, l2, hn, hn2]
  rw [← eq _ hl] at h3
  refine ⟨?_, k1.trans k2⟩
  cases v with
  | d d => exact ed_callK dD h1 h2 ⟨_, h3, rfl⟩ (by rw [l1, hn]) (by rw [l2, hn2]) hg hdb he hall hks hpl
  | l us => exact fd_callK dL h1 h2 h3 (by rw [l1, hn]) (by rw [l2, hn2]) hg hdb he hall hks hpl
  | x u => exact ed_callK dD h1 h2 ⟨_, h3, rfl⟩ (by rw [l1, hn]) (by rw [l2, hn2]) hg hdb he hall hks hpl
theorem ex_callK {kss : Am} (D : Fam.Q Y.F x n ks φ) (ha : AF Y.F (e :: es) ms) (hk : KF Y.F kws kss) (hn : (e :: es).length = n := by rfl) (hn2 : kws.length = ks.length := by rfl) (hg : GlF Y.F x := by rfl) (hdb : (x == ("__debug__" : Str)) = false := by decide)
    (he : ∀ env, starEach (e :: es) env = (false, eval e env) :: starEach es env := by intro _; rfl) (hall : ∀ env, (backToKw pos (keywordEach kws env)).all (·.1.isSome) = true := by intro _; rfl) (hks : ∀ env, (backToKw pos (keywordEach kws env)).filterMap (·.1) = ks := by intro _; rfl)
    (hpl : ∀ env, ((backTo pos (starEach (e :: es) env)).any (·.1) || (backToKw pos (keywordEach kws env)).any (·.1.isNone)) = false := by intro _; rfl) : EX Y (.Call (.Name x p) (e :: es) kws pos) (eCallK φ ms kss) := fun s v s' h => by
  replace h := bd_er h
  obtain ⟨ds, s1, h0, h⟩ := h
  obtain ⟨h1, k1, l1⟩ := ha _ _ _ h0
  replace h := bd_er h
  obtain ⟨us, s2, h0, h⟩ := h
  obtain ⟨h2, k2, l2⟩ := hk _ _ _ h0
  obtain ⟨h3, e3⟩ := rC_er h
  subst e3
  obtain ⟨g, gV, gD, ψ, eq, dD, dL, dE⟩ := D.ex
  have hl : (ds ++ us).length = n + ks.length := by rw [List.length_append, l1, l2, hn, hn2]
  rw [← eq _ hl] at h3
  exact ⟨xe_callK dE h1 h2 ⟨_, h3, rfl⟩ (by rw [l1, hn]) (by rw [l2, hn2]) hg hdb he hall hks hpl, (k1.trans k2).ln⟩
theorem ef_callK0 {kss : Am} (D : Fam.Q F x 0 ks φ) (hk : KF F kws kss) (hn2 : kws.length = ks.length := by rfl) (hg : GlF F x := by rfl) (hdb : (x == ("__debug__" : Str)) = false := by decide)
    (hall : ∀ env, (backToKw pos (keywordEach kws env)).all (·.1.isSome) = true := by intro _; rfl) (hks : ∀ env, (backToKw pos (keywordEach kws env)).filterMap (·.1) = ks := by intro _; rfl)
    (hpl : ∀ env, ((backTo pos (starEach [] env)).any (·.1) || (backToKw pos (keywordEach kws env)).any (·.1.isNone)) = false := by intro _; rfl) : EF F (.Call (.Name x p) [] kws pos) (eCall φ kss) := fun s v s' h => by
  replace h := bd_inv h
  obtain ⟨us, s2, h0, h⟩ := h
  obtain ⟨h2, k2, l2⟩ := hk _ _ _ h0
  obtain ⟨h3, e3⟩ := rC_ok h
  subst e3
  obtain ⟨g, gV, gD, ψ, eq, dD, dL, dE⟩ := D.ex
  have hl : us.length = 0 + ks.length := by rw [l2, hn2, Nat.zero_add]
  rw [← eq _ hl] at h3
  refine ⟨?_, k2⟩
  cases v with
  | d d => exact ed_callK0 dD h2 ⟨_, h3, rfl⟩ (by rw [l2, hn2]) hg hdb hall hks hpl
  | l us => exact fd_callK0 dL h2 h3 (by rw [l2, hn2]) hg hdb hall hks hpl
  | x u => exact ed_callK0 dD h2 ⟨_, h3, rfl⟩ (by rw [l2, hn2]) hg hdb hall hks hpl
theorem ex_callK0 {kss : Am} (D : Fam.Q Y.F x 0 ks φ) (hk : KF Y.F kws kss) (hn2 : kws.length = ks.length := by rfl) (hg : GlF Y.F x := by rfl) (hdb : (x == ("__debug__" : Str)) = false := by decide)
    (hall : ∀ env, (backToKw pos (keywordEach kws env)).all (·.1.isSome) = true := by intro _; rfl) (hks : ∀ env, (backToKw pos (keywordEach kws env)).filterMap (·.1) = ks := by intro _; rfl)
    (hpl : ∀ env, ((backTo pos (starEach [] env)).any (·.1) || (backToKw pos (keywordEach kws env)).any (·.1.isNone)) = false := by intro _; rfl) : EX Y (.Call (.Name x p) [] kws pos) (eCall φ kss) := fun s v s' h => by
  replace h := bd_er h
  obtain ⟨us, s2, h0, h⟩ := h
  obtain ⟨h2, k2, l2⟩ := hk _ _ _ h0
  obtain ⟨h3, e3⟩ := rC_er h
  subst e3
  obtain ⟨g, gV, gD, ψ, eq, dD, dL, dE⟩ := D.ex
  have hl : us.length = 0 + ks.length := by rw [l2, hn2, Nat.zero_add]
  rw [← eq _ hl] at h3
  exact ⟨xe_callK0 dE h2 ⟨_, h3, rfl⟩ (by rw [l2, hn2]) hg hdb hall hks hpl, k2.ln⟩
/-! ### iterators -/
theorem if_e (h : EF F iter m) : IF F tg iter (iE m) := fun s its s' q => by
  replace q := h.da q
  obtain ⟨d, s1, h1, k1, q⟩ := q
  split at q
  · cases q; exact ⟨it_list h1, k1⟩
  · cases q; exact ⟨it_str h1, k1⟩
  · cases q
theorem if_rg (h : EF F e m) (hm : F.mg "range" = none) (hg : GlF F "range" := by rfl) (hs : ∀ env, starEach [e] env = [(false, eval e env)] := by intro _; rfl) : IF F tg (.Call (.Name "range" p) [e] [] pos) (iRg m) := fun s its s' q => by
  replace q := h.da q
  obtain ⟨d, s1, h1, k1, q⟩ := q
  split at q
  · split at q
    · next g => cases q; exact ⟨it_range1 h1 ⟨by omega, by omega⟩ hm hg hs, k1⟩
    · cases q
  · cases q
theorem if_rg2 (ha : EF F a ma) (hb : EF F b mb) (hm : F.mg "range" = none) (hg : GlF F "range" := by rfl) (hs : ∀ env, starEach [a, b] env = [(false, eval a env), (false, eval b env)] := by intro _; rfl) (hs2 : ∀ env, starEach [b] env = [(false, eval b env)] := by intro _; rfl) : IF F tg (.Call (.Name "range" p) [a, b] [] pos) (iRg2 ma mb) := fun s its s' q => by
  replace q := ha.da q
  obtain ⟨x, s1, h1, k1, q⟩ := q
  replace q := hb.da q
  obtain ⟨y, s2, h2, k2, q⟩ := q
  split at q
  · split at q
    · next g => cases q; exact ⟨it_range2 h1 h2 ⟨by omega, by omega, by omega, by omega⟩ hm hg hs hs2, k1.trans k2⟩
    · cases q
  · cases q
theorem if_enum {elts : List Expr} {kk : Nat} {tpos : Pos} (h : EF F e m) (hm : F.mg "enumerate" = none) (hg : GlF F "enumerate" := by rfl) (hs : ∀ env, starEach [e] env = [(false, eval e env)] := by intro _; rfl) : IF F (.Tuple elts kk tpos) (.Call (.Name "enumerate" p) [e] [] pos) (iEnum m) := fun s its s' q => by
  replace q := h.da q
  obtain ⟨d, s1, h1, k1, q⟩ := q
  split at q
  · cases q; exact ⟨it_enum h1 hm hg hs, k1⟩
  · cases q; exact ⟨it_enumS h1 hm hg hs, k1⟩
  · cases q
theorem if_zip {elts : List Expr} {kk : Nat} {tpos : Pos} (ha : EF F a ma) (hb : EF F b mb) (hm : F.mg "zip" = none) (hg : GlF F "zip" := by rfl) (hs : ∀ env, starEach [a, b] env = [(false, eval a env), (false, eval b env)] := by intro _; rfl) (hs2 : ∀ env, starEach [b] env = [(false, eval b env)] := by intro _; rfl) : IF F (.Tuple elts kk tpos) (.Call (.Name "zip" p) [a, b] [] pos) (iZip ma mb) := fun s its s' q => by
  replace q := ha.da q
  obtain ⟨x, s1, h1, k1, q⟩ := q
  replace q := hb.da q
  obtain ⟨y, s2, h2, k2, q⟩ := q
  split at q
  · cases q; exact ⟨it_zip h1 h2 hm hg hs hs2, k1.trans k2⟩
  · cases q
/-! ### targets -/
theorem set_own {k j : Nat} {d : PyData} {us : List PyData} (h : (s.set j (.va d))[k]? = some (Ce.ow us)) : s[k]? = some (Ce.ow us) := by
  by_cases hk : j = k
  · subst hk
    rw [List.getElem?_set] at h
    simp only [if_true] at h
    split at h <;> cases h
  · rw [List.getElem?_set_ne hk] at h
    exact h
theorem tf_name (i : Nat) (hi : F.N[i]? = some x := by rfl) (hx : Loc F.sc x := by first | exact Or.inl rfl | exact Or.inr rfl) (hf : StF F x := by first | exact Or.inl rfl | exact Or.inr rfl) (hn : F.N.Nodup := by exact of_decide_eq_true rfl) : TF F (.Name x p) [i] (uName i) := by
  refine ⟨_, _, tg_name i hi hx hf hn, fun d s s' h => ?_⟩
  cases h
  exact ⟨trivial, (sls_set (c := .va d)).symm, List.length_set, fun k us e => set_own e⟩
theorem tf_two (i j : Nat) {px py : Pos} {k : Nat} (hi : F.N[i]? = some x := by rfl) (hx : Loc F.sc x := by first | exact Or.inl rfl | exact Or.inr rfl) (hf : StF F x := by first | exact Or.inl rfl | exact Or.inr rfl)
    (hj : F.N[j]? = some y := by rfl) (hy : Loc F.sc y := by first | exact Or.inl rfl | exact Or.inr rfl) (hfy : StF F y := by first | exact Or.inl rfl | exact Or.inr rfl) (hn : F.N.Nodup := by exact of_decide_eq_true rfl)
    (hlen : ∀ env, (assignEach [.Name x px, .Name y py] env).length = 2 := by intro _; rfl) (hst : ∀ env, (assignEach [.Name x px, .Name y py] env).findIdx? (·.1) = none := by intro _; rfl) : TF F (.Tuple [.Name x px, .Name y py] k p) [i, j] (uTwo i j) := by
  refine ⟨_, _, tg_tup2 i j hi hx hf hj hy hfy hn hlen hst, fun d s s' h => ?_⟩
  unfold uTwo at h
  split at h
  · next a b =>
    cases h
    refine ⟨⟨a, b, rfl⟩, ?_, by rw [List.length_set, List.length_set], fun k us e => set_own (set_own e)⟩
    rw [sls_set, sls_set]
    rfl
  · cases h
/-! ### comprehensions -/
inductive IfF (F : Fam) : List Expr → Tm → Prop
  | nil : IfF F [] tT
  | one {c : Expr} {t : Tm} (h : BF F c t) : IfF F [c] t
theorem iff_nil : IfF F [] tT := .nil
theorem iff_one {t : Tm} (h : BF F c t) : IfF F [c] t := .one h
theorem IfF.run {ifs : List Expr} {t : Tm} (h : IfF F ifs t) {k : Bool} (q : t s = .ok k s') : IfsG F ifs (sls s) k (sls s') ∧ Kp s s' := by
  cases h with
  | nil => cases q; exact ⟨.nil, .refl⟩
  | one h => exact ⟨.one (h _ _ _ q).1, (h _ _ _ q).2⟩
/-- a walk through a comprehension, item by item -/
structure LcR (F : Fam) (scope : Scope) (ifs : List Expr) (elt : Expr) (W : List Nat) (u : Um) (t : Tm) (e : Em) (d : PyData) (s s' : Sx) (rs : List PyData) : Prop where
  ex : ∃ s1 k s2, u d s = some s1 ∧ t s1 = .ok k s2 ∧ (k = true → ∃ r s3, (e s2).da (fun r s3 => .ok r s3) = .ok r s3 ∧ s' = wipeC W s3 ∧ rs = [r]) ∧ (k = false → s' = wipeC W s2 ∧ rs = [])
theorem lcL_walk {scope : Scope} {ifs : List Expr} {W : List Nat} {u : Um} {t : Tm} {em : Em} : ∀ {its : List PyData} {s s' : Sx} {rs : List PyData}, lcL W u t em its s = .ok rs s' → ∃ (N : Nat → Sx) (R : Nat → List PyData), N 0 = s ∧ N its.length = s' ∧ R 0 = [] ∧ R its.length = rs ∧ (∀ i, its.length ≤ i → N i = s') ∧
    ∀ i d, its[i]? = some d → ∃ ps, LcR F scope ifs elt W u t em d (N i) (N (i + 1)) ps ∧ R (i + 1) = R i ++ ps
  | [], s, s', rs, h => by
    cases h
    exact ⟨fun _ => s, fun _ => [], rfl, rfl, rfl, rfl, fun _ _ => rfl, fun i d e => by simp at e⟩
  | d :: its, s, s', rs, h => by
    unfold lcL at h
    split at h
    · cases h
    · next s1 e1 =>
      replace h := bd_inv h
      obtain ⟨k, s2, h2, h⟩ := h
      have fin : ∀ {s5 : Sx} {ps us : List PyData}, LcR F scope ifs elt W u t em d s s5 ps → lcL W u t em its s5 = .ok us s' → rs = ps ++ us → ∃ (N : Nat → Sx) (R : Nat → List PyData), N 0 = s ∧ N (d :: its).length = s' ∧ R 0 = [] ∧ R (d :: its).length = rs ∧ (∀ i, (d :: its).length ≤ i → N i = s') ∧
          ∀ i d2, (d :: its)[i]? = some d2 → ∃ ps, LcR F scope ifs elt W u t em d2 (N i) (N (i + 1)) ps ∧ R (i + 1) = R i ++ ps := fun {s5 ps us} st hl er => by
        obtain ⟨N, R, n0, n1, r0, r1, nn, go⟩ := lcL_walk hl
        refine ⟨fun i => match i with | 0 => s | i + 1 => N i, fun i => match i with | 0 => [] | i + 1 => ps ++ R i, rfl, n1, rfl, by rw [er, ← r1]; rfl, fun i hi => ?_, fun i d2 e => ?_⟩
        · cases i with
          | zero => simp at hi
          | succ i => exact nn i (by simpa using hi)
        · cases i with
          | zero =>
            cases e
            refine ⟨ps, ?_, by show ps ++ R 0 = [] ++ ps; rw [r0]; simp⟩
            show LcR F scope ifs elt W u t em d s (N 0) ps
            rw [n0]
            exact st
          | succ i =>
            obtain ⟨qs, g1, g2⟩ := go i d2 (by simpa using e)
            exact ⟨qs, g1, by show ps ++ R (i + 1) = ps ++ R i ++ qs; rw [g2, List.append_assoc]⟩
      cases k with
      | true =>
        rw [if_pos rfl] at h
        replace h := da_inv h
        obtain ⟨r, s3, h3, h⟩ := h
        replace h := bd_inv h
        obtain ⟨us, s4, h4, h⟩ := h
        cases h
        refine fin (s5 := wipeC W s3) (ps := [r]) ⟨⟨s1, true, s2, e1, h2, fun _ => ⟨r, s3, ?_, rfl, rfl⟩, fun z => by cases z⟩⟩ h4 rfl
        rcases h3 with h3 | ⟨us, h3, rfl⟩
        · rw [h3]; rfl
        · rw [h3]; rfl
      | false =>
        rw [if_neg (by decide)] at h
        exact fin (s5 := wipeC W s2) (ps := []) ⟨⟨s1, false, s2, e1, h2, (fun z => by cases z), fun _ => ⟨rfl, rfl⟩⟩⟩ h rfl
theorem noW {W : List Nat} : ∀ k ∈ W, ∀ t, (sls (wipeC W s))[k]? = some t → t = .no := fun k hk t e => by
  rw [sls_wipe] at e
  exact cutL_in hk e
theorem wipe_self {W : List Nat} : wipeC W (wipeC W s) = wipeC W s := by
  apply List.ext_getElem?
  intro k
  rw [wipeC_get, wipeC_get]
  cases s[k]? with
  | none => rfl
  | some c =>
    simp only [Option.map_some]
    by_cases hk : k ∈ W <;> simp [hk]
theorem qf_lc {n : Nat} {own : List (Str × Nat)} {W : List Nat} {T : List Nat} {u : Um} {scope : Scope} {ifs : List Expr} {t : Tm} {it : Am} (hi : IF F tg iter it) (hb : BlkOk F.N F.sc scope own) (ht : TF (F.blk scope) tg T u) (hf : IfF (F.blk scope) ifs t) (he : EF (F.blk scope) elt m)
    (hT : ∀ k ∈ T, k ∈ own.map (·.2) := by decide) (hn : F.N.Nodup := by exact of_decide_eq_true rfl) (hs : ∀ env x, foldedSetIterable iter env x = pure x := by intro _ _; rfl) (hnN : F.N.length = n := by rfl) (hW : own.map (·.2) = W := by rfl) : QF F elt tg iter ifs scope (eLc n W u it t m) := fun s ds s' h => by
  obtain ⟨ok, us, tgd, tu⟩ := ht.ex
  unfold eLc at h
  split at h
  case isFalse => cases h
  case isTrue hl =>
  rw [← hnN] at hl
  rw [hW] at hT
  replace h := bd_inv h
  obtain ⟨its, s1, h1, h⟩ := h
  obtain ⟨i1, k1⟩ := hi _ _ _ h1
  split at h
  · next hlen =>
    obtain ⟨N, R, n0, n1, r0, r1, nn, go⟩ := lcL_walk (F := F) (scope := scope) (ifs := ifs) (elt := elt) h
    have kN : ∀ i, i ≤ its.length → Kp s (N i) ∧ (N i).length = s.length ∧ ∀ k ∈ W, ∀ c, (N i)[k]? = some c → c = Ce.no := by
      intro i
      induction i with
      | zero =>
        intro _
        rw [n0]
        have k2 : Kp s (wipeC W s1) := (Kp.wipe.trans k1).trans .wipe
        refine ⟨k2, k2.ln, fun k hk c e => ?_⟩
        rw [wipeC_get] at e
        cases q : s1[k]? with
        | none => rw [q] at e; cases e
        | some c2 => rw [q] at e; simp [hk] at e; exact e.symm
      | succ i ih =>
        intro hi2
        obtain ⟨g1, g2, g3⟩ := ih (by omega)
        have hlt : i < its.length := by omega
        obtain ⟨ps, ⟨t1, k, t2, e1, e2, hT2, hF2⟩, _⟩ := go i its[i] (List.getElem?_eq_getElem hlt)
        obtain ⟨_, _, w1, w2⟩ := tu _ _ _ e1
        have kA : Kp (N i) t1 := ⟨w1, fun k us q => ⟨us, w2 k us q⟩⟩
        have kB := (hf.run e2).2
        have fin : ∀ {t3 : Sx}, Kp t2 t3 → N (i + 1) = wipeC W t3 → Kp s (N (i + 1)) ∧ (N (i + 1)).length = s.length ∧ ∀ k ∈ W, ∀ c, (N (i + 1))[k]? = some c → c = Ce.no := fun {t3} kC eN => by
          have kk : Kp s (N (i + 1)) := by rw [eN]; exact (((g1.trans kA).trans kB).trans kC).trans .wipe
          refine ⟨kk, kk.ln, fun k hk c e => ?_⟩
          rw [eN, wipeC_get] at e
          cases q : t3[k]? with
          | none => rw [q] at e; cases e
          | some c2 => rw [q] at e; simp [hk] at e; exact e.symm
        cases k with
        | true =>
          obtain ⟨r, t3, q1, q2, _⟩ := hT2 rfl
          replace q1 := he.da q1
          obtain ⟨d, t4, j1, j2, j3⟩ := q1
          cases j3
          exact fin j2 q2
        | false =>
          obtain ⟨q2, _⟩ := hF2 rfl
          exact fin .refl q2
    have lenN : ∀ i, (sls (N i)).length = F.N.length := fun i => by
      rw [sls_len, ← hl]
      by_cases hi2 : i ≤ its.length
      · exact (kN i hi2).2.1
      · rw [nn i (by omega), ← n1]
        exact (kN its.length (Nat.le_refl _)).2.1
    have noN : ∀ i, ∀ k ∈ own.map (·.2), ∀ t, (sls (N i))[k]? = some t → t = .no := fun i k hk t e => by
      rw [hW] at hk
      have key : ∀ j, j ≤ its.length → (sls (N j))[k]? = some t → t = .no := fun j hj e => by
        rw [sls_get] at e
        cases q : (N j)[k]? with
        | none => rw [q] at e; cases e
        | some c =>
          rw [q] at e
          rw [(kN j hj).2.2 k hk c q] at e
          cases e
          rfl
      by_cases hi2 : i ≤ its.length
      · exact key i hi2 e
      · rw [nn i (by omega), ← n1] at e
        exact key its.length (Nat.le_refl _) e
    have hi0 : ItD F tg iter (sls (wipeC W s)) its (sls (N 0)) := by
      rw [n0, sls_wipe (s := s1)]
      exact i1.cut2
    have main := cd_lcG (F := F) (elt := elt) (tg := tg) (iter := iter) (ifs := ifs) (scope := scope) (L := sls (wipeC W s)) (its := its) (fun i => sls (N i)) R hi0 hb tgd (by rw [hW]; exact hT) lenN noN r0 (fun i d hd => ?_) hlen hn hs
    · refine ⟨?_, ?_⟩
      · rw [← r1, ← n1]
        rw [sls_wipe] at main
        exact main.cut
      · rw [← n1]
        exact (kN its.length (Nat.le_refl _)).1
    · obtain ⟨ps, ⟨t1, k, t2, e1, e2, hT2, hF2⟩, eR⟩ := go i d hd
      obtain ⟨o1, o2, w1, w2⟩ := tu _ _ _ e1
      obtain ⟨f1, kB⟩ := hf.run e2
      have hlt : i < its.length := (List.getElem?_eq_some_iff.mp hd).1
      have nowA : NOw W (sls t1) := fun k hk us e => by
        have e' := w2 k us (own_at e)
        have := (kN i (by omega)).2.2 k hk _ e'
        cases this
      have nowK : ∀ {t3 : Sx}, Kp t1 t3 → NOw W (sls t3) := fun kk k hk us e => by
        obtain ⟨es, q⟩ := kk.ow k us (own_at e)
        exact nowA k hk es (sls_at q)
      refine ⟨o1, k, sls t2, by rw [o2]; exact f1, fun z => ?_, fun z => ?_⟩
      · obtain ⟨r, t3, q1, q2, q3⟩ := hT2 z
        replace q1 := he.da q1
        obtain ⟨d2, t4, j1, j2, j3⟩ := q1
        cases j3
        refine ⟨r, sls t3, j1, ?_, ?_, by rw [eR, q3]⟩
        · rw [hW, q2, sls_wipe]
        · rw [hW]
          exact nowK (kB.trans j2)
      · obtain ⟨q2, q3⟩ := hF2 z
        refine ⟨?_, ?_, by rw [eR, q3, List.append_nil]⟩
        · rw [hW, q2, sls_wipe]
        · rw [hW]
          exact nowK kB
  · cases h
theorem ef_lc {scope : Scope} {ifs : List Expr} {m : Sx → Re (List PyData)} (h : QF F elt tg iter ifs scope m) : EF F (.ListComp elt [⟨tg, iter, ifs, 0⟩] scope pos) (eL m) := fun s v s' q => by
  replace q := bd_inv q
  obtain ⟨ds, s1, h1, q⟩ := q
  cases q
  exact ⟨CompD.fd (h _ _ _ h1).1, (h _ _ _ h1).2⟩
/-! ### errors, asked -/
/-- a table of classes: name, field, the answer -/
def clsT (T : List (Str × Str × Bool)) (x : Xr) : Option Bool := (T.find? fun q => decide (q.1 = x.nm) && decide (q.2.1 = x.f)).map (·.2.2)
theorem clsT_inv {T : List (Str × Str × Bool)} {u : Xr} {k : Bool} (h : clsT T u = some k) : (u.nm, u.f, k) ∈ T := by
  unfold clsT at h
  rw [Option.map_eq_some_iff] at h
  obtain ⟨q, h1, h2⟩ := h
  have h3 := List.find?_some h1
  simp only [Bool.and_eq_true, decide_eq_true_eq] at h3
  rw [← h2, ← h3.1, ← h3.2]
  exact List.mem_of_find?_eq_some h1
theorem ef_isXB {T : List (Str × Str × Bool)} {nm : String} (h : EF F e m) (hT : ∀ q ∈ T, (∃ mg', ErC F.K mg' q.1 (MP.CA q.1) q.2.1) ∧ PySem.W.kitOne F.K (.ref (MP.CA q.1)) (.type nm) = some q.2.2) (O : ObC F.K) (hm : F.mg "isinstance" = none) (hmT : F.mg (Str.ofString nm) = none) (hvT : bootBuiltins (Str.ofString nm) = some (.type nm)) (hg : GlF F "isinstance" := by rfl) (hgT : GlF F (Str.ofString nm) := by rfl)
    (hnT : Str.ofString nm ≠ "__name__" := by decide) (hdT : (Str.ofString nm == ("__debug__" : Str)) = false := by decide) (hs : ∀ env, starEach [e, .Name (Str.ofString nm) p3] env = (false, eval e env) :: starEach [.Name (Str.ofString nm) p3] env := by intro _; rfl) :
    EF F (.Call (.Name "isinstance" p) [e, .Name (Str.ofString nm) p3] [] pos) (eIsX m (clsT T)) := fun s v s' q => by
  unfold eIsX at q
  split at q
  · next u s1 e1 =>
    replace q := rO_inv q
    obtain ⟨q, e5⟩ := q
    subst e5
    rw [Option.map_eq_some_iff] at q
    obtain ⟨k, q, rfl⟩ := q
    obtain ⟨⟨mg', E⟩, hk⟩ := hT _ (clsT_inv q)
    obtain ⟨h1, k1⟩ := h _ _ _ e1
    exact ⟨ed_isXB h1 E O hm hmT hvT hk hg hgT hnT hdT hs, k1⟩
  · cases q
theorem ef_isXO {T : List (Str × Str × Bool)} {nm : Str} (h : EF F e m) (hT : ∀ q ∈ T, (∃ mg', ErC F.K mg' q.1 (MP.CA q.1) q.2.1) ∧ PySem.W.kitOne F.K (.ref (MP.CA q.1)) (.ref (MP.CA nm)) = some q.2.2) (O : ObC F.K) (hm : F.mg "isinstance" = none) (hmx : F.mg nm = some (.ref (MP.CA nm))) (hg : GlF F "isinstance" := by rfl) (hgx : GlF F nm := by rfl)
    (hdx : (nm == ("__debug__" : Str)) = false := by decide) (hs : ∀ env, starEach [e, .Name nm p3] env = (false, eval e env) :: starEach [.Name nm p3] env := by intro _; rfl) :
    EF F (.Call (.Name "isinstance" p) [e, .Name nm p3] [] pos) (eIsX m (clsT T)) := fun s v s' q => by
  unfold eIsX at q
  split at q
  · next u s1 e1 =>
    replace q := rO_inv q
    obtain ⟨q, e5⟩ := q
    subst e5
    rw [Option.map_eq_some_iff] at q
    obtain ⟨k, q, rfl⟩ := q
    obtain ⟨⟨mg', E⟩, hk⟩ := hT _ (clsT_inv q)
    obtain ⟨h1, k1⟩ := h _ _ _ e1
    exact ⟨ed_isXO h1 E O hm hmx hk hg hgx hdx hs, k1⟩
  · cases q
theorem ef_attr {f : Str} {T : List (Str × Str)} (h : EF F e m) (hT : ∀ q ∈ T, ∃ mg', ErC F.K mg' q.1 (MP.CA q.1) q.2) (hb : ∀ env, attributeBase e f env (eval e env) = eval e env := by intro _; rfl) : EF F (.Attribute e f pos) (eAttr f T m) := fun s v s' q => by
  unfold eAttr at q
  split at q
  · next u s1 e1 =>
    split at q
    · next g =>
      cases q
      obtain ⟨g1, g2⟩ := g
      obtain ⟨h1, k1⟩ := h _ _ _ e1
      obtain ⟨mg', E⟩ := hT _ g2
      subst g1
      exact ⟨ed_xf h1 E hb, k1⟩
    · cases q
  · cases q
/-! ### isinstance of data -/
theorem kt_none (T : Ty) : kitB "NoneType" T.nm = some false := by cases T <;> decide +kernel
theorem kt_dict (T : Ty) : kitB "dict" T.nm = some false := by cases T <;> decide +kernel
def Ty.eqB : Ty → Ty → Bool
  | .int, .int | .bool, .bool | .str, .str | .list, .list | .tuple, .tuple => true
  | .int, .bool => true
  | _, _ => false
theorem kt_of (T U : Ty) : kitB U.nm T.nm = some (T.eqB U) := by cases T <;> cases U <;> decide +kernel
theorem isi_kit : ∀ {d : PyData} {T : Ty} {k : Bool}, isiD T d = some k → kitD d T.nm = some k
  | .none, T, k, q => by
    have e : isiD T .none = some false := by cases T <;> rfl
    rw [e] at q
    cases q
    exact kt_none T
  | .bool b, T, k, q => by
    have e : isiD T (.bool b) = some (T.eqB .bool) := by cases T <;> rfl
    rw [e] at q
    cases q
    exact kt_of T .bool
  | .int b, T, k, q => by
    have e : isiD T (.int b) = some (T.eqB .int) := by cases T <;> rfl
    rw [e] at q
    cases q
    exact kt_of T .int
  | .str b, T, k, q => by
    have e : isiD T (.str b) = some (T.eqB .str) := by cases T <;> rfl
    rw [e] at q
    cases q
    exact kt_of T .str
  | .list b, T, k, q => by
    have e : isiD T (.list b) = some (T.eqB .list) := by cases T <;> rfl
    rw [e] at q
    cases q
    exact kt_of T .list
  | .tuple b, T, k, q => by
    have e : isiD T (.tuple b) = some (T.eqB .tuple) := by cases T <;> rfl
    rw [e] at q
    cases q
    exact kt_of T .tuple
  | .dict [], T, k, q => by
    have e : isiD T (.dict []) = some false := by cases T <;> rfl
    rw [e] at q
    cases q
    exact kt_dict T
  | .dict ((a, b) :: l), T, k, q => by
    cases a with
    | str x => cases T <;> cases q
    | none => have e : isiD T (.dict ((.none, b) :: l)) = some false := by cases T <;> rfl
              rw [e] at q; cases q; exact kt_dict T
    | bool x => have e : isiD T (.dict ((.bool x, b) :: l)) = some false := by cases T <;> rfl
                rw [e] at q; cases q; exact kt_dict T
    | int x => have e : isiD T (.dict ((.int x, b) :: l)) = some false := by cases T <;> rfl
               rw [e] at q; cases q; exact kt_dict T
    | list x => have e : isiD T (.dict ((.list x, b) :: l)) = some false := by cases T <;> rfl
                rw [e] at q; cases q; exact kt_dict T
    | tuple x => have e : isiD T (.dict ((.tuple x, b) :: l)) = some false := by cases T <;> rfl
                 rw [e] at q; cases q; exact kt_dict T
    | dict x => have e : isiD T (.dict ((.dict x, b) :: l)) = some false := by cases T <;> rfl
                rw [e] at q; cases q; exact kt_dict T
theorem ef_isi (T : Ty) (h : EF F e m) (hm : F.mg "isinstance" = none) (hmT : F.mg (Str.ofString T.nm) = none) (hg : GlF F "isinstance" := by rfl) (hgT : GlF F (Str.ofString T.nm) := by rfl)
    (hs : ∀ env, starEach [e, .Name (Str.ofString T.nm) p3] env = (false, eval e env) :: starEach [.Name (Str.ofString T.nm) p3] env := by intro _; rfl) :
    EF F (.Call (.Name "isinstance" p) [e, .Name (Str.ofString T.nm) p3] [] pos) (eUn (oIsi T) m) := h.un fun L L1 d v q h1 => by
  unfold oIsi at q
  rw [Option.map_eq_some_iff] at q
  obtain ⟨k, q, rfl⟩ := q
  refine ed_isi h1 hm hmT ?_ (isi_kit q) hg hgT ?_ ?_ hs
  · cases T <;> decide +kernel
  · cases T <;> decide
  · cases T <;> decide
end
end DI
namespace DI
open PySem PyProof.Rows L2 DL LamX
variable [TabL] [MP : Mp]
/-! ### how statements end -/
def RoOk (P : Out → Prop) (n : Nat) : Ro → Prop
  | .nx s => P (.nx (sls s)) ∧ s.length = n
  | .ct s => P (.ct (sls s)) ∧ s.length = n
  | .bk s => P (.bk (sls s)) ∧ s.length = n
  | .rt (.d d) s => P (.rt d (sls s)) ∧ s.length = n
  | .rt (.l ds) s => P (.rl ds (sls s)) ∧ s.length = n
  | .rt (.x x) s => P (.rt (xD x) (sls s)) ∧ s.length = n
  | .er _ _ => True
  | .no => True
structure SC (z : List Nat) (Y : FamW) (st : Stmt) (m : Sm) : Prop where
  ok : ∀ s, s.length = Y.F.N.length → RoOk (SD z Y.F st (sls s)) s.length (m s)
  er : ∀ s x s', s.length = Y.F.N.length → m s = .er x s' → XD Y st (sls s) x.r (sls s')
structure SsC (z : List Nat) (Y : FamW) (sts : List Stmt) (m : Sm) : Prop where
  ok : ∀ s, s.length = Y.F.N.length → RoOk (SsD z Y.F sts (sls s)) s.length (m s)
  er : ∀ s x s', s.length = Y.F.N.length → m s = .er x s' → XsD Y sts (sls s) x.r (sls s')
section
variable {z : List Nat} {F : Fam} {Y : FamW} {e a b c tg iter elt : Expr} {es : List Expr} {m ma mb mc : Em} {ms : Am} {s s' s1 : Sx} {v : Vl} {d : PyData} {ds : List PyData} {pos p p2 p3 p4 : Pos} {x y : Str} {i : Nat} {α β : Type} {st : Stmt} {sts sts2 : List Stmt} {n : Nat} {sm sm2 : Sm} {t : Tm}
theorem EF.q (h : EF F e m) : EF F e (DI.q m) := fun s v s' e => by
  unfold DI.q Re.q at e
  split at e
  · next e1 => cases e; exact h _ _ _ e1
  · cases e
theorem ex_q : EX Y e (DI.q m) := fun s x s' e => by
  unfold DI.q Re.q at e
  split at e <;> cases e
theorem EF.ed (h : EF F e m) {d : PyData} (q : m s = .ok (.d d) s') : ED F e (sls s) d (sls s') := (h _ _ _ q).1
/-- what k hands on -/
theorem k_cases {P : Ro → Prop} {r : Re Vl} {f : Vl → Sx → Ro} (h1 : ∀ v s1, r = .ok v s1 → P (f v s1)) (h2 : ∀ x s1, r = .er x s1 → P (.er x s1)) (h3 : P .no) : P (r.k f) := by
  unfold Re.k
  split
  · exact h1 _ _ rfl
  · exact h2 _ _ rfl
  · exact h3
theorem kd_cases {P : Ro → Prop} (h : EF F e m) {f : PyData → Sx → Ro} (h1 : ∀ d s1, ED F e (sls s) d (sls s1) → Kp s s1 → P (f d s1)) (h3 : P .no) : P ((m s).kd f) := by
  unfold Re.kd
  split
  · next d s1 e1 => exact h1 _ _ (h _ _ _ e1).1 (h _ _ _ e1).2
  · next ds s1 e1 => exact h1 _ _ (FD.ed (h _ _ _ e1).1) (h _ _ _ e1).2
  · exact h3
theorem kd_er {r : Re Vl} {f : PyData → Sx → Ro} {u : Xr} (h : r.kd f = .er u s') : ∃ d s1, f d s1 = .er u s' := by
  unfold Re.kd at h
  split at h
  · exact ⟨_, _, h⟩
  · exact ⟨_, _, h⟩
  · cases h
/-! ### assignments -/
theorem c_set {pos' : Pos} (i : Nat) (h : EF Y.F e m) (hx : EX Y e m) (hz : i ∉ z := by decide) (hi : Y.F.N[i]? = some x := by rfl) (hlo : Loc Y.F.sc x := by first | exact Or.inl rfl | exact Or.inr rfl) (hf : StF Y.F x := by first | exact Or.inl rfl | exact Or.inr rfl) (hn : Y.F.N.Nodup := by exact of_decide_eq_true rfl)
    (hs : ∀ j, swapsWith e (some (.Name x pos')) pos.line (Y.F.x j).env = pure false := by intro _; rfl) (hs2 : ∀ j, swapsWithSole [.Name x pos'] e pos.line (Y.y j).env = pure false := by intro _; rfl) (hw : ∀ j, swappedStores [.Name x pos'] e (Y.y j).env = pure none := by intro _; rfl) (h1 : ∀ env, (assignEach [.Name x pos'] env).map (·.2) = [assign (.Name x pos') env] := by intro _; rfl) : SC z Y (.Assign [.Name x pos'] e pos) (sSet i m) := by
  refine ⟨fun s hl => ?_, fun s u s' hl q => ?_⟩
  · refine k_cases (P := RoOk _ _) (fun v s1 e1 => ?_) (fun _ _ _ => trivial) trivial
    obtain ⟨q, k⟩ := h _ _ _ e1
    have li : i < (sls s1).length := by rw [sls_len, k.ln, hl]; exact (List.getElem?_eq_some_iff.mp hi).1
    refine ⟨?_, by rw [List.length_set]; exact k.ln⟩
    rw [sls_set]
    cases v with
    | d d => exact sd_set i q hz hi li hlo hf hn hs
    | l ds => exact sd_new i q hz hi li hlo hf hn hs
    | x u => exact sd_set i q hz hi li hlo hf hn hs
  · unfold sSet Re.k at q
    split at q
    · cases q
    · next e1 => cases q; exact x_asg (hx _ _ _ e1).1 hs2 hw h1
    · cases q
theorem c_setL {elt tg iter : Expr} {ifs : List Expr} {scope : Scope} {py spos : Pos} {m : Sx → Re (List PyData)} (i : Nat) (h : QF Y.F elt tg iter ifs scope m) (hz : i ∉ z := by decide) (hi : Y.F.N[i]? = some y := by rfl) (hy : Y.F.sc.names.lookup y = some .local := by rfl) (hk : Y.F.sc.kind = .function := by rfl)
    (hli : (py.line == pos.line) = true := by rfl) (ha : (scope.names.any fun (n, k) => n == y && (k == .local || k == .cell)) = false := by decide +kernel) (hl2 : spos.line = spos.line := by rfl) : SC z Y (.Assign [.Name y py] (.ListComp elt [⟨tg, iter, ifs, 0⟩] scope pos) spos) (sSetL i m) := by
  refine ⟨fun s hl => ?_, fun s u s' hl q => ?_⟩
  · unfold sSetL
    split
    · next ds s1 e1 =>
      obtain ⟨q, k⟩ := h _ _ _ e1
      have li : i < (sls s1).length := by rw [sls_len, k.ln, hl]; exact (List.getElem?_eq_some_iff.mp hi).1
      refine ⟨?_, by rw [List.length_set]; exact k.ln⟩
      rw [sls_set]
      exact CompD.set i q hz hi li hy hk hli ha hl2
    · trivial
  · unfold sSetL at q
    split at q <;> cases q
theorem c_two {px py : Pos} {kt : Nat} (i j : Nat) (h : EF Y.F e m) (hz : i ∉ z ∧ j ∉ z := by decide) (hi : Y.F.N[i]? = some x := by rfl) (hx : Loc Y.F.sc x := by first | exact Or.inl rfl | exact Or.inr rfl) (hf : StF Y.F x := by first | exact Or.inl rfl | exact Or.inr rfl)
    (hj : Y.F.N[j]? = some y := by rfl) (hy : Loc Y.F.sc y := by first | exact Or.inl rfl | exact Or.inr rfl) (hfy : StF Y.F y := by first | exact Or.inl rfl | exact Or.inr rfl) (hn : Y.F.N.Nodup := by exact of_decide_eq_true rfl)
    (hs : ∀ j, swapsWithSole [.Tuple [.Name x px, .Name y py] kt p] e pos.line (Y.F.x j).env = pure false := by intro _; rfl) (hw : ∀ j, swappedStores [.Tuple [.Name x px, .Name y py] kt p] e (Y.F.x j).env = pure none := by intro _; rfl) (h1 : ∀ env, (assignEach [.Tuple [.Name x px, .Name y py] kt p] env).map (·.2) = [assign (.Tuple [.Name x px, .Name y py] kt p) env] := by intro _; rfl)
    (hlen : ∀ env, (assignEach [.Name x px, .Name y py] env).length = 2 := by intro _; rfl) (hst : ∀ env, (assignEach [.Name x px, .Name y py] env).findIdx? (·.1) = none := by intro _; rfl) :
    SC z Y (.Assign [.Tuple [.Name x px, .Name y py] kt p] e pos) (sTwo i j m) := by
  refine ⟨fun s hl => ?_, fun s u s' hl q => ?_⟩
  · refine kd_cases (P := RoOk _ _) h (fun d s1 q k => ?_) trivial
    have hln : (sls s1).length = Y.F.N.length := by rw [sls_len, k.ln, hl]
    split
    · refine ⟨?_, by rw [List.length_set, List.length_set]; exact k.ln⟩
      rw [sls_set, sls_set]
      exact sd_tup2 i j q hz hln hi hx hf hj hy hfy hn hs hw h1
    · refine ⟨?_, by rw [List.length_set, List.length_set]; exact k.ln⟩
      rw [sls_set, sls_set]
      exact sd_unp2 i j q hz hln hi hx hf hj hy hfy hn hlen hst hs hw h1
    · trivial
  · obtain ⟨d, s1, q⟩ := kd_er q
    split at q <;> cases q
theorem c_star {px py ps : Pos} {kt : Nat} (i j : Nat) (h : EF Y.F e m) (hij : i ≠ j := by decide) (hz : i ∉ z ∧ j ∉ z := by decide) (hi : Y.F.N[i]? = some x := by rfl) (hx : Loc Y.F.sc x := by first | exact Or.inl rfl | exact Or.inr rfl) (hf : StF Y.F x := by first | exact Or.inl rfl | exact Or.inr rfl)
    (hj : Y.F.N[j]? = some y := by rfl) (hy : Loc Y.F.sc y := by first | exact Or.inl rfl | exact Or.inr rfl) (hfy : StF Y.F y := by first | exact Or.inl rfl | exact Or.inr rfl) (hn : Y.F.N.Nodup := by exact of_decide_eq_true rfl)
    (hs : ∀ j, swapsWithSole [.Tuple [.Name x px, .Starred (.Name y py) ps] kt p] e pos.line (Y.F.x j).env = pure false := by intro _; rfl) (hw : ∀ j, swappedStores [.Tuple [.Name x px, .Starred (.Name y py) ps] kt p] e (Y.F.x j).env = pure none := by intro _; rfl) (h1 : ∀ env, (assignEach [.Tuple [.Name x px, .Starred (.Name y py) ps] kt p] env).map (·.2) = [assign (.Tuple [.Name x px, .Starred (.Name y py) ps] kt p) env] := by intro _; rfl) :
    SC z Y (.Assign [.Tuple [.Name x px, .Starred (.Name y py) ps] kt p] e pos) (sStar i j m) := by
  refine ⟨fun s hl => ?_, fun s u s' hl q => ?_⟩
  · refine kd_cases (P := RoOk _ _) h (fun d s1 q k => ?_) trivial
    have hln : (sls s1).length = Y.F.N.length := by rw [sls_len, k.ln, hl]
    split
    · split
      · next g =>
        refine ⟨?_, by rw [List.length_set, List.length_set]; exact k.ln⟩
        rw [sls_set, sls_set]
        exact sd_star i j q g hij hz hln hi hx hf hj hy hfy hn hs hw h1
      · trivial
    · trivial
  · obtain ⟨d, s1, q⟩ := kd_er q
    split at q
    · split at q <;> cases q
    · cases q
theorem c_par {px py pt pt2 : Pos} {kt k2 : Nat} {e1 e2 : Expr} (i j : Nat) (h1 : EF Y.F e1 ma) (h2 : EF Y.F e2 mb) (hz : i ∉ z ∧ j ∉ z := by decide) (hij : i ≠ j := by decide) (hi : Y.F.N[i]? = some x := by rfl) (hj : Y.F.N[j]? = some y := by rfl)
    (hx : Y.F.sc.names.lookup x = some .local := by rfl) (hy : Y.F.sc.names.lookup y = some .local := by rfl) (hn : Y.F.N.Nodup := by exact of_decide_eq_true rfl) (hs1 : ∀ env, starEach [e1, e2] env = (false, eval e1 env) :: starEach [e2] env := by intro _; rfl) (hs2 : ∀ env, starEach [e2] env = (false, eval e2 env) :: starEach [] env := by intro _; rfl)
    (hw : ∀ j, swappedStores [.Tuple [.Name x px, .Name y py] kt pt] (.Tuple [e1, e2] k2 pt2) (Y.F.x j).env = pure (some [x, y]) := by intro _; rfl)
    (hs : ∀ j, swapsWithSole [.Tuple [.Name x px, .Name y py] kt pt] (.Tuple [e1, e2] k2 pt2) pos.line (Y.F.x j).env = pure false := by intro _; rfl) :
    SC z Y (.Assign [.Tuple [.Name x px, .Name y py] kt pt] (.Tuple [e1, e2] k2 pt2) pos) (sPar i j (DI.q ma) (DI.q mb)) := by
  refine ⟨fun s hl => ?_, fun s u s' hl q => ?_⟩
  · refine k_cases (P := RoOk _ _) (fun v s1 e1 => ?_) (fun _ _ _ => trivial) trivial
    obtain ⟨q1, k1⟩ := h1.q _ _ _ e1
    refine k_cases (P := RoOk _ _) (fun w s2 e2 => ?_) (fun _ _ _ => trivial) trivial
    obtain ⟨q2, k2⟩ := h2.q _ _ _ e2
    have hln : (sls s2).length = Y.F.N.length := by rw [sls_len, (k1.trans k2).ln, hl]
    have li : i < (sls s2).length := by rw [hln]; exact (List.getElem?_eq_some_iff.mp hi).1
    have lj : j < (sls s2).length := by rw [hln]; exact (List.getElem?_eq_some_iff.mp hj).1
    split
    · refine ⟨?_, by rw [List.length_set, List.length_set]; exact (k1.trans k2).ln⟩
      rw [sls_set, sls_set]
      exact sd_parFG i j q1 q2 hz hij hi hj li lj hx hy hn hs1 hs2 hw hs
    · refine ⟨?_, by rw [List.length_set, List.length_set]; exact (k1.trans k2).ln⟩
      rw [sls_set, sls_set]
      exact sd_parDG i j q1 q2 hz hij hi hj li lj hx hy hn hs1 hs2 hw hs
    · trivial
  · unfold sPar Re.k at q
    split at q
    · dsimp only at q
      split at q
      · split at q <;> cases q
      · next e2 => exact absurd e2 (by intro e2; unfold DI.q Re.q at e2; split at e2 <;> cases e2)
      · cases q
    · next e2 => exact absurd e2 (by intro e2; unfold DI.q Re.q at e2; split at e2 <;> cases e2)
    · cases q
theorem c_put {py tpos : Pos} (i : Nat) (h : EF Y.F e m) (hb : EF Y.F b mb) (hN : Y.F.N[i]? = some y := by rfl) (hv : Vis Y.F.sc y := by first | exact Or.inl rfl | exact Or.inr (Or.inl rfl) | exact Or.inr (Or.inr rfl)) (hd : (y == ("__debug__" : Str)) = false := by decide) (hcd : (y == ("__classdict__" : Str)) = false := by decide)
    (ha : ∀ env v, assign (.Subscript (.Name y py) b tpos) env v = (do
      let ov ← holding [v] (eval (.Name y py) env)
      let iv ← holding [v, ov] (eval b env)
      standAt tpos
      holding [v, ov, iv] (setItem ov iv v)
      release [v, ov, iv] []) := by intro _ _; rfl)
    (hs : ∀ j, swapsWithSole [.Subscript (.Name y py) b tpos] e pos.line (Y.F.x j).env = pure false := by intro _; rfl) (hw : ∀ j, swappedStores [.Subscript (.Name y py) b tpos] e (Y.F.x j).env = pure none := by intro _; rfl) (h1 : ∀ env, (assignEach [.Subscript (.Name y py) b tpos] env).map (·.2) = [assign (.Subscript (.Name y py) b tpos) env] := by intro _; rfl) :
    SC z Y (.Assign [.Subscript (.Name y py) b tpos] e pos) (sPut i m mb) := by
  refine ⟨fun s hl => ?_, fun s u s' hl q => ?_⟩
  · refine kd_cases (P := RoOk _ _) h (fun d s1 q1 k1 => ?_) trivial
    split
    · next us e0 =>
      refine kd_cases (P := RoOk _ _) hb (fun d2 s2 q2 k2 => ?_) trivial
      split
      · next n ms e2 =>
        split
        · next k ek =>
          refine ⟨?_, by rw [List.length_set]; exact (k1.trans k2).ln⟩
          rw [sls_set]
          exact sd_putG i q1 q2 ⟨_, sls_at e0⟩ (sls_at e2) ek hN hv hd hcd ha hs hw h1
        · trivial
      · trivial
    · trivial
  · obtain ⟨d, s1, q⟩ := kd_er q
    split at q
    · obtain ⟨d, s1, q⟩ := kd_er q
      split at q
      · split at q <;> cases q
      · cases q
    · cases q
theorem c_app {py apos cpos : Pos} (i : Nat) (h : EF Y.F e m) (hN : Y.F.N[i]? = some y := by rfl) (hv : Vis Y.F.sc y := by first | exact Or.inl rfl | exact Or.inr (Or.inl rfl) | exact Or.inr (Or.inr rfl)) (hd : (y == ("__debug__" : Str)) = false := by decide) (hcd : (y == ("__classdict__" : Str)) = false := by decide)
    (hbase : ∀ env, attributeBase (.Name y py) "append" env (eval (.Name y py) env) = eval (.Name y py) env := by intro _; rfl)
    (hfew : ∀ env, ((backTo cpos (starEach [e] env)).all (fun x => !x.1) && (backToKw cpos (keywordEach [] env)).all (fun x => x.1.isSome) && decide (([e] : List Expr).length + ([] : List Keyword).length + (if ([] : List Keyword).isEmpty then 0 else 1) < 30)) = true := by intro _; rfl)
    (hline : (apos.endLine == cpos.line) = true := by rfl) (hs : ∀ env, starEach [e] env = (false, eval e env) :: starEach [] env := by intro _; rfl) (hplain : ∀ env, (backTo cpos (starEach [] env)).any (·.1) = false := by intro _; rfl)
    (hsw : ∀ env, swapsWith (.Call (.Attribute (.Name y py) "append" apos) [e] [] cpos) none pos.line env = pure false := by intro _; rfl) :
    SC z Y (.Expr (.Call (.Attribute (.Name y py) "append" apos) [e] [] cpos) pos) (sApp i m) := by
  refine ⟨fun s hl => ?_, fun s u s' hl q => ?_⟩
  · unfold sApp
    split
    · next us e0 =>
      refine kd_cases (P := RoOk _ _) h (fun d s1 q1 k1 => ?_) trivial
      split
      · next ms e1 =>
        split
        · next g =>
          refine ⟨?_, by rw [List.length_set]; exact k1.ln⟩
          rw [sls_set]
          exact sd_app i q1 (sls_at e1) g ⟨_, sls_at e0⟩ hN hv hd hcd hbase hfew hline hs hplain hsw
        · trivial
      · trivial
    · trivial
  · unfold sApp at q
    split at q
    · obtain ⟨d, s1, q⟩ := kd_er q
      split at q
      · split at q <;> cases q
      · cases q
    · cases q
theorem c_aug {op : Operator} {f : Int → Int → Int} {pos' : Pos} (i : Nat) (h : EF Y.F e m) (hop : ∀ {L L1 : List Sl} {m n : Int}, ED Y.F e L (.int n) L1 → L[i]? = some (Sl.va (.int m)) → L1[i]? = some (Sl.va (.int m)) → SD z Y.F (.AugAssign (.Name x pos') op e pos) L (.nx (L1.set i (.va (.int (f m n)))))) : SC z Y (.AugAssign (.Name x pos') op e pos) (sAug f i m) := by
  refine ⟨fun s hl => ?_, fun s u s' hl q => ?_⟩
  · unfold sAug
    split
    · next m0 e0 =>
      refine kd_cases (P := RoOk _ _) h (fun d s1 q1 k1 => ?_) trivial
      split
      · next n m2 e1 =>
        split
        · next g =>
          subst g
          refine ⟨?_, by rw [List.length_set]; exact k1.ln⟩
          rw [sls_set]
          exact hop q1 (sls_at e0) (sls_at e1)
        · trivial
      · trivial
    · trivial
  · unfold sAug at q
    split at q
    · obtain ⟨d, s1, q⟩ := kd_er q
      split at q
      · split at q <;> cases q
      · cases q
    · cases q
theorem c_augAdd {pos' : Pos} (i : Nat) (h : EF Y.F e m) (hz : i ∉ z := by decide) (hi : Y.F.N[i]? = some x := by rfl) (hx : Loc Y.F.sc x := by first | exact Or.inl rfl | exact Or.inr rfl) (hf : StF Y.F x := by first | exact Or.inl rfl | exact Or.inr rfl) (hn : Y.F.N.Nodup := by exact of_decide_eq_true rfl) : SC z Y (.AugAssign (.Name x pos') .Add e pos) (sAug (· + ·) i m) := c_aug i h fun q h0 h1 => sd_augAdd i q h0 h1 hz hi hx hf hn
theorem c_augSub {pos' : Pos} (i : Nat) (h : EF Y.F e m) (hz : i ∉ z := by decide) (hi : Y.F.N[i]? = some x := by rfl) (hx : Loc Y.F.sc x := by first | exact Or.inl rfl | exact Or.inr rfl) (hf : StF Y.F x := by first | exact Or.inl rfl | exact Or.inr rfl) (hn : Y.F.N.Nodup := by exact of_decide_eq_true rfl) : SC z Y (.AugAssign (.Name x pos') .Sub e pos) (sAug (· - ·) i m) := c_aug i h fun q h0 h1 => sd_augSub i q h0 h1 hz hi hx hf hn
/-! ### expressions, ends -/
theorem c_expr (h : EF Y.F e m) (hx : EX Y e m) (hs : ∀ env, swapsWith e none pos.line env = pure false := by intro _; rfl) : SC z Y (.Expr e pos) (sExpr m) := by
  refine ⟨fun s hl => ?_, fun s u s' hl q => ?_⟩
  · refine k_cases (P := RoOk _ _) (fun v s1 e1 => ?_) (fun _ _ _ => trivial) trivial
    obtain ⟨q, k⟩ := h _ _ _ e1
    refine ⟨?_, k.ln⟩
    cases v with
    | d d => exact sd_expr q hs
    | l ds => exact sd_expr (FD.ed q) hs
    | x u => exact sd_expr q hs
  · unfold sExpr Re.k at q
    split at q
    · cases q
    · next e1 => cases q; exact x_expr (hx _ _ _ e1).1 hs
    · cases q
theorem c_ret (h : EF Y.F e m) (hx : EX Y e m) : SC z Y (.Return (some e) pos) (sRet m) := by
  refine ⟨fun s hl => ?_, fun s u s' hl q => ?_⟩
  · refine k_cases (P := RoOk _ _) (fun v s1 e1 => ?_) (fun _ _ _ => trivial) trivial
    obtain ⟨q, k⟩ := h _ _ _ e1
    cases v with
    | d d => exact ⟨sd_ret q, k.ln⟩
    | l ds => exact ⟨sd_retL q, k.ln⟩
    | x u => exact ⟨sd_ret q, k.ln⟩
  · unfold sRet Re.k at q
    split at q
    · cases q
    · next e1 => cases q; exact x_ret (hx _ _ _ e1).1
    · cases q
theorem c_retV (i : Nat) (hN : Y.F.N[i]? = some x := by rfl) (hv : Vis Y.F.sc x := by first | exact Or.inl rfl | exact Or.inr (Or.inl rfl) | exact Or.inr (Or.inr rfl)) (hd : (x == ("__debug__" : Str)) = false := by decide) (hcd : (x == ("__classdict__" : Str)) = false := by decide) : SC z Y (.Return (some (.Name x p)) pos) (sRetV i) := by
  refine ⟨fun s hl => ?_, fun s u s' hl q => ?_⟩
  · unfold sRetV
    split
    · next d e1 => exact ⟨sd_ret (ed_var i (sls_at e1) hN hv hd hcd), rfl⟩
    · next ds e1 =>
      refine ⟨?_, by rw [List.length_set]⟩
      rw [sls_set]
      exact sd_retO i (sls_at e1) hN hv hd hcd
    · next u e1 => exact ⟨sd_ret (ed_var (d := xD u) i (sls_at e1) hN hv hd hcd), rfl⟩
    · trivial
  · unfold sRetV at q
    split at q <;> cases q
theorem c_pass : SC z Y (.Pass pos) sPass := ⟨fun s hl => ⟨sd_pass, rfl⟩, fun s u s' hl q => by cases q⟩
theorem c_cont : SC z Y (.Continue pos) sCont := ⟨fun s hl => ⟨sd_cont, rfl⟩, fun s u s' hl q => by cases q⟩
theorem c_brk : SC z Y (.Break pos) sBrk := ⟨fun s hl => ⟨sd_break, rfl⟩, fun s u s' hl q => by cases q⟩
theorem RoOk.imp {P P' : Out → Prop} {r : Ro} (h : RoOk P n r) (f : ∀ o, P o → P' o) : RoOk P' n r := by
  cases r with
  | nx s => exact ⟨f _ h.1, h.2⟩
  | ct s => exact ⟨f _ h.1, h.2⟩
  | bk s => exact ⟨f _ h.1, h.2⟩
  | rt v s => cases v <;> exact ⟨f _ h.1, h.2⟩
  | er x s => trivial
  | no => trivial
theorem c_if (hc : BF Y.F c t) (h1 : SsC z Y sts sm) (h2 : SsC z Y sts2 sm2) : SC z Y (.If c sts sts2 pos) (sIf t sm sm2) := by
  refine ⟨fun s hl => ?_, fun s u s' hl q => ?_⟩
  · unfold sIf
    split
    · next k s1 e1 =>
      obtain ⟨q, kk⟩ := hc _ _ _ e1
      have hl1 : s1.length = Y.F.N.length := by rw [kk.ln, hl]
      rw [← kk.ln]
      cases k with
      | true => exact (h1.ok s1 hl1).imp fun o w => sd_if q (fun _ => w) (fun z => by cases z)
      | false => exact (h2.ok s1 hl1).imp fun o w => sd_if q (fun z => by cases z) (fun _ => w)
    · trivial
  · unfold sIf at q
    split at q
    · next k s1 e1 =>
      obtain ⟨q1, kk⟩ := hc _ _ _ e1
      have hl1 : s1.length = Y.F.N.length := by rw [kk.ln, hl]
      cases k with
      | true => exact x_if q1 (fun _ => h1.er s1 _ _ hl1 q) (fun z => by cases z)
      | false => exact x_if q1 (fun z => by cases z) (fun _ => h2.er s1 _ _ hl1 q)
    · cases q
/-! ### rows of statements -/
theorem c_nil : SsC z Y [] sNil := ⟨fun s hl => ⟨ss_nil, rfl⟩, fun s u s' hl q => by cases q⟩
theorem c_one (h : SC z Y st sm) : SsC z Y [st] sm := ⟨fun s hl => (h.ok s hl).imp fun o w => ss_one w, fun s u s' hl q => xs_hd (h.er s u s' hl q)⟩
theorem c_cons (h : SC z Y st sm) (h2 : SsC z Y sts sm2) : SsC z Y (st :: sts) (sSeq sm sm2) := by
  refine ⟨fun s hl => ?_, fun s u s' hl q => ?_⟩
  · unfold sSeq
    have w := h.ok s hl
    split
    · next s1 e1 =>
      rw [e1] at w
      obtain ⟨w1, w2⟩ := w
      rw [← w2]
      exact (h2.ok s1 (w2.trans hl)).imp fun o v => ss_cons w1 v
    · next n0 =>
      cases q : sm s with
      | nx s1 => exact absurd q (n0 s1)
      | ct s1 => rw [q] at w; exact ⟨ss_end w.1, w.2⟩
      | bk s1 => rw [q] at w; exact ⟨ss_end w.1, w.2⟩
      | rt v s1 => rw [q] at w; cases v <;> exact ⟨ss_end w.1, w.2⟩
      | er u s1 => trivial
      | no => trivial
  · unfold sSeq at q
    have w := h.ok s hl
    split at q
    · next s1 e1 =>
      rw [e1] at w
      exact xs_tl w.1 (h2.er s1 u s' (w.2.trans hl) q)
    · next n0 => exact xs_hd (h.er s u s' hl q)
theorem c_wp (W : List Nat) (h : SsC z Y sts sm) : SsC z Y sts (sWp W sm) := by
  refine ⟨fun s hl => ?_, fun s u s' hl q => ?_⟩
  · have w := h.ok (wipeC W s) (by rw [wipeC_len]; exact hl)
    rw [wipeC_len] at w
    refine w.imp fun o v => ?_
    rw [sls_wipe] at v
    exact ss_wk wk_cut v
  · have w := h.er (wipeC W s) u s' (by rw [wipeC_len]; exact hl) q
    rw [sls_wipe] at w
    exact xs_wk wk_cut w
/-! ### loops -/
theorem Nodup_len : True := trivial
/-- the states ahead of each turn, as long as turns go on -/
def trc (u : Um) (b : Sm) (its : List PyData) (s : Sx) : Nat → Sx
  | 0 => s
  | i + 1 =>
    match its[i]? with
    | none => trc u b its s i
    | some d =>
      match u d (trc u b its s i) with
      | none => trc u b its s i
      | some s1 =>
        match b s1 with
        | .nx s2 => s2
        | .ct s2 => s2
        | _ => trc u b its s i
def WalkP (u : Um) (b : Sm) (all : List PyData) (s0 : Sx) (k : Nat) (r : Ro) : Prop :=
  ∃ m, k ≤ m ∧ m ≤ all.length ∧ (∀ i d, k ≤ i → i < m → all[i]? = some d → ∃ s1, u d (trc u b all s0 i) = some s1 ∧ (b s1 = .nx (trc u b all s0 (i + 1)) ∨ b s1 = .ct (trc u b all s0 (i + 1)))) ∧
      ((m = all.length ∧ r = .nx (trc u b all s0 m)) ∨ ∃ d s1, all[m]? = some d ∧ u d (trc u b all s0 m) = some s1 ∧ ((∃ s2, b s1 = .bk s2 ∧ r = .nx s2) ∨ (r = b s1 ∧ ((∃ v s2, r = .rt v s2) ∨ ∃ x s2, r = .er x s2))))
theorem forL_walk {u : Um} {b : Sm} : ∀ (its done : List PyData) (s0 s : Sx), trc u b (done ++ its) s0 done.length = s → ∀ r, forL u b its s = r → r ≠ .no → WalkP u b (done ++ its) s0 done.length r
  | [], done, s0, s, hs, r, h, hn => by
    refine ⟨done.length, Nat.le_refl _, by simp, fun i d h1 h2 => by omega, .inl ⟨by simp, ?_⟩⟩
    rw [hs]
    exact h.symm
  | d :: its, done, s0, s, hs, r, h, hn => by
    have hd : (done ++ d :: its)[done.length]? = some d := by simp
    have ea : done ++ d :: its = (done ++ [d]) ++ its := by simp
    have el : (done ++ [d]).length = done.length + 1 := by simp
    unfold forL at h
    split at h
    · exact absurd h.symm hn
    · next s1 e1 =>
      have go : ∀ s2, (b s1 = .nx s2 ∨ b s1 = .ct s2) → forL u b its s2 = r → WalkP u b (done ++ d :: its) s0 done.length r := fun s2 hb hf => by
        have ht : trc u b (done ++ d :: its) s0 (done.length + 1) = s2 := by
          unfold trc
          rw [hd]
          simp only [hs, e1]
          rcases hb with hb | hb <;> rw [hb]
        have ih := forL_walk its (done ++ [d]) s0 s2 (by rw [el, ← ea]; exact ht) r hf hn
        rw [← ea, el] at ih
        obtain ⟨m, m1, m2, m3, m4⟩ := ih
        refine ⟨m, by omega, m2, fun i d2 h1 h2 h3 => ?_, m4⟩
        by_cases hi : i = done.length
        · subst hi
          rw [hd] at h3
          cases h3
          refine ⟨s1, by rw [hs]; exact e1, ?_⟩
          rw [ht]
          exact hb
        · exact m3 i d2 (by omega) h2 h3
      split at h
      · next s2 e2 => exact go s2 (.inl e2) h
      · next s2 e2 => exact go s2 (.inr e2) h
      · next s2 e2 =>
        exact ⟨done.length, Nat.le_refl _, by simp, fun i d h1 h2 => by omega, .inr ⟨d, s1, hd, by rw [hs]; exact e1, .inl ⟨s2, e2, h.symm⟩⟩⟩
      · next n1 n2 n3 =>
        refine ⟨done.length, Nat.le_refl _, by simp, fun i d h1 h2 => by omega, .inr ⟨d, s1, hd, by rw [hs]; exact e1, .inr ⟨h.symm, ?_⟩⟩⟩
        cases q : b s1 with
        | nx s2 => exact absurd q (n1 s2)
        | ct s2 => exact absurd q (n2 s2)
        | bk s2 => exact absurd q (n3 s2)
        | rt v s2 => rw [q] at h; exact .inl ⟨v, s2, h.symm⟩
        | er x s2 => rw [q] at h; exact .inr ⟨x, s2, h.symm⟩
        | no => rw [q] at h; exact absurd h.symm hn
theorem c_for {T : List Nat} {u : Um} {it : Am} (hi : IF Y.F tg iter it) (ht : TF Y.F tg T u) (hb : SsC z Y sts sm) (hb0 : z ≠ [] → ∀ s x s', sm s ≠ .er x s') (hz : ∀ k ∈ T, k ∉ z := by decide) (hs : ∀ env x, foldedSetIterable iter env x = pure x := by intro _ _; rfl) : SC z Y (.For tg iter sts [] pos) (sFor u it sm) := by
  obtain ⟨ok, us, tgd, tu⟩ := ht.ex
  have core : ∀ (s s1 : Sx) (its : List PyData) (r : Ro), s.length = Y.F.N.length → it s = .ok its s1 → forL u sm its s1 = r → r ≠ .no →
      ∃ (M : Nat → Sx) (m : Nat), ItD Y.F tg iter (sls s) its (sls (M 0)) ∧ (∀ i, (sls (M i)).length = Y.F.N.length) ∧ m ≤ its.length ∧ (∀ i d, i < m → its[i]? = some d → ok d ∧ (SsD z Y.F sts (us d (sls (M i))) (.nx (sls (M (i + 1)))) ∨ SsD z Y.F sts (us d (sls (M i))) (.ct (sls (M (i + 1)))))) ∧
        ((m = its.length ∧ r = .nx (M m)) ∨ ∃ d s1, its[m]? = some d ∧ u d (M m) = some s1 ∧ s1.length = Y.F.N.length ∧ ((∃ s2, sm s1 = .bk s2 ∧ r = .nx s2) ∨ (r = sm s1 ∧ ((∃ v s2, r = .rt v s2) ∨ ∃ x s2, r = .er x s2)))) := fun s s1 its r hl h1 h2 hn => by
    obtain ⟨i1, k1⟩ := hi _ _ _ h1
    obtain ⟨m, _, m2, m3, m4⟩ := forL_walk its [] s1 s1 rfl r h2 hn
    rw [List.nil_append] at m2 m3 m4
    have len : ∀ i, (trc u sm its s1 i).length = Y.F.N.length := fun i => by
      induction i with
      | zero => show s1.length = _; rw [k1.ln, hl]
      | succ i ih =>
        unfold trc
        split
        · exact ih
        · split
          · exact ih
          · next d _ s2 e2 =>
            have l2 : s2.length = Y.F.N.length := by rw [(tu _ _ _ e2).2.2.1]; exact ih
            have w := hb.ok s2 l2
            split
            · next s3 e3 => rw [e3] at w; rw [w.2]; exact l2
            · next s3 e3 => rw [e3] at w; rw [w.2]; exact l2
            · exact ih
    refine ⟨trc u sm its s1, m, i1, fun i => by rw [sls_len]; exact len i, m2, fun i d him hd => ?_, ?_⟩
    · obtain ⟨s2, e2, e3⟩ := m3 i d (Nat.zero_le _) him hd
      obtain ⟨o1, o2, o3, _⟩ := tu _ _ _ e2
      have w := hb.ok s2 (by rw [o3]; exact len i)
      rw [← o2] at w
      refine ⟨o1, ?_⟩
      rcases e3 with e3 | e3
      · rw [e3] at w; exact .inl w.1
      · rw [e3] at w; exact .inr w.1
    · rcases m4 with m4 | ⟨d, s2, e1, e2, e3⟩
      · exact .inl m4
      · exact .inr ⟨d, s2, e1, e2, by rw [(tu _ _ _ e2).2.2.1]; exact len m, e3⟩
  refine ⟨fun s hl => ?_, fun s x s' hl q => ?_⟩
  · unfold sFor
    split
    · next its s1 h1 =>
      by_cases hn : forL u sm its s1 = .no
      · rw [hn]; trivial
      obtain ⟨M, m, i1, lenM, m2, m3, m4⟩ := core s s1 its _ hl h1 rfl hn
      rcases m4 with ⟨rfl, e⟩ | ⟨d, s2, e1, e2, l2, e3⟩
      · rw [e]
        refine ⟨sd_for (fun i => sls (M i)) its.length i1 tgd hz lenM (Nat.le_refl _) m3 ?_ hs, ?_⟩
        · rw [List.getElem?_eq_none (Nat.le_refl _)]
        · rw [← sls_len, lenM, hl]
      · obtain ⟨o1, o2, o3, _⟩ := tu _ _ _ e2
        have w := hb.ok s2 l2
        rw [← o2] at w
        rcases e3 with ⟨s3, e4, e5⟩ | ⟨e4, e5⟩
        · rw [e5]
          rw [e4] at w
          refine ⟨sd_for (fun i => sls (M i)) m i1 tgd hz lenM m2 m3 ?_ hs, by rw [w.2, l2, hl]⟩
          rw [e1]
          exact ⟨o1, .inl ⟨_, rfl, w.1⟩⟩
        · rcases e5 with ⟨v, s3, e5⟩ | ⟨x, s3, e5⟩
          · rw [e5]
            rw [← e4, e5] at w
            cases v with
            | d d2 =>
              refine ⟨sd_for (fun i => sls (M i)) m i1 tgd hz lenM m2 m3 ?_ hs, by rw [w.2, l2, hl]⟩
              rw [e1]
              exact ⟨o1, .inr ⟨w.1, .inl ⟨_, _, rfl⟩⟩⟩
            | l ds2 =>
              refine ⟨sd_for (fun i => sls (M i)) m i1 tgd hz lenM m2 m3 ?_ hs, by rw [w.2, l2, hl]⟩
              rw [e1]
              exact ⟨o1, .inr ⟨w.1, .inr ⟨_, _, rfl⟩⟩⟩
            | x d2 =>
              refine ⟨sd_for (fun i => sls (M i)) m i1 tgd hz lenM m2 m3 ?_ hs, by rw [w.2, l2, hl]⟩
              rw [e1]
              exact ⟨o1, .inr ⟨w.1, .inl ⟨_, _, rfl⟩⟩⟩
          · rw [e5]; trivial
    · trivial
  · unfold sFor at q
    split at q
    · next its s1 h1 =>
      obtain ⟨M, m, i1, lenM, m2, m3, m4⟩ := core s s1 its _ hl h1 q (by intro z; cases z)
      rcases m4 with ⟨_, e⟩ | ⟨d, s2, e1, e2, l2, e3⟩
      · cases e
      · rcases e3 with ⟨s3, e4, e5⟩ | ⟨e4, e5⟩
        · cases e5
        · obtain ⟨o1, o2, o3, _⟩ := tu _ _ _ e2
          by_cases hz0 : z = []
          · subst hz0
            have w := hb.er s2 x s' l2 e4.symm
            rw [← o2] at w
            exact x_forG (fun i => sls (M i)) m d i1 tgd lenM e1 m3 ⟨o1, w⟩ hs
          · exact absurd e4.symm (hb0 hz0 s2 x s')
    · cases q
end
end DI
namespace DI
open PySem PyProof.Rows L2 DL LamX
variable [TabL] [MP : Mp]
section
variable {z : List Nat} {F : Fam} {Y : FamW} {e a b c tg iter elt : Expr} {es : List Expr} {m ma mb mc : Em} {ms : Am} {s s' s1 : Sx} {v : Vl} {d : PyData} {ds : List PyData} {pos p p2 p3 p4 : Pos} {x y : Str} {i : Nat} {α β : Type} {st : Stmt} {sts sts2 : List Stmt} {n : Nat} {sm sm2 : Sm} {t : Tm}
/-! ### nothing raised -/
def sQ (b : Sm) : Sm := fun s =>
  match b s with
  | .er _ _ => .no
  | r => r
theorem sQ_ne {b : Sm} : ∀ s x s', sQ b s ≠ .er x s' := fun s x s' h => by
  unfold sQ at h
  split at h
  · cases h
  · next n0 => exact n0 _ _ h
theorem c_q (h : SsC z Y sts sm) : SsC z Y sts (sQ sm) := by
  refine ⟨fun s hl => ?_, fun s u s' hl q => absurd q (sQ_ne _ _ _)⟩
  have w := h.ok s hl
  unfold sQ
  split
  · trivial
  · exact w
theorem c_forE {T : List Nat} {u : Um} {it : Am} (hi : IF Y.F tg iter it) (ht : TF Y.F tg T u) (hb : SsC [] Y sts sm) (hs : ∀ env x, foldedSetIterable iter env x = pure x := by intro _ _; rfl) : SC [] Y (.For tg iter sts [] pos) (sFor u it sm) := c_for hi ht hb (fun h => absurd rfl h) (fun _ _ => by simp) hs
theorem c_forQ {T : List Nat} {u : Um} {it : Am} (hi : IF Y.F tg iter it) (ht : TF Y.F tg T u) (hb : SsC z Y sts sm) (hz : ∀ k ∈ T, k ∉ z := by decide) (hs : ∀ env x, foldedSetIterable iter env x = pure x := by intro _ _; rfl) : SC z Y (.For tg iter sts [] pos) (sFor u it (sQ sm)) := c_for hi ht (c_q hb) (fun _ => sQ_ne) hz hs
/-! ### while -/
def outR : Ro → Option Out
  | .nx s => some (.nx (sls s))
  | .ct s => some (.ct (sls s))
  | .bk s => some (.bk (sls s))
  | .rt (.d d) s => some (.rt d (sls s))
  | .rt (.l ds) s => some (.rl ds (sls s))
  | .rt (.x x) s => some (.rt (xD x) (sls s))
  | _ => none
def lenR (n : Nat) : Ro → Prop
  | .nx s => s.length = n
  | .ct s => s.length = n
  | .bk s => s.length = n
  | .rt _ s => s.length = n
  | _ => True
theorem roOk_of {P : Out → Prop} {r : Ro} (h : ∀ o, outR r = some o → P o) (l : lenR n r) : RoOk P n r := by
  cases r with
  | nx s => exact ⟨h _ rfl, l⟩
  | ct s => exact ⟨h _ rfl, l⟩
  | bk s => exact ⟨h _ rfl, l⟩
  | rt v s => cases v <;> exact ⟨h _ rfl, l⟩
  | er x s => trivial
  | no => trivial
theorem RoOk.at {P : Out → Prop} {r : Ro} {o : Out} (h : RoOk P n r) (q : outR r = some o) : P o := by
  cases r with
  | nx s => cases q; exact h.1
  | ct s => cases q; exact h.1
  | bk s => cases q; exact h.1
  | rt v s => cases v <;> cases q <;> exact h.1
  | er x s => cases q
  | no => cases q
theorem RoOk.ln {P : Out → Prop} {r : Ro} (h : RoOk P n r) : lenR n r := by
  cases r with
  | nx s => exact h.2
  | ct s => exact h.2
  | bk s => exact h.2
  | rt v s => cases v <;> exact h.2
  | er x s => trivial
  | no => trivial
theorem whL_len (hc : BF Y.F c t) (hb : SsC z Y sts sm) : ∀ (k : Nat) (s : Sx), s.length = Y.F.N.length → lenR Y.F.N.length (whL t sm k s)
  | 0, s, hl => trivial
  | k + 1, s, hl => by
    unfold whL
    split
    · next s1 e1 =>
      have l1 : s1.length = Y.F.N.length := by rw [(hc _ _ _ e1).2.ln, hl]
      have w := (hb.ok s1 l1).ln
      rw [l1] at w
      split
      · next s2 e2 => rw [e2] at w; exact whL_len hc hb k s2 w
      · next s2 e2 => rw [e2] at w; exact whL_len hc hb k s2 w
      · next s2 e2 => rw [e2] at w; exact w
      · next v s2 e2 => rw [e2] at w; exact w
      · trivial
    · next s1 e1 => show s1.length = _; rw [(hc _ _ _ e1).2.ln, hl]
    · trivial
theorem c_while (hc : BF Y.F c t) (hb : SsC z Y sts sm) : SC z Y (.While c sts [] pos) (sWhile t sm) := by
  refine ⟨fun s hl => roOk_of (fun o ho => ?_) ?_, fun s u s' hl q => ?_⟩
  · refine ⟨_, while_any c sts, fun σ0 G0 H0 S0 D q => ?_⟩
    generalize hr : sWhile t sm s = r at ho
    refine ⟨fun k σ H => ∃ s2, s2.length = Y.F.N.length ∧ whL t sm k s2 = r ∧ ∃ G, Sta (sls s2) σ G H ∧ Ts (sls s) σ0 G0 H0 (sls s2) σ G H ∧ Anc z σ0 σ, ⟨100000, s, hl, hr, G0, S0, .refl, .refl⟩, ?_⟩
    rintro k σ H ⟨s2, l2, e2, G, S, T0, A⟩
    have q2 : EndOk z (sls s2) σ G H D o := q.from S T0 A
    cases k with
    | zero =>
      have e2 : Ro.no = r := e2
      rw [← e2] at ho
      cases ho
    | succ k =>
      unfold whL at e2
      split at e2
      · next s3 e3 =>
        obtain ⟨⟨tc, pc, rc⟩, kk⟩ := hc _ _ _ e3
        have l3 : s3.length = Y.F.N.length := by rw [kk.ln, l2]
        have w := hb.ok s3 l3
        refine ⟨tc, pc, rc σ G H S _ fun G1 H1 S1 T1 => ?_⟩
        rw [if_pos rfl]
        have q3 : EndOk z (sls s3) σ G1 H1 D o := q2.from S1 T1.ts .refl
        have T01 := T0.trans S.gh T1.ts
        refine ⟨fun σ' H' => ∃ s2, s2.length = Y.F.N.length ∧ whL t sm k s2 = r ∧ ∃ G', Sta (sls s2) σ' G' H' ∧ Ts (sls s) σ0 G0 H0 (sls s2) σ' G' H' ∧ Anc z σ0 σ', fun σ' H' w => ⟨k, Nat.lt_succ_self k, w⟩, ?_⟩
        split at e2
        · next s4 e4 =>
          have wl := w.ln
          rw [e4] at w wl
          obtain ⟨ts, ps, run⟩ := w.1
          exact ⟨ts, ps, run σ G1 H1 S1 _ fun σ' G' H' S' T' A' => ⟨s4, wl.trans l3, e2, G', S', T01.trans S1.gh T', A.trans A'⟩⟩
        · next s4 e4 =>
          have wl := w.ln
          rw [e4] at w wl
          obtain ⟨ts, ps, run⟩ := w.1
          exact ⟨ts, ps, run σ G1 H1 S1 _ fun σ' G' H' S' T' A' => ⟨s4, wl.trans l3, e2, G', S', T01.trans S1.gh T', A.trans A'⟩⟩
        · next s4 e4 =>
          rw [e4] at w
          rw [← e2] at ho
          cases ho
          obtain ⟨ts, ps, run⟩ := w.1
          exact ⟨ts, ps, run σ G1 H1 S1 _ fun σ' G' H' S' T' A' => q3 σ' G' H' S' T' A'⟩
        · next v s4 e4 =>
          rw [e4] at w
          rw [← e2] at ho
          cases v with
          | d d => cases ho; obtain ⟨ts, ps, run⟩ := w.1; exact ⟨ts, ps, run σ G1 H1 S1 _ q3⟩
          | l ds => cases ho; obtain ⟨ts, ps, run⟩ := w.1; exact ⟨ts, ps, run σ G1 H1 S1 _ q3⟩
          | x u => cases ho; obtain ⟨ts, ps, run⟩ := w.1; exact ⟨ts, ps, run σ G1 H1 S1 _ q3⟩
        · rw [← e2] at ho
          cases ho
      · next s3 e3 =>
        obtain ⟨⟨tc, pc, rc⟩, kk⟩ := hc _ _ _ e3
        rw [← e2] at ho
        cases ho
        refine ⟨tc, pc, rc σ G H S _ fun G1 H1 S1 T1 => ?_⟩
        rw [if_neg (by simp)]
        exact q2 σ G1 H1 S1 T1.ts .refl
      · rw [← e2] at ho
        cases ho
  · rw [hl]
    exact whL_len hc hb 100000 s hl
  · exfalso
    have key : ∀ (k : Nat) (s : Sx), whL t sm k s ≠ .er u s' := fun k => by
      induction k with
      | zero => intro s h; cases h
      | succ k ih =>
        intro s h
        unfold whL at h
        split at h
        · split at h
          · exact ih _ h
          · exact ih _ h
          · cases h
          · cases h
          · cases h
        · cases h
        · cases h
    exact key _ _ q
/-! ### raise, try -/
theorem c_raise {nm f : Str} {k : Nat} {cp : Pos} (T : Y.ErI k nm (MP.CA nm) f) (hk : k + 1 ≤ Y.F.k) (h : EF Y.F e m) (hg : GlF Y.F nm := by rfl) (hdb : (nm == ("__debug__" : Str)) = false := by decide)
    (hs : ∀ env, starEach [e] env = (false, eval e env) :: starEach [] env := by intro _; rfl) : SC z Y (.Raise (some (.Call (.Name nm p) [e] [] cp)) none pos) (sRaise nm f m) := by
  refine ⟨fun s hl => ?_, fun s u s' hl q => ?_⟩
  · unfold sRaise Re.kd
    split <;> trivial
  · unfold sRaise Re.kd at q
    split at q
    · next d s1 e1 =>
      cases q
      exact x_raise T hk (h _ _ _ e1).1 hg hdb hs
    · next ds s1 e1 =>
      cases q
      exact x_raise T hk (FD.ed (h _ _ _ e1).1) hg hdb hs
    · cases q
theorem FamW.stF (Y : FamW) (j : Y.F.J) : (Y.F.x j).stack = (Y.F.x j).env :: (Y.F.x j).outer := by
  rw [← Y.hy]
  exact Y.hst j
theorem FamW.frF (Y : FamW) (j : Y.F.J) : (Y.F.x j).env.frame = some (Y.F.x j).env.locals := by
  rw [← Y.hy]
  exact Y.hfr j
theorem FamW.exF (Y : FamW) (j : Y.F.J) : (Y.F.x j).ex = [] := by
  rw [← Y.hy]
  exact Y.hex j
abbrev FamW.tr (Y : FamW) : FamW := Y.F.trW (FamW.stF Y) (FamW.frF Y) (FamW.exF Y)
theorem c_try {tt : Expr} {nn y : Str} {body : List Stmt} {p1 p2 p3 pos' : Pos} {cs : List Str} {c0 : Str} (i k : Nat) (hb : SsC [] (FamW.tr Y) body sm) (hT : ∀ nm ∈ c0 :: cs, ∀ j, TestC (Y.F.x j) tt (.ref (MP.CA nm))) (hz : i ≠ k := by decide)
    (hN : Y.F.N.Nodup := by exact of_decide_eq_true rfl) (hni : Y.F.N[i]? = some nn := by rfl) (hnk : Y.F.N[k]? = some y := by rfl) (hxi : Y.F.sc.names.lookup nn = some .local := by rfl) (hxk : Y.F.sc.names.lookup y = some .local := by rfl)
    (hsw : ∀ j, swapsWith (.Name nn p2) (some (.Name y p1)) p3.line (Y.F.x j).env = pure false := by intro _; rfl) (hd : (nn == ("__debug__" : Str)) = false := by decide) (hcd : (nn == ("__classdict__" : Str)) = false := by decide) :
    SC [] Y (.Try body [.ExceptHandler (some tt) (some nn) [.Assign [.Name y p1] (.Name nn p2) p3] pos'] [] [] pos) (sTry (c0 :: cs) i k sm) := by
  refine ⟨fun s hl => ?_, fun s u s' hl q => ?_⟩
  · unfold sTry
    split
    · next s1 e1 =>
      have w := hb.ok s hl
      rw [e1] at w
      exact ⟨sd_tryOk i k (FamW.stF Y) (FamW.frF Y) (FamW.exF Y) w.1 (hT c0 (List.mem_cons_self ..)) hN hni hnk hxi hxk hsw hd hcd, w.2⟩
    · next u s1 e1 =>
      split
      · next hc =>
        split
        · next e2 =>
          have w := hb.er s u s1 hl e1
          split
          · next hl1 =>
            have hkl : k < (sls s1).length := by rw [sls_len, hl1, hl]; exact (List.getElem?_eq_some_iff.mp hnk).1
            refine ⟨?_, by rw [List.length_set]; exact hl1⟩
            rw [sls_set]
            have hmem : u.nm ∈ c0 :: cs := by simpa using hc
            exact sd_try i k (FamW.stF Y) (FamW.frF Y) (FamW.exF Y) w (hT _ hmem) (sls_at e2) hz hkl hN hni hnk hxi hxk hsw hd hcd
          · trivial
        · trivial
      · trivial
    · trivial
  · unfold sTry at q
    split at q
    · cases q
    · split at q
      · split at q
        · split at q <;> cases q
        · cases q
      · cases q
    · cases q
/-! ### the function that was handed in -/
def Th.o (t : Th) : Oc :=
  match t with
  | .ok d => .ok d
  | .er x => .er x.r
def thR (t : Th) (s : Sx) : Re Vl :=
  match t with
  | .ok d => .ok (.d d) s
  | .er x => .er x s
def eAskT (t : Th) (i : Nat) : Em := fun s =>
  match s[i]? with
  | some (.fn _) => thR t s
  | _ => .no
theorem ef_ask {k : Nat} {t : Th} (i : Nat) (hex : ∀ j, (F.x j).ex = []) (hl : ∀ j, LamO F.P F.w F.K F.mg F.base MP.fG (F.x j).s_0 (F.x j).H_0 (F.x j).fs MP.fa k t.o) (hk : k ≤ F.k) (hN : F.N[i]? = some x := by rfl) (hv : Vis F.sc x := by first | exact Or.inl rfl | exact Or.inr (Or.inl rfl) | exact Or.inr (Or.inr rfl))
    (hd : (x == ("__debug__" : Str)) = false := by decide) (hcd : (x == ("__classdict__" : Str)) = false := by decide) : EF F (.Call (.Name x p) [] [] pos) (eAskT t i) := fun s v s' q => by
  unfold eAskT at q
  split at q
  · next t2 e1 =>
    cases t with
    | ok d => cases q; exact ⟨ed_askO hex i hl hk (sls_at e1) hN hv hd hcd, .refl⟩
    | er u => cases q
  · cases q
theorem ex_ask {k : Nat} {t : Th} (i : Nat) (hl : ∀ j, LamO Y.F.P Y.F.w Y.F.K Y.F.mg Y.F.base MP.fG (Y.y j).s_0 (Y.y j).H_0 (Y.y j).fs MP.fa k t.o) (hk : k ≤ Y.F.k) (hN : Y.F.N[i]? = some x := by rfl) (hv : Vis Y.F.sc x := by first | exact Or.inl rfl | exact Or.inr (Or.inl rfl) | exact Or.inr (Or.inr rfl))
    (hd : (x == ("__debug__" : Str)) = false := by decide) (hcd : (x == ("__classdict__" : Str)) = false := by decide) : EX Y (.Call (.Name x p) [] [] pos) (eAskT t i) := fun s v s' q => by
  unfold eAskT at q
  split at q
  · next t2 e1 =>
    cases t with
    | ok d => cases q
    | er u => cases q; exact ⟨xe_askO i hl hk (sls_at e1) hN hv hd hcd, rfl⟩
  · cases q
/-! ### f(lambda: ..) -/
structure FnT (P : Program) (w : World) (K : PySem.W.Frag) (mg : Str → Option Value) (base : Heap) (x : Str) (k : Nat) (φ : Th → Rs) : Prop where
  d : DfO P w K mg base x k fun o r => ∃ t v, o = Th.o t ∧ φ t = .ok v ∧ vD v = some r
theorem sl_hid {c : Ce} : sl (hidC c) = DL.hid (sl c) := by cases c <;> rfl
theorem sls_hid : sls (s.map hidC) = (sls s).map DL.hid := by
  unfold sls
  rw [List.map_map, List.map_map]
  exact List.map_congr_left fun c _ => sl_hid
def eCallO (i : Nat) (φ : Th → Rs) (m : Em) : Em := fun s =>
  match s[i]? with
  | some .tb =>
    match thk m (s.map hidC) with
    | some t =>
      match φ t with
      | .ok (.d d) => .ok (.d d) s
      | .ok (.x u) => .ok (.x u) s
      | _ => .no
    | none => .no
  | _ => .no
theorem ef_lam {k : Nat} {φ : Th → Rs} {c Pt : Addr} {q : Str} {params : Arguments} {body : Expr} {scope : Scope} {lpos : Pos} (i : Nat) (D : FnT F.P F.w F.K F.mg F.base x (k + 1) φ) (hk : k + 2 ≤ F.k) (hcode : ∀ j, (F.x j).env.code = .ref c) (hq : ∀ j, (F.x j).env.qual ++ "<lambda>" = q) (TB : TabB F.base F.mg c Pt) (hm : (Pt, q) ∈ TabL.T) (hu : ∀ p ∈ TabL.T, p.1 = Pt → p.2 = q)
    (h : EF (lamF F scope k).F body m) (hx : EX (lamF F scope k) body m) (Ls : LamS F.sc scope) (hdef : ∀ j, defaultsOf params (F.x j).env = ([], []) := by intro _; rfl)
    (hb : ∀ (cl : List (Str × Addr)) (pm cv ctv : Value), bindArgs (PySem.W.kla_fn "<lambda>" q params body scope cl pm cv ctv) ⟨[], []⟩ = pure [] := by intro _ _ _ _; rfl) (hg : GlF F x := by rfl) (hdb : (x == ("__debug__" : Str)) = false := by decide) : EF F (.Call (.Name x p) [.Lambda params body scope lpos] [] pos) (eCallO i φ m) := fun s v s' qq => by
  unfold eCallO at qq
  split at qq
  · next e0 =>
    split at qq
    · next t e1 =>
      have hB : LamB F scope k body ((sls s).map DL.hid) t.o := by
        rw [← sls_hid]
        unfold thk at e1
        split at e1
        · next d s1 e2 => cases e1; exact ⟨_, (h _ _ _ e2).1⟩
        · next ds s1 e2 => cases e1; exact ⟨_, FD.ed (h _ _ _ e2).1⟩
        · next u s1 e2 => cases e1; exact ⟨_, (hx _ _ _ e2).1⟩
        · cases e1
      split at qq
      · next d e2 => cases qq; exact ⟨ed_lamO i D.d hk hcode hq TB hm hu (sls_at e0) hB ⟨t, _, rfl, e2, rfl⟩ Ls hdef hb hg hdb, .refl⟩
      · next u e2 => cases qq; exact ⟨ed_lamO i D.d hk hcode hq TB hm hu (sls_at e0) hB ⟨t, _, rfl, e2, rfl⟩ Ls hdef hb hg hdb, .refl⟩
      · cases qq
    · cases qq
  · cases qq
end
end DI
namespace DI
open PySem PyProof.Rows L2 DL LamX
variable [TabL] [MP : Mp]
/-! ### a def, by its body -/
structure FunR (K : PySem.W.Frag) (x qual : Str) (st : Stmt) (f : Addr) (fd : FuncData) : Prop where
  ex : ∃ (oc : Value) (od : Option Addr) (dV kV doc pm : Value) (an : Option Addr) (cdv ct : Value) (osl : Array (Option Value)),
    fd = PySem.W.fnOf x qual (defArgs st) (defBody st) (defScope st) dV kV doc pm an cdv ct ∧ K.lookup f = some ⟨oc, od, .func fd, osl⟩ ∧ PySem.W.codeIn K cdv qual = true
  kp : PySem.W.keepIn K (.ref f) = true
theorem FunR.of {K : PySem.W.Frag} {x qual : Str} {st : Stmt} {f : Addr} {fd : FuncData} (h : Fun K x qual st f fd) : FunR K x qual st f fd := by
  obtain ⟨oc, od, kV, doc, pm, an, cdv, ct, osl, h1, h2, h3⟩ := h.ex
  exact ⟨⟨oc, od, _, kV, doc, pm, an, cdv, ct, osl, h1, h2, h3⟩, h.kp⟩
theorem FunR.ofD {K : PySem.W.Frag} {x qual : Str} {st : Stmt} {f : Addr} {fd : FuncData} {dvs : List V} {kws : List (Str × V)} (h : FunD K x qual (defArgs st) (defBody st) (defScope st) dvs kws f fd) : FunR K x qual st f fd := by
  obtain ⟨oc, od, dV, kV, doc, pm, an, cdv, ct, osl, h1, h2, h3, _⟩ := h.ex
  exact ⟨⟨oc, od, _, kV, doc, pm, an, cdv, ct, osl, h1, h2, h3⟩, h.kp⟩
theorem ssd_unpull {F : Fam} {J : Type} {g : J → F.J} {z : List Nat} {sts : List Stmt} {L : List Sl} {o : Out} (sur : ∀ j, ∃ i, g i = j) (h : SsD z (F.pull J g) sts L o) : SsD z F sts L o := by
  obtain ⟨ts, ps, run⟩ := h
  refine ⟨ts, fun j => ?_, run⟩
  obtain ⟨i, rfl⟩ := sur j
  exact ps i
section
variable {P : Program} {w : World} {K : PySem.W.Frag} {mg : Str → Option Value} {base : Heap} {x qual : Str} {st : Stmt} {f : Addr} {fd : FuncData} {N ps : List Str} {k : Nat} {m : Sm}
theorem funU {Φ : List PyData → PyData → Prop} (Fn : FunR K x qual st f fd) (S : FnScope N ps (defScope st)) (hl : ∀ ds r, Φ ds r → ds.length = ps.length)
    (hb : ∀ ds r, Φ ds r → (∃ L', SsD [] (famOf P w K mg base N qual (defScope st) f k) (defBody st) (startL N ds) (.rt r L')) ∨ (r = .none ∧ ∃ L', SsD [] (famOf P w K mg base N qual (defScope st) f k) (defBody st) (startL N ds) (.nx L'))) : FnG P w K mg base (k + 1) f fd ps (spD Φ) := by
  obtain ⟨oc, od, dV, kV, doc, pm, an, cdv, ct, osl, rfl, lk, hcd⟩ := Fn.ex
  refine fnBody lk hcd S (fun vs H Q E h => ?_) fun vs H Q h => ?_
  · obtain ⟨ds, r, G, e, _, rp, _⟩ := h
    rw [rp.len]
    exact hl ds r e
  · obtain ⟨ds, r, G, e, gh, rp, q⟩ := h
    have hlen := hl ds r e
    rcases hb ds r e with ⟨L', ts, ps, run⟩ | ⟨rfl, L', ts, ps, run⟩
    · refine ⟨ts, ps, run _ G H (staL gh rp (by rw [hlen]; exact FnScope.fit S)) _ fun v σ' G' H' S' T' _ rv => ?_⟩
      exact q v G' H' ⟨T'.g, S'.gh, fun b o hb gb _ => T'.fr b o hb gb noOwnL, T'.th⟩ rv
    · refine ⟨ts, ps, run _ G H (staL gh rp (by rw [hlen]; exact FnScope.fit S)) _ fun σ' G' H' S' T' _ => ?_⟩
      exact q .non G' H' ⟨T'.g, S'.gh, fun b o hb gb _ => T'.fr b o hb gb noOwnL, T'.th⟩ .non
theorem funUL {Φ : List PyData → List PyData → Prop} (Fn : FunR K x qual st f fd) (S : FnScope N ps (defScope st)) (hl : ∀ ds r, Φ ds r → ds.length = ps.length)
    (hb : ∀ ds r, Φ ds r → ∃ L', SsD [] (famOf P w K mg base N qual (defScope st) f k) (defBody st) (startL N ds) (.rl r L')) : FnG P w K mg base (k + 1) f fd ps (spL Φ) := by
  obtain ⟨oc, od, dV, kV, doc, pm, an, cdv, ct, osl, rfl, lk, hcd⟩ := Fn.ex
  refine fnBody lk hcd S (fun vs H Q E h => ?_) fun vs H Q h => bodyL (F := famOf P w K mg base N qual (defScope st) f k) (fun ds r e => by rw [hl ds r e]; exact FnScope.fit S) hb vs H Q E0 h
  obtain ⟨ds, r, G, e, _, rp, _⟩ := h
  rw [rp.len]
  exact hl ds r e
theorem funUE {Φ : List PyData → Er → Prop} (Fn : FunR K x qual st f fd) (S : FnScope N ps (defScope st)) (hl : ∀ ds r, Φ ds r → ds.length = ps.length)
    (hb : ∀ ds r, Φ ds r → ∃ L', XsD (famW P w K mg base N qual (defScope st) f k) (defBody st) (startL N ds) r L') : FnE P w K mg base (k + 1) f fd ps (spE Φ) := by
  obtain ⟨oc, od, dV, kV, doc, pm, an, cdv, ct, osl, rfl, lk, hcd⟩ := Fn.ex
  refine fnE_of lk hcd S (fun vs H Q E h => ?_) fun A outer s H vs Q E hg hr h => ?_
  · obtain ⟨ds, r, G, e, _, rp, _⟩ := h
    rw [rp.len]
    exact hl ds r e
  · obtain ⟨ds, er, G, e, gh, rp, q⟩ := h
    obtain ⟨L', ts, ps, run⟩ := hb ds er e
    refine ⟨_, ps ⟨⟨(cdv, A, outer, s, H), hg, hr⟩, E⟩, run _ _ G H (staL gh rp (by rw [hl ds er e]; exact FnScope.fit S)) _ fun cls dd σ' G' H' S' T' ok => ?_⟩
    exact q cls dd G' H' ⟨T'.g, S'.gh, fun b o hb gb _ => T'.fr b o hb gb noOwnL, T'.th⟩ ok
theorem funUM {Φ : List PyData → List PyData → PyData × List PyData → Prop} (Fn : FunR K x qual st f fd) (S : FnScope N ps (defScope st)) (hl : ∀ ms ds r, Φ ms ds r → ds.length + 1 = ps.length)
    (hb : ∀ ms ds r ms', Φ ms ds (r, ms') → (∃ L', SsD [0] (famOf P w K mg base N qual (defScope st) f k) (defBody st) (startM N ms ds) (.rt r L') ∧ L'[0]? = some (Sl.ow ms')) ∨ (r = .none ∧ ∃ L', SsD [0] (famOf P w K mg base N qual (defScope st) f k) (defBody st) (startM N ms ds) (.nx L') ∧ L'[0]? = some (Sl.ow ms'))) : FnG P w K mg base (k + 1) f fd ps (spM Φ) := by
  obtain ⟨oc, od, dV, kV, doc, pm, an, cdv, ct, osl, rfl, lk, hcd⟩ := Fn.ex
  refine fnBody lk hcd S (fun vs H Q E h => ?_) fun vs H Q h => ?_
  · obtain ⟨a, ws, xs, ms, ds, r, ms', G, rfl, e, _, rp, _⟩ := h
    rw [List.length_cons, rp.len]
    exact hl ms ds _ e
  · obtain ⟨a, ws, xs, ms, ds, r, ms', G, rfl, hΦ, gh, rp, ha, ra, ga, q⟩ := h
    obtain ⟨S0, O⟩ := staM (N := N) gh rp (by rw [hl ms ds _ hΦ]; exact FnScope.fit S) ha ra ga
    rcases hb ms ds r ms' hΦ with ⟨L', ⟨ts, ps, run⟩, h0⟩ | ⟨rfl, L', ⟨ts, ps, run⟩, h0⟩
    · refine ⟨ts, ps, run _ G H S0 _ fun v σ' G' H' S' T' A' rv => ?_⟩
      obtain ⟨x1, e1, b, ys, rfl, k1, k2, k3⟩ := S'.get h0
      have e2 := A' 0 (List.mem_singleton.mpr rfl)
      rw [e1, start_get (i := 0) (v := .ref a) rfl] at e2
      cases e2
      exact q v G' H' ys ⟨T'.g, S'.gh, fun b o hb gb nb => T'.fr b o hb gb fun w => nb ((O b).mp w), T'.th⟩ k1 k2 k3 rv
    · refine ⟨ts, ps, run _ G H S0 _ fun σ' G' H' S' T' A' => ?_⟩
      obtain ⟨x1, e1, b, ys, rfl, k1, k2, k3⟩ := S'.get h0
      have e2 := A' 0 (List.mem_singleton.mpr rfl)
      rw [e1, start_get (i := 0) (v := .ref a) rfl] at e2
      cases e2
      exact q .non G' H' ys ⟨T'.g, S'.gh, fun b o hb gb nb => T'.fr b o hb gb fun w => nb ((O b).mp w), T'.th⟩ k1 k2 k3 .non
theorem funUML {Φ : List PyData → List PyData → List PyData × List PyData → Prop} (Fn : FunR K x qual st f fd) (S : FnScope N ps (defScope st)) (hl : ∀ ms ds r, Φ ms ds r → ds.length + 1 = ps.length)
    (hb : ∀ ms ds r ms', Φ ms ds (r, ms') → ∃ L', SsD [0] (famOf P w K mg base N qual (defScope st) f k) (defBody st) (startM N ms ds) (.rl r L') ∧ L'[0]? = some (Sl.ow ms')) : FnG P w K mg base (k + 1) f fd ps (spML Φ) := by
  obtain ⟨oc, od, dV, kV, doc, pm, an, cdv, ct, osl, rfl, lk, hcd⟩ := Fn.ex
  refine fnBody lk hcd S (fun vs H Q E h => ?_) fun vs H Q h => bodyML (F := famOf P w K mg base N qual (defScope st) f k) (fun ms ds r e => by rw [hl ms ds r e]; exact FnScope.fit S) hb vs H Q E0 h
  obtain ⟨a, ws, xs, ms, ds, r, ms', G, rfl, e, _, rp, _⟩ := h
  rw [List.length_cons, rp.len]
  exact hl ms ds _ e
/-! starts -/
theorem startC_len {n : Nat} {ds : List PyData} (h : ds.length ≤ n) : (startC n ds).length = n := by
  unfold startC
  rw [List.length_append, List.length_map, List.length_replicate]
  omega
theorem startC_sl {ds : List PyData} : sls (startC N.length ds) = startL N ds := by
  unfold startC startL sls
  rw [List.map_append, List.map_map, List.map_replicate]
  rfl
theorem startCM_len {n : Nat} {ms ds : List PyData} (h : ds.length + 1 ≤ n) : (startCM n ms ds).length = n := by
  unfold startCM
  rw [List.length_cons, List.length_append, List.length_map, List.length_replicate]
  omega
theorem startCM_sl {ms ds : List PyData} : sls (startCM N.length ms ds) = startM N ms ds := by
  unfold startCM startM sls
  rw [List.map_cons, List.map_append, List.map_map, List.map_replicate]
  rfl
theorem surW {qual : Str} {sc : Scope} {f : Addr} {k : Nat} : ∀ j : FamJ qual sc f k, ∃ i : FamJ qual sc f k × XK, Prod.fst i = j := fun j => ⟨(j, E0), rfl⟩
theorem runD_inv {np n : Nat} {ds : List PyData} (h : runD np n m ds ≠ .no) : ds.length = np := by
  unfold runD at h
  split at h
  · assumption
  · exact absurd rfl h
theorem runM_inv {np n : Nat} {ls ds : List PyData} (h : runM np n m ls ds ≠ .no) : ds.length + 1 = np := by
  unfold runM at h
  split at h
  · assumption
  · exact absurd rfl h
structure FnF (P : Program) (w : World) (K : PySem.W.Frag) (mg : Str → Option Value) (base : Heap) (k : Nat) (f : Addr) (fd : FuncData) (ps : List Str) (φ : List PyData → Rs) : Prop where
  d : FnG P w K mg base k f fd ps (spD fun ds r => ∃ v, φ ds = .ok v ∧ vD v = some r)
  l : FnG P w K mg base k f fd ps (spL fun ds rs => φ ds = .ok (.l rs))
  e : FnE P w K mg base k f fd ps (spE fun ds er => ∃ x, φ ds = .er x ∧ er = x.r)
theorem fnF_of (Fn : FunR K x qual st f fd) (S : FnScope N ps (defScope st)) (b : SsC [] (famW P w K mg base N qual (defScope st) f k) (defBody st) m) (np n : Nat) (hnp : ps.length = np := by rfl) (hn : N.length = n := by rfl) : FnF P w K mg base (k + 1) f fd ps (runD np n m) := by
  subst hnp hn
  have ok : ∀ ds, ds.length = ps.length → RoOk (SsD [] (famOf P w K mg base N qual (defScope st) f k) (defBody st) (startL N ds)) N.length (m (startC N.length ds)) := fun ds hl => by
    have hfit : ds.length ≤ N.length := by rw [hl]; exact FnScope.fit S
    have w := b.ok (startC N.length ds) (startC_len hfit)
    rw [startC_len hfit, startC_sl] at w
    exact w.imp fun o v => ssd_unpull surW v
  refine ⟨funU Fn S (fun ds r h => ?_) fun ds r h => ?_, funUL Fn S (fun ds r h => ?_) fun ds r h => ?_, ?_⟩
  · obtain ⟨v, h1, _⟩ := h
    exact runD_inv (by rw [h1]; intro z; cases z)
  · obtain ⟨v, h1, h2⟩ := h
    have hl := runD_inv (by rw [h1]; intro z; cases z)
    have w := ok ds hl
    unfold runD at h1
    rw [if_pos hl] at h1
    split at h1
    · next s e => rw [e] at w; cases h1; cases h2; exact .inr ⟨rfl, _, w.1⟩
    · next v2 s e =>
      rw [e] at w
      cases h1
      cases v with
      | d d => cases h2; exact .inl ⟨_, w.1⟩
      | l us => cases h2
      | x u => cases h2; exact .inl ⟨_, w.1⟩
    · cases h1
    · cases h1
  · exact runD_inv (by rw [h]; intro z; cases z)
  · have hl := runD_inv (by rw [h]; intro z; cases z)
    have w := ok ds hl
    unfold runD at h
    rw [if_pos hl] at h
    split at h
    · cases h
    · next v2 s e =>
      rw [e] at w
      cases h
      exact ⟨_, w.1⟩
    · cases h
    · cases h
  · refine funUE Fn S (fun ds er h => ?_) fun ds er h => ?_
    · obtain ⟨u, h1, _⟩ := h
      exact runD_inv (by rw [h1]; intro z; cases z)
    · obtain ⟨u, h1, rfl⟩ := h
      have hl := runD_inv (by rw [h1]; intro z; cases z)
      have hfit : ds.length ≤ N.length := by rw [hl]; exact FnScope.fit S
      unfold runD at h1
      rw [if_pos hl] at h1
      split at h1
      · cases h1
      · cases h1
      · next u2 s e =>
        cases h1
        have w := b.er (startC N.length ds) _ _ (startC_len hfit) e
        rw [startC_sl] at w
        exact ⟨_, w⟩
      · cases h1
theorem FnF.c {φ : List PyData → Rs} (D : FnF P w K mg base k f fd ps φ) (hx : mg x = some (.ref f)) (kp : PySem.W.keepIn K (.ref f) = true) (bi : Binds K fd ps []) : FnC P w K mg base x k φ := by
  have bd : ∀ (s : Shared) (us : List Value), K.In s.heap → us.length = ps.length → BindsTo s fd ⟨us, []⟩ (ps.zip us) := fun s us inK l => by
    have := bi s us inK (by rw [List.append_nil]; exact l)
    rw [List.append_nil] at this
    exact this
  exact ⟨⟨f, fd, ps, D.d, hx, kp, bd⟩, ⟨f, fd, ps, D.l, hx, kp, bd⟩, ⟨f, fd, ps, D.e, hx, kp, bd⟩⟩
theorem fnM_of (Fn : FunR K x qual st f fd) (S : FnScope N ps (defScope st)) (b : SsC [0] (famW P w K mg base N qual (defScope st) f k) (defBody st) m) (hx : mg x = some (.ref f)) (bi : Binds K fd ps []) (np n : Nat) (hnp : ps.length = np := by rfl) (hn : N.length = n := by rfl) : FnM P w K mg base x (k + 1) (runM np n m) := by
  subst hnp hn
  have dfx : ∀ {sp : Sp}, FnG P w K mg base (k + 1) f fd ps sp → Df P w K mg base x (k + 1) sp := fun {sp} G => ⟨f, fd, ps, G, hx, Fn.kp, fun s us inK l => by
    have := bi s us inK (by rw [List.append_nil]; exact l)
    rw [List.append_nil] at this
    exact this⟩
  have ok : ∀ ls ds, ds.length + 1 = ps.length → RoOk (SsD [0] (famOf P w K mg base N qual (defScope st) f k) (defBody st) (startM N ls ds)) N.length (m (startCM N.length ls ds)) := fun ls ds hl => by
    have hfit : ds.length + 1 ≤ N.length := by rw [hl]; exact FnScope.fit S
    have w := b.ok (startCM N.length ls ds) (startCM_len hfit)
    rw [startCM_len hfit, startCM_sl] at w
    exact w.imp fun o v => ssd_unpull surW v
  refine ⟨dfx (funUM Fn S (fun ls ds r h => ?_) fun ls ds r ls' h => ?_), dfx (funUML Fn S (fun ls ds r h => ?_) fun ls ds r ls' h => ?_)⟩
  · obtain ⟨v, h1, _⟩ := h
    exact runM_inv (by rw [h1]; intro z; cases z)
  · obtain ⟨v, h1, h2⟩ := h
    have hl := runM_inv (by rw [h1]; intro z; cases z)
    have w := ok ls ds hl
    unfold runM at h1
    rw [if_pos hl] at h1
    split at h1
    · next s e =>
      rw [e] at w
      split at h1
      · next e0 => cases h1; cases h2; exact .inr ⟨rfl, _, w.1, sls_at e0⟩
      · cases h1
    · next v2 s e =>
      rw [e] at w
      split at h1
      · next e0 =>
        cases h1
        cases v with
        | d d => cases h2; exact .inl ⟨_, w.1, sls_at e0⟩
        | l us => cases h2
        | x u => cases h2; exact .inl ⟨_, w.1, sls_at e0⟩
      · cases h1
    · cases h1
  · exact runM_inv (by rw [h]; intro z; cases z)
  · have hl := runM_inv (by rw [h]; intro z; cases z)
    have w := ok ls ds hl
    unfold runM at h
    rw [if_pos hl] at h
    split at h
    · split at h <;> cases h
    · next v2 s e =>
      rw [e] at w
      split at h
      · next e0 => cases h; exact ⟨_, w.1, sls_at e0⟩
      · cases h
    · cases h
/-- a def that is told nothing of -/
theorem fnC_no (Fn : FunR K x qual st f fd) (hx : mg x = some (.ref f)) (bi : Binds K fd ps []) : FnC P w K mg base x k (fun _ => .no) := by
  have bd : ∀ (s : Shared) (us : List Value), K.In s.heap → us.length = ps.length → BindsTo s fd ⟨us, []⟩ (ps.zip us) := fun s us inK l => by
    have := bi s us inK (by rw [List.append_nil]; exact l)
    rw [List.append_nil] at this
    exact this
  refine ⟨⟨f, fd, ps, ⟨fun vs H Q E h => ?_, fun A outer s H args us vs Q _ _ _ _ _ h => ?_⟩, hx, Fn.kp, bd⟩, ⟨f, fd, ps, ⟨fun vs H Q E h => ?_, fun A outer s H args us vs Q _ _ _ _ _ h => ?_⟩, hx, Fn.kp, bd⟩, ⟨f, fd, ps, ⟨fun vs H Q E h => ?_, fun A outer s H args us vs Q E _ _ _ _ _ h => ?_⟩, hx, Fn.kp, bd⟩⟩
  · obtain ⟨ds, r, G, ⟨v, e, _⟩, _⟩ := h; cases e
  · obtain ⟨ds, r, G, ⟨v, e, _⟩, _⟩ := h; cases e
  · obtain ⟨ds, r, G, e, _⟩ := h; cases e
  · obtain ⟨ds, r, G, e, _⟩ := h; cases e
  · obtain ⟨ds, r, G, ⟨v, e, _⟩, _⟩ := h; cases e
  · obtain ⟨ds, r, G, ⟨v, e, _⟩, _⟩ := h; cases e
/-! ### by names -/
def permL {α : Type} (π : List Nat) (l : List α) : List α := π.filterMap fun i => l[i]?
theorem permL_vals {π : List Nat} {vs : List V} {us : List Value} (h : Vals vs us) : Vals (permL π vs) (permL π us) := by
  unfold permL
  induction π with
  | nil => exact .nil
  | cons i π ih =>
    rw [List.filterMap_cons, List.filterMap_cons]
    cases e : us[i]? with
    | none =>
      have : vs[i]? = none := by
        rw [List.getElem?_eq_none_iff] at e ⊢
        rw [h.length]
        exact e
      rw [this]
      exact ih
    | some u =>
      have hi : i < vs.length := by
        rw [h.length]
        exact (List.getElem?_eq_some_iff.mp e).1
      obtain ⟨u2, e2, r⟩ := h.get (List.getElem?_eq_getElem hi)
      rw [e] at e2
      cases e2
      rw [List.getElem?_eq_getElem hi]
      exact .cons r ih
theorem permL_rp {π : List Nat} {G : Hp} {vs : List V} {ds : List PyData} (h : RpA G vs ds) : RpA G (permL π vs) (permL π ds) := by
  unfold permL
  induction π with
  | nil => exact .nil
  | cons i π ih =>
    rw [List.filterMap_cons, List.filterMap_cons]
    cases e : ds[i]? with
    | none =>
      have : vs[i]? = none := by
        rw [List.getElem?_eq_none_iff] at e ⊢
        rw [h.len]
        exact e
      rw [this]
      exact ih
    | some d =>
      obtain ⟨v, e2, r⟩ := h.get e
      rw [e2]
      exact .cons r ih
/-- f called with names: φ after π -/
theorem FnF.kw {φ : List PyData → Rs} (D : FnF P w K mg base k f fd ps φ) (hx : mg x = some (.ref f)) (kp : PySem.W.keepIn K (.ref f) = true) (π : List Nat) (n : Nat) (ks : List Str)
    (bd : ∀ (s : Shared) (us ws : List Value), K.In s.heap → us.length = n → ws.length = ks.length → BindsTo s fd ⟨us, ks.zip ws⟩ (ps.zip (permL π (us ++ ws)))) : FnK P w K mg base x k n ks (fun ds => φ (permL π ds)) := by
  refine ⟨⟨permL π, permL π, permL π, φ, fun _ _ => rfl, ?_, ?_, ?_⟩⟩
  · exact ⟨⟨f, fd, ps, D.d, hx, kp, bd⟩, fun vs us _ r => permL_vals r, fun G vs ds _ r => permL_rp r⟩
  · exact ⟨⟨f, fd, ps, D.l, hx, kp, bd⟩, fun vs us _ r => permL_vals r, fun G vs ds _ r => permL_rp r⟩
  · exact ⟨⟨f, fd, ps, D.e, hx, kp, bd⟩, fun vs us _ r => permL_vals r, fun G vs ds _ r => permL_rp r⟩
/-- .. what is left out has a default -/
theorem FnF.dfl {φ : List PyData → Rs} (D : FnF P w K mg base k f fd ps φ) (hx : mg x = some (.ref f)) (kp : PySem.W.keepIn K (.ref f) = true) (n : Nat) (dvs : List V) (dds : List PyData) (hd : ∀ G : Hp, RpA G dvs dds) (hn : n + dvs.length = ps.length) (bi : ∃ us, Vals dvs us ∧ Binds K fd ps us) : FnK P w K mg base x k n [] (fun ds => φ (ds ++ dds)) := by
  obtain ⟨us, hv, hb⟩ := bi
  have bd : ∀ (s : Shared) (us2 ws : List Value), K.In s.heap → us2.length = n → ws.length = ([] : List Str).length → BindsTo s fd ⟨us2, ([] : List Str).zip ws⟩ (ps.zip ((us2 ++ ws) ++ us)) := fun s us2 ws inK l1 l2 => by
    obtain rfl : ws = [] := List.length_eq_zero_iff.mp l2
    have := hb s us2 inK (by rw [List.length_append, l1, ← hv.length]; exact hn)
    rw [List.append_nil]
    exact this
  refine ⟨⟨(· ++ us), (· ++ dvs), (· ++ dds), φ, fun _ _ => rfl, ?_, ?_, ?_⟩⟩
  · exact ⟨⟨f, fd, ps, D.d, hx, kp, bd⟩, fun vs us2 _ r => r.append hv, fun G vs ds _ r => r.app (hd G)⟩
  · exact ⟨⟨f, fd, ps, D.l, hx, kp, bd⟩, fun vs us2 _ r => r.append hv, fun G vs ds _ r => r.app (hd G)⟩
  · exact ⟨⟨f, fd, ps, D.e, hx, kp, bd⟩, fun vs us2 _ r => r.append hv, fun G vs ds _ r => r.app (hd G)⟩
/-! ### a def that gets a lambda -/
def famWO (P : Program) (w : World) (K : PySem.W.Frag) (mg : Str → Option Value) (base : Heap) (N : List Str) (qual : Str) (sc : Scope) (g : Addr) (k : Nat) (G1 : Hp) (f : Addr) (o : Oc) : FamW where
  F := (famW P w K mg base N qual sc g k).F.pull { j : FamJ qual sc g k × XK // LamO P w K mg base G1 j.1.1.2.2.2.1 j.1.1.2.2.2.2 (frs j.1.1.2.2.1) f k o } (·.1)
  W := fun j => (famW P w K mg base N qual sc g k).W j.1
  y := fun j => (famW P w K mg base N qual sc g k).y j.1
  hy := fun j => (famW P w K mg base N qual sc g k).hy j.1
  hst := fun j => (famW P w K mg base N qual sc g k).hst j.1
  hfr := fun j => (famW P w K mg base N qual sc g k).hfr j.1
  hex := fun j => (famW P w K mg base N qual sc g k).hex j.1
  po := fun j => (famW P w K mg base N qual sc g k).po j.1
  tk := fun j => (famW P w K mg base N qual sc g k).tk j.1
@[reducible] def Mp.fn (g : Addr) (G : Hp) : Mp := ⟨MP.CA, g, G⟩
theorem startF_sl {t : Th} {g1 : Addr} {G1 : Hp} : @sls (Mp.fn g1 G1) (.fn t :: List.replicate (N.length - 1) .no) = startF N g1 G1 := by
  unfold startF sls
  rw [List.map_cons, List.map_replicate]
  rfl
theorem fnT_of {a : Str} {n : Nat} {mt : Th → Sm} (Fn : Fun K x qual st f fd) (S : FnScope N [a] (defScope st)) (b : ∀ (t : Th) (g1 : Addr) (G1 : Hp), @SsC _ (Mp.fn g1 G1) [] (famWO P w K mg base N qual (defScope st) f k G1 g1 (Th.o t)) (defBody st) (mt t)) (hx : mg x = some (.ref f)) (bi : Binds K fd [a] []) (hn : N.length = n := by rfl) : FnT P w K mg base x k (fun t => runT n (mt t) t) := by
  subst hn
  refine ⟨funO Fn S (fun o r g1 G1 h => ?_) hx bi⟩
  obtain ⟨t, v, rfl, h1, h2⟩ := h
  have fit : 1 ≤ N.length := FnScope.fit S
  have l0 : (Ce.fn t :: List.replicate (N.length - 1) Ce.no).length = N.length := by
    rw [List.length_cons, List.length_replicate]
    omega
  have w0 := @SsC.ok _ (Mp.fn g1 G1) _ _ _ _ (b t g1 G1) (.fn t :: List.replicate (N.length - 1) .no) l0
  rw [startF_sl] at w0
  have un : ∀ {o : Out}, SsD [] (famWO P w K mg base N qual (defScope st) f k G1 g1 (Th.o t)).F (defBody st) (startF N g1 G1) o → SsD [] (famO P w K mg base N qual (defScope st) f k G1 g1 (Th.o t)) (defBody st) (startF N g1 G1) o := fun {o} ⟨ts, ps, run⟩ =>
    ⟨ts, fun j => ps ⟨(j.1, E0), j.2⟩, run⟩
  unfold runT at h1
  split at h1
  · next v2 s e =>
    rw [e] at w0
    cases h1
    cases v with
    | d d => cases h2; exact ⟨_, un w0.1⟩
    | l us => cases h2
    | x u => cases h2; exact ⟨_, un w0.1⟩
  · cases h1
  · cases h1
end
end DI
namespace DI
open PySem PyProof.Rows L2 DL LamX
variable [TabL] [MP : Mp]
/-! ### defs whose code stands at c -/
def famWC (P : Program) (w : World) (K : PySem.W.Frag) (mg : Str → Option Value) (base : Heap) (N : List Str) (qual : Str) (sc : Scope) (f c : Addr) (k : Nat) : FamW where
  F := (famW P w K mg base N qual sc f k).F.pull { j : FamJ qual sc f k × XK // j.1.1.1 = .ref c } (·.1)
  W := fun j => (famW P w K mg base N qual sc f k).W j.1
  y := fun j => (famW P w K mg base N qual sc f k).y j.1
  hy := fun j => (famW P w K mg base N qual sc f k).hy j.1
  hst := fun j => (famW P w K mg base N qual sc f k).hst j.1
  hfr := fun j => (famW P w K mg base N qual sc f k).hfr j.1
  hex := fun j => (famW P w K mg base N qual sc f k).hex j.1
  po := fun j => (famW P w K mg base N qual sc f k).po j.1
  tk := fun j => (famW P w K mg base N qual sc f k).tk j.1
theorem famWC_un {P : Program} {w : World} {K : PySem.W.Frag} {mg : Str → Option Value} {base : Heap} {N : List Str} {qual : Str} {sc : Scope} {f c : Addr} {k : Nat} {z : List Nat} {sts : List Stmt} {L : List Sl} {o : Out} (h : SsD z (famWC P w K mg base N qual sc f c k).F sts L o) : SsD z (famC P w K mg base N qual sc f c k) sts L o := by
  obtain ⟨ts, ps, run⟩ := h
  exact ⟨ts, fun j => ps ⟨(j.1, E0), j.2⟩, run⟩
theorem famWC_code {P : Program} {w : World} {K : PySem.W.Frag} {mg : Str → Option Value} {base : Heap} {N : List Str} {qual : Str} {sc : Scope} {f c : Addr} {k : Nat} (j : (famWC P w K mg base N qual sc f c k).F.J) : ((famWC P w K mg base N qual sc f c k).F.x j).env.code = .ref c := j.2
/-! ### a def that changes its first argument and makes lambdas -/
def startCMT (n j : Nat) (ms ds : List PyData) : Sx := (startCM n ms ds).set j .tb
def runMT (np n j : Nat) (b : Sm) (ms ds : List PyData) : Rm :=
  if ds.length + 1 = np then
    match b (startCMT n j ms ds) with
    | .rt v s => match (s[0]? : Option Ce) with
      | some (.ow ms') => .ok v ms'
      | _ => .no
    | _ => .no
  else .no
structure FnMT (P : Program) (w : World) (K : PySem.W.Frag) (mg : Str → Option Value) (base : Heap) (x : Str) (k : Nat) (φ : List PyData → List PyData → Rm) : Prop where
  d : Df P w K mg base x k (spMT fun ms ds r => ∃ d, φ ms ds = .ok (.d d) r.2 ∧ d = r.1)
section
variable {P : Program} {w : World} {K : PySem.W.Frag} {mg : Str → Option Value} {base : Heap} {x qual : Str} {st : Stmt} {f c : Addr} {fd : FuncData} {N ps : List Str} {k j : Nat} {m : Sm}
theorem FnMT.mono {φ : List PyData → List PyData → Rm} {j : Nat} (D : FnMT P w K mg base x j φ) (h : j ≤ k := by exact Nat.le_of_ble_eq_true rfl) : FnMT P w K mg base x k φ := ⟨D.d.mono h⟩
theorem fnMT_of {params : Arguments} {body : List Stmt} {scope : Scope} {dV kV doc pm ct oc : Value} {an od : Option Addr} {osl : Array (Option Value)}
    (lk : K.lookup f = some ⟨oc, od, .func (PySem.W.fnOf x qual params body scope dV kV doc pm an (.ref c) ct), osl⟩) (hcd : PySem.W.codeIn K (.ref c) qual = true) (S : FnScope N ps scope) (np n : Nat)
    (b : SsC [0] (famWC P w K mg base N qual scope f c k) body m) (hx : mg x = some (.ref f)) (kp : PySem.W.keepIn K (.ref f) = true) (bi : Binds K (PySem.W.fnOf x qual params body scope dV kV doc pm an (.ref c) ct) ps []) (hj : np ≤ j) (hjn : j < n) (hnp : ps.length = np := by rfl) (hn : N.length = n := by rfl) : FnMT P w K mg base x (k + 1) (runMT np n j m) := by
  subst hnp hn
  have inv : ∀ {ls ds : List PyData} {v : Vl} {us : List PyData}, runMT ps.length N.length j m ls ds = .ok v us → ds.length + 1 = ps.length := fun {ls ds v us} h => by
    unfold runMT at h
    split at h
    · assumption
    · cases h
  have noj : ∀ {ls ds : List PyData}, ds.length + 1 = ps.length → (startM N ls ds)[j]? = some .no := fun {ls ds} hl => by
    unfold startM
    have h1 : (Sl.ow ls :: (ds.map Sl.va ++ List.replicate (N.length - (ds.length + 1)) .no)) = (Sl.ow ls :: ds.map Sl.va) ++ List.replicate (N.length - (ds.length + 1)) .no := rfl
    rw [h1, List.getElem?_append_right (by rw [List.length_cons, List.length_map]; omega), List.getElem?_replicate, if_pos (by rw [List.length_cons, List.length_map]; omega)]
  refine ⟨⟨f, _, ps, funMT (j := j) lk hcd S (fun ls ds r h => ?_) (fun ls ds r h => ?_) fun ls ds r ls' h => ?_, hx, kp, fun s us inK l => by
    have := bi s us inK (by rw [List.append_nil]; exact l)
    rw [List.append_nil] at this
    exact this⟩⟩
  · obtain ⟨d, h1, _⟩ := h
    exact inv h1
  · obtain ⟨d, h1, _⟩ := h
    exact noj (inv h1)
  · obtain ⟨d, h1, h2⟩ := h
    have h2 : d = r := h2
    subst h2
    have hl := inv h1
    have hfit : ds.length + 1 ≤ N.length := by rw [hl]; exact FnScope.fit S
    have l0 : (startCMT N.length j ls ds).length = N.length := by unfold startCMT; rw [List.length_set]; exact startCM_len hfit
    have w := b.ok _ l0
    rw [l0] at w
    have e0 : sls (startCMT N.length j ls ds) = (startM N ls ds).set j .tb := by
      unfold startCMT
      rw [sls_set, startCM_sl]
      rfl
    rw [e0] at w
    unfold runMT at h1
    rw [if_pos hl] at h1
    split at h1
    · next v2 s e =>
      rw [e] at w
      split at h1
      · next e1 => cases h1; exact ⟨_, famWC_un w.1, sls_at e1⟩
      · cases h1
    · cases h1
end
def eCallMT (φ : List PyData → List PyData → Rm) (i j : Nat) (ms : Am) : Em := fun s =>
  match s[i]? with
  | some (.ow _) => (ms s).bd fun ds s1 =>
    match s1[i]?, s1[j]? with
    | some (.ow ls), some .tb =>
      match φ ls ds with
      | .ok (.d d) ls' => .ok (.d d) (s1.set i (.ow ls'))
      | _ => .no
    | _, _ => .no
  | _ => .no
section
variable {F : Fam} {es : List Expr} {ms : Am} {s s' : Sx} {v : Vl} {pos p : Pos} {x y : Str}
theorem ef_callMT {ψ : List PyData → List PyData → Rm} {py : Pos} (i j : Nat) (D : FnMT F.P F.w F.K F.mg F.base x F.k ψ) (ha : AF F es ms) (hg : GlF F x := by rfl)
    (hN : F.N[i]? = some y := by rfl) (hv : Vis F.sc y := by first | exact Or.inl rfl | exact Or.inr (Or.inl rfl) | exact Or.inr (Or.inr rfl)) (hd : (y == ("__debug__" : Str)) = false := by decide) (hcd : (y == ("__classdict__" : Str)) = false := by decide)
    (hdb : (x == ("__debug__" : Str)) = false := by decide) (he : ∀ env, starEach (.Name y py :: es) env = (false, eval (.Name y py) env) :: starEach es env := by intro _; rfl) (hpl : ∀ env, (backTo pos (starEach es env)).any (·.1) = false := by intro _; rfl) : EF F (.Call (.Name x p) (.Name y py :: es) [] pos) (eCallMT ψ i j ms) := fun s v s' h => by
  unfold eCallMT at h
  split at h
  · next us e0 =>
    replace h := ha.bd h
    obtain ⟨ds, s1, h1, k1, l1, h⟩ := h
    split at h
    · next ls e1 e3 =>
      split at h
      · next d ls' e2 =>
        cases h
        refine ⟨?_, k1.trans (.set e1)⟩
        rw [sls_set]
        exact ed_callMT (ms' := ls') i j D.d (sls_at e1) (sls_at e3) h1 ⟨_, e2, rfl⟩ hg hN hv hd hcd hdb he hpl ⟨_, sls_at e0⟩
      · cases h
    · cases h
  · cases h
end
/-! ### the law's own def -/
def ScrOk (K : PySem.W.Frag) (a : Addr) (ns : List Int) (L : List Sl) (σ : L2.St) (G H : Hp) : Prop :=
  σ[0]? = some (some (.ref a)) ∧ ((∃ o, H a = some o ∧ Pl o ∧ G a = none ∧ ¬ Own L σ a ∧ ∀ H' : Hp, H' a = some o → SqL K H' a (ns.map V.int)) ∨ ∀ H' : Hp, SqL K H' a (ns.map V.int))
theorem pl_frz {o : Obj} {xs : List V} : Pl (.frz o (.lst xs)) := ⟨(fun _ z => by cases z), (fun _ _ z => by unfold LamX.CodeO at z; cases z)⟩
theorem ScrOk.sq {K : PySem.W.Frag} {a : Addr} {ns : List Int} {L : List Sl} {σ : L2.St} {G H : Hp} (h : ScrOk K a ns L σ G H) : SqL K H a (ns.map V.int) := by
  rcases h.2 with ⟨o, e, _, _, _, q⟩ | q
  · exact q H e
  · exact q H
theorem ScrOk.ts {K : PySem.W.Frag} {a : Addr} {ns : List Int} {L L' : List Sl} {σ σ' : L2.St} {G H G' H' : Hp} (h : ScrOk K a ns L σ G H) (T : Ts L σ G H L' σ' G' H') (A : Anc [0] σ σ') : ScrOk K a ns L' σ' G' H' := by
  obtain ⟨h1, h2⟩ := h
  refine ⟨by rw [A 0 (List.mem_singleton.mpr rfl)]; exact h1, ?_⟩
  rcases h2 with ⟨o, e, p, g1, g2, q⟩ | q
  · obtain ⟨k1, k2⟩ := T.fr a o e g1 g2 p
    refine .inl ⟨o, k1, p, k2, fun w => ?_, q⟩
    rcases T.ow a w with w | w
    · exact g2 w
    · rw [e] at w; cases w
  · exact .inr q
theorem ScrOk.start {K : PySem.W.Frag} {a : Addr} {ns : List Int} {L : List Sl} {σ : L2.St} {H : Hp} (h0 : σ[0]? = some (some (.ref a))) (sq : SqL K H a (ns.map V.int)) (no : ¬ Own L σ a) : ScrOk K a ns L σ (fun _ => none) H := by
  refine ⟨h0, ?_⟩
  rcases sq with (e | ⟨o, e⟩) | e
  · exact .inl ⟨_, e, pl_lst, rfl, no, fun H' e' => .inl (.inl e')⟩
  · exact .inl ⟨_, e, pl_frz, rfl, no, fun H' e' => .inl (.inr ⟨o, e'⟩)⟩
  · exact .inr fun H' => .inr e
def spLaw (K : PySem.W.Frag) (T : List (Addr × Str)) : Sp := fun vs H Q _ => ∃ (a : Addr) (ns : List Int), vs = [.ref a] ∧ ns.length ≤ 63 ∧ SqL K H a (ns.map V.int) ∧ Tabs T H ∧ ∀ H', Q (.bl true) H'
/-- the law's statements from a state on: they hand back True -/
def LawJ (F : Fam) (a : Addr) (ns : List Int) (sts : List Stmt) (s : Sx) : Prop := ∃ ts, PSsf F sts ts ∧ ∀ σ G H, Sta (sls s) σ G H → ScrOk F.K a ns (sls s) σ G H → ∀ D : Ends, (∀ H', D.rt (.bl true) H') → ts D σ H
section
variable {Y : FamW} {F : Fam} {a : Addr} {ns : List Int} {st : Stmt} {sts : List Stmt} {m : Sm} {s s1 : Sx} {n j : Nat}
theorem lj_end (h : SsC [] Y sts m) (hl : s.length = Y.F.N.length) (q : m s = .rt (.d (.bool true)) s1) : LawJ Y.F a ns sts s := by
  have w := h.ok s hl
  rw [q] at w
  obtain ⟨ts, ps, run⟩ := w.1
  exact ⟨ts, ps, fun σ G H S _ D d => run σ G H S D fun v σ' G' H' S' T' A' r => by cases r; exact d H'⟩
theorem lj_cons (h : SC [0] Y st m) (hl : s.length = Y.F.N.length) (q : m s = .nx s1) (r : LawJ Y.F a ns sts s1) : LawJ Y.F a ns (st :: sts) s := by
  have w := h.ok s hl
  rw [q] at w
  obtain ⟨t1, p1, run1⟩ := w.1
  obtain ⟨t2, p2, run2⟩ := r
  refine ⟨_, fun j => pss_cons (p1 j) (p2 j), fun σ G H S C D d => run1 σ G H S _ fun σ' G' H' S' T' A' => ?_⟩
  exact run2 σ' G' H' S' (C.ts T' A') D d
theorem lj_wp (W : List Nat) (r : LawJ F a ns sts (wipeC W s)) : LawJ F a ns sts s := by
  obtain ⟨ts, ps, run⟩ := r
  refine ⟨ts, ps, fun σ G H S C D d => ?_⟩
  rw [sls_wipe] at run
  obtain ⟨S1, T1⟩ := S.cut (W := W)
  exact run σ G H S1 (C.ts T1 fun _ _ => rfl) D d
/-- nothing but the tables -/
def noS (n j : Nat) : Sx := (List.replicate n .no).set j .tb
theorem noS_len : (noS n j).length = n := by unfold noS; rw [List.length_set, List.length_replicate]
theorem noS_sl : sls (noS n j) = noT n j := by
  unfold noS noT noL
  rw [sls_set]
  unfold sls
  rw [List.map_replicate]
  rfl
/-- for x in [f(y) for y in script[:k] + [0]]: .. -/
theorem lj_fresh {elt : Expr} {scope : Scope} {body rest : List Stmt} {x cx y : Str} {px fp lp cp p1 p3 p4 p5 p6 c1 c2 : Pos} {j1 j2 kk ci i0 : Nat} {me : Em} {mb mr : Sm} {fr : Int → List PyData}
    (hlen : ns.length ≤ 63) (hn : Y.F.N.length = n) (hN0 : Y.F.N[0]? = some y := by rfl) (hv : Vis Y.F.sc y := by first | exact Or.inl rfl | exact Or.inr (Or.inl rfl) | exact Or.inr (Or.inr rfl)) (hd : (y == ("__debug__" : Str)) = false := by decide) (hcd : (y == ("__classdict__" : Str)) = false := by decide)
    (he : EF (Y.F.blk scope) elt me) (hb : BlkOk Y.F.N Y.F.sc scope [(cx, ci)]) (ht : TgD (Y.F.blk scope) (.Name cx cp) [ci] (fun _ => True) (fun d L => L.set ci (.va d)))
    (qe : ∀ c : Int, me ((List.replicate n Ce.no).set ci (.va (.int c))) = .ok (.l (fr c)) ((List.replicate n Ce.no).set ci (.va (.int c))))
    (cb : SsC [] Y body mb) (qb : ∀ c : Int, ∃ s1, mb ((noS n j).set i0 (.ow (fr c))) = .nx s1 ∧ s1[j]? = some .tb)
    (cr : SsC [] Y rest mr) (qr : ∃ s1, mr (noS n j) = .rt (.d (.bool true)) s1)
    (hi : Y.F.N[i0]? = some x := by rfl) (hx : Loc Y.F.sc x := by first | exact Or.inl rfl | exact Or.inr rfl) (hf : StF Y.F x := by first | exact Or.inl rfl | exact Or.inr rfl) (hN : Y.F.N.Nodup := by exact of_decide_eq_true rfl)
    (hs : ∀ env x, foldedSetIterable (.ListComp elt [⟨.Name cx cp, .BinOp (.Subscript (.Name y p1) (.Slice none (some (.Constant (.int (kk : Int)) j1 c1)) none p3) p4) .Add (.List [.Constant (.int 0) j2 c2] p5) p6, [], 0⟩] scope lp) env x = pure x := by intro _ _; rfl) (hs2 : ∀ env x, foldedSetIterable (.BinOp (.Subscript (.Name y p1) (.Slice none (some (.Constant (.int (kk : Int)) j1 c1)) none p3) p4) .Add (.List [.Constant (.int 0) j2 c2] p5) p6) env x = pure x := by intro _ _; rfl) (hij : i0 ≠ j := by decide) (hjn : j < n := by decide) :
    LawJ Y.F a ns (.For (.Name x px) (.ListComp elt [⟨.Name cx cp, .BinOp (.Subscript (.Name y p1) (.Slice none (some (.Constant (.int (kk : Int)) j1 c1)) none p3) p4) .Add (.List [.Constant (.int 0) j2 c2] p5) p6, [], 0⟩] scope lp) body [] fp :: rest) (noS n j) := by
  let its : List PyData := DL.cutD (ns.map PyData.int) none (some (kk : Int)) ++ [.int 0]
  have itsI : ∀ d ∈ its, ∃ c, d = .int c := fun d h => by
    rcases List.mem_append.mp h with h | h
    · have h1 := List.mem_of_mem_drop (List.mem_of_mem_take h)
      obtain ⟨c, _, rfl⟩ := List.mem_map.mp h1
      exact ⟨c, rfl⟩
    · exact ⟨0, List.mem_singleton.mp h⟩
  have itsL : its.length ≤ 64 := by
    show (DL.cutD (ns.map PyData.int) none (some (kk : Int)) ++ [PyData.int 0]).length ≤ 64
    unfold DL.cutD
    rw [List.length_append, List.length_take, List.length_drop, List.length_map]
    show min _ _ + 1 ≤ 64
    omega
  let frD : PyData → List PyData := fun d => match d with | .int c => fr c | _ => []
  let C : L2.St → Hp → Prop := fun σ H => ∃ a, σ[0]? = some (some (.ref a)) ∧ SqL Y.F.K H a (ns.map V.int)
  have itc : ItC C Y.F (.Name cx cp) (.BinOp (.Subscript (.Name y p1) (.Slice none (some (.Constant (.int (kk : Int)) j1 c1)) none p3) p4) .Add (.List [.Constant (.int 0) j2 c2] p5) p6) (noL n) its := by
    obtain ⟨tb, qb, rb⟩ := fd_lst (F := Y.F) (L := noL n) (pos := p5) (ad_one (ed_int (F := Y.F) (L := noL n) (n := 0) (j := j2) (pos := c2)))
    refine ⟨_, plf Y.F (fun j => pe_op op_cat (pe_slice (slLf Y.F j) (pvF Y.F 0 hN0 hv hd hcd j) po_none (po_some pe_int)) (qb j)), fun σ G H S cH R q => ?_⟩
    obtain ⟨a, e1, sq⟩ := cH
    have rp0 : ∀ G : Hp, RpA G (cutV (ns.map V.int) none (some (kk : Int))) (DL.cutD (ns.map PyData.int) none (some (kk : Int))) := fun G => RpA.cut (RpA.ints ns) none (some (kk : Int))
    refine ⟨.ref a, e1, (kk : Int), rfl, a, _, rfl, sq, fun p hp => ?_⟩
    obtain ⟨S1, T1⟩ := S.new (o := .lst (cutV (ns.map V.int) none (some (kk : Int)))) hp
    refine rb σ G _ S1 _ fun p2 xs2 G3 H3 S3 T3 hp2 hp2' gp2 rp2 => ?_
    obtain ⟨k1, k2⟩ := T3.fr p _ upd_same (S.gn hp) noL_own pl_lst
    have hlen2 : (cutV (ns.map V.int) none (some (kk : Int))).length + xs2.length ≤ sizeLine := by
      rw [(rp0 G).len, rp2.len]
      have h3 : (DL.cutD (ns.map PyData.int) none (some (kk : Int)) ++ [PyData.int 0]).length ≤ 64 := itsL
      rw [List.length_append] at h3
      exact Nat.le_trans h3 (by decide)
    refine ⟨p, p2, _, xs2, rfl, rfl, k1, hp2', hlen2, fun p3 hp3 => ?_⟩
    obtain ⟨S4, T4⟩ := S3.new (o := .lst (cutV (ns.map V.int) none (some (kk : Int)) ++ xs2)) hp3
    have TT := (T1.trans T3).trans T4
    obtain ⟨S5, g5⟩ := S4.freeze (p := p3) upd_same (S3.gn hp3) noL_own
    have T5 : Te (noL n) σ G H (noL n) (upd G3 p3 (.lst (cutV (ns.map V.int) none (some (kk : Int)) ++ xs2))) (upd H3 p3 (.lst (cutV (ns.map V.int) none (some (kk : Int)) ++ xs2))) := by
      refine ⟨TT.g.trans g5, fun b o h g nn t => ?_, TT.ow, TT.th.trans (.frz nt_lst)⟩
      obtain ⟨f1, f2⟩ := TT.fr b o h g nn t
      refine ⟨f1, ?_⟩
      rw [upd_ne (ne_of_none h ((T1.trans T3).back hp3))]
      exact f2
    have rr : RpA (upd G3 p3 (.lst (cutV (ns.map V.int) none (some (kk : Int)) ++ xs2))) (cutV (ns.map V.int) none (some (kk : Int)) ++ xs2) its := ((rp0 _).app (rp2.up g5))
    have sq2 : ∀ {G2 H2 : Hp}, Same (upd G3 p3 (.lst (cutV (ns.map V.int) none (some (kk : Int)) ++ xs2))) G2 → Same G2 H2 → H2 p3 = some (.lst (cutV (ns.map V.int) none (some (kk : Int)) ++ xs2)) := fun g gh => gh _ _ (g _ _ upd_same)
    refine ⟨p3, rfl, ⟨_, SqL.of upd_same⟩, q _ _ _ S5 T5 fun i G2 H2 g gh => ⟨fun hi => ⟨_, SqL.of (sq2 g gh), by rw [rr.len]; exact hi⟩, fun d hd => ?_⟩⟩
    obtain ⟨v, hv, rv⟩ := rr.get hd
    refine ⟨⟨_, v, SqL.of (sq2 g gh), hv⟩, fun x H3 hy => .inl ⟨hy.1, ?_⟩⟩
    have e1 := hy.2 _ (SqL.of (sq2 g gh))
    rw [hv] at e1
    cases e1
    exact rv.up g
  have e0 : ∀ d, sls ((List.replicate n Ce.no).set ci (.va d)) = (noL n).set ci (.va d) := fun d => by
    rw [sls_set]
    unfold sls noL
    rw [List.map_replicate]
    rfl
  have row := comp_fresh (pos := lp) (C := C) (own := [(cx, ci)]) (T := [ci]) (elt := elt) (iter := .BinOp (.Subscript (.Name y p1) (.Slice none (some (.Constant (.int (kk : Int)) j1 c1)) none p3) p4) .Add (.List [.Constant (.int 0) j2 c2] p5) p6) frD hn.symm itc hb ht (fun k hk => by simpa using hk) (fun d hd => by
    obtain ⟨c, rfl⟩ := itsI d hd
    refine ⟨trivial, fun k us h => ?_, ?_⟩
    · by_cases hk : ci = k
      · subst hk
        rw [List.getElem?_set] at h
        simp only [if_true] at h
        split at h <;> cases h
      · rw [List.getElem?_set_ne hk] at h
        cases noL_at h
    · have w := (he _ _ _ (qe c)).1
      rw [e0] at w
      exact w) (Nat.le_trans itsL (by decide)) hN hs2
  have loop := for_freshT (F := Y.F) (C := C) (n := n) (its := its) (body := body) (x := x) (px := px) (fp := fp) i0 j frD hn.symm row (fun d hd => by
    obtain ⟨c, rfl⟩ := itsI d hd
    obtain ⟨s1, q1, q2⟩ := qb c
    have hl1 : ((noS n j).set i0 (.ow (fr c))).length = Y.F.N.length := by rw [List.length_set, noS_len, hn]
    have w := cb.ok _ hl1
    rw [q1] at w
    obtain ⟨w1, w2⟩ := w
    rw [sls_set, noS_sl] at w1
    rw [hl1, hn] at w2
    have e5 : sls (wipeC ((List.range n).filter (· ≠ j)) s1) = noT n j := by
      apply List.ext_getElem?
      intro k
      rw [sls_get, wipeC_get]
      by_cases hk : k < n
      · have hk1 : k < s1.length := by rw [w2]; exact hk
        rw [List.getElem?_eq_getElem hk1]
        simp only [Option.map_some]
        by_cases hkj : k = j
        · subst hkj
          rw [List.getElem?_eq_getElem hk1] at q2
          replace q2 := Option.some.inj q2
          have : ¬ (k ∈ (List.range n).filter (· ≠ k)) := by simp
          rw [if_neg this]
          unfold noT noL
          rw [List.getElem?_set_self (by simpa using hk)]
          rw [q2]
          rfl
        · have : k ∈ (List.range n).filter (· ≠ j) := by simp [hk, hkj]
          rw [if_pos this]
          unfold noT noL
          rw [List.getElem?_set_ne (fun z => hkj z.symm), List.getElem?_replicate, if_pos hk]
          rfl
      · have hk1 : s1.length ≤ k := by rw [w2]; omega
        rw [List.getElem?_eq_none hk1]
        unfold noT noL
        rw [List.getElem?_eq_none (by simp; omega)]
        rfl
    have w3 := ss_nxwk (wk_cut (W := (List.range n).filter (· ≠ j))) w1
    rw [← sls_wipe, e5] at w3
    exact w3) hs hi hx hf hN
  obtain ⟨t1, q1, r1⟩ := loop
  obtain ⟨s2, qr⟩ := qr
  have w := cr.ok (noS n j) (by rw [noS_len, hn])
  rw [qr] at w
  obtain ⟨t2, q2, r2⟩ := w.1
  refine ⟨_, fun j => pss_cons (q1 j) (q2 j), fun σ G H S cc D d => ?_⟩
  rw [noS_sl] at S r2
  have tt : Tabs TabL.T H ∧ NoT G := S.tabs (i := j) (by unfold noT noL; rw [List.getElem?_set_self (by simpa using hjn)])
  refine r1 σ G H S ⟨a, cc.1, cc.sq⟩ tt _ fun σ' G' H' S' T' A' => ?_
  exact r2 σ' G' H' S' _ fun v σ2 G2 H2 S3 T3 A3 rv => by cases rv; exact d H2
end
section
variable {P : Program} {w : World} {K : PySem.W.Frag} {mg : Str → Option Value} {base : Heap} {x qual y : Str} {st : Stmt} {f c : Addr} {fd : FuncData} {N : List Str} {k j : Nat}
theorem law_core {F : Fam} {body : List Stmt} {n j : Nat} (hn : N.length = n) (h0 : 0 < n) (hj : j < n) (hjn : j ≠ 0) (hJ : ∀ a ns, ns.length ≤ 63 → LawJ F a ns body (noS n j)) (hK : F.K = K) (vs : List V) (H : Hp) (Q : VK) (E : XK) (h : spLaw K TabL.T vs H Q E) :
    ∃ t, PSsf F body t ∧ t { nx := fun _ H' => Q .non H', rt := Q } (L2.start N vs) H := by
  obtain ⟨a, ns, rfl, hl, sq, tb, hQ⟩ := h
  obtain ⟨ts, ps, run⟩ := hJ a ns hl
  have nt : NoT (fun _ : Addr => (none : Option HO)) := fun b o h => by cases h
  have ln : (L2.start N [V.ref a]).length = n := by
    unfold L2.start
    simp
    omega
  have S0 : Sta (noT n j) (L2.start N [V.ref a]) (fun _ => none) H := staT ln (fun b o h => by cases h) ⟨tb, nt⟩
  refine ⟨ts, ps, run _ (fun _ => none) H (by rw [noS_sl]; exact S0) ?_ _ fun H' => hQ H'⟩
  rw [noS_sl, hK]
  exact ScrOk.start (start_get (i := 0) rfl) sq noT_own
/-- the law, no lambda made in it -/
theorem law_fn {n j : Nat} (Fn : FunR K x qual st f fd) (S : FnScope N [y] (defScope st)) (hJ : ∀ a ns, ns.length ≤ 63 → LawJ (famW P w K mg base N qual (defScope st) f k).F a ns (defBody st) (noS n j)) (hn : N.length = n := by rfl) (h0 : 0 < n := by decide) (hj : j < n := by decide) (hjn : j ≠ 0 := by decide) : FnG P w K mg base (k + 1) f fd [y] (spLaw K TabL.T) := by
  obtain ⟨oc, od, dV, kV, doc, pm, an, cdv, ct, osl, rfl, lk, hcd⟩ := Fn.ex
  refine fnBody lk hcd S (fun vs H Q E h => ?_) fun vs H Q h => ?_
  · obtain ⟨a, ns, rfl, _⟩ := h
    rfl
  · obtain ⟨t, ps, r⟩ := law_core hn h0 hj hjn hJ rfl vs H Q E0 h
    refine ⟨t, fun i => ?_, r⟩
    exact ps (i, E0)
/-- .. its code at c -/
theorem law_fnC {params : Arguments} {body : List Stmt} {scope : Scope} {dV kV doc pm ct oc : Value} {an od : Option Addr} {osl : Array (Option Value)} {n j : Nat}
    (lk : K.lookup f = some ⟨oc, od, .func (PySem.W.fnOf x qual params body scope dV kV doc pm an (.ref c) ct), osl⟩) (hcd : PySem.W.codeIn K (.ref c) qual = true) (S : FnScope N [y] scope) (hJ : ∀ a ns, ns.length ≤ 63 → LawJ (famWC P w K mg base N qual scope f c k).F a ns body (noS n j)) (hn : N.length = n := by rfl) (h0 : 0 < n := by decide) (hj : j < n := by decide) (hjn : j ≠ 0 := by decide) : FnG P w K mg base (k + 1) f (PySem.W.fnOf x qual params body scope dV kV doc pm an (.ref c) ct) [y] (spLaw K TabL.T) := by
  refine fnG_of lk hcd S (fun vs H Q E h => ?_) fun A outer s H vs Q hg hr h => ?_
  · obtain ⟨a, ns, rfl, _⟩ := h
    rfl
  · obtain ⟨t, ps, r⟩ := law_core hn h0 hj hjn hJ rfl vs H Q E0 h
    refine ⟨t, ?_, r⟩
    exact ps ⟨(⟨(.ref c, A, outer, s, H), hg, hr⟩, E0), rfl⟩
end
end DI
/-! more of what programs ask -/
namespace DI
open PySem PyProof.Rows L2 DL LamX
def maxI : Int → List Int → Int
  | m, [] => m
  | m, n :: ns => maxI (if m < n then n else m) ns
def oMaxD : PyData → PyData → Option Vl
  | .list ds, .int d => (intsOf ds).map fun ns =>
    match ns with
    | [] => .d (.int d)
    | n :: ns => .d (.int (maxI n ns))
  | _, _ => none
def eMaxD (a b : Em) : Em := eOp oMaxD a b
/-- x.pop(e) -/
def ePop (i : Nat) (e : Em) : Em := fun s =>
  match s[i]? with
  | some (.ow _) => (e s).da fun d s1 =>
    match d, s1[i]? with
    | .int n, some (.ow ms) =>
      if -(2 ^ 63) ≤ n ∧ n < 2 ^ 63 then
        match ixN ms.length n with
        | some k =>
          match ms[k]? with
          | some d => .ok (.d d) (s1.set i (.ow (ms.eraseIdx k)))
          | none => .no
        | none => .no
      else .no
    | _, _ => .no
  | _ => .no
variable [TabL] [MP : Mp]
theorem maxI_spec : ∀ (ns : List Int) (m : Int), (maxI m ns = m ∨ maxI m ns ∈ ns) ∧ m ≤ maxI m ns ∧ ∀ n ∈ ns, n ≤ maxI m ns
  | [], m => ⟨.inl rfl, Int.le_refl _, fun _ h => by cases h⟩
  | n :: ns, m => by
    unfold maxI
    obtain ⟨h1, h2, h3⟩ := maxI_spec ns (if m < n then n else m)
    refine ⟨?_, ?_, fun k hk => ?_⟩
    · rcases h1 with h | h
      · rw [h]
        split
        · exact .inr (List.mem_cons_self ..)
        · exact .inl rfl
      · exact .inr (List.mem_cons_of_mem _ h)
    · refine Int.le_trans ?_ h2
      split <;> omega
    · rcases List.mem_cons.mp hk with rfl | hk
      · refine Int.le_trans ?_ h2
        split <;> omega
      · exact h3 k hk
section
variable {F : Fam} {Y : FamW} {e a b c : Expr} {m ma mb mc : Em} {s s' : Sx} {pos p kp : Pos} {y : Str} {st : Stmt} {sts : List Stmt}
theorem ef_maxD (ha : EF F a ma) (hb : EF F b mb) (hm : F.mg "max" = none) (hg : GlF F "max" := by rfl) (hs : ∀ env, starEach [a] env = (false, eval a env) :: starEach [] env := by intro _; rfl) (hk : ∀ X te, PE X b te → PK X [⟨some (Str.ofString "default"), b, kp⟩] (tCons te tNil) := by intro X te h; exact pk_cons h pk_nil)
    (he : ∀ env, backTo pos (starEach [a] env) = (false, eval a env) :: backTo pos (starEach [] env) := by intro _; rfl) (hpl : ∀ env, (backTo pos (starEach [a] env)).any (·.1) = false := by intro _; rfl)
    (hall : ∀ env, (backToKw pos (keywordEach [⟨some (Str.ofString "default"), b, kp⟩] env)).all (·.1.isSome) = true := by intro _; rfl) (hnone : ∀ env, (backToKw pos (keywordEach [⟨some (Str.ofString "default"), b, kp⟩] env)).any (·.1.isNone) = false := by intro _; rfl) (hks : ∀ env, (backToKw pos (keywordEach [⟨some (Str.ofString "default"), b, kp⟩] env)).filterMap (·.1) = [Str.ofString "default"] := by intro _; rfl) :
    EF F (.Call (.Name "max" p) [a] [⟨some (Str.ofString "default"), b, kp⟩] pos) (eMaxD ma mb) := fun s v s' h => by
  replace h := ha.da h
  obtain ⟨d1, s1, h1, k1, h⟩ := h
  replace h := hb.da h
  obtain ⟨d2, s2, h2, k2, h⟩ := h
  replace h := rO_inv h
  obtain ⟨h, e5⟩ := h
  subst e5
  refine ⟨?_, k1.trans k2⟩
  unfold oMaxD at h
  split at h
  · rw [Option.map_eq_some_iff] at h
    obtain ⟨ns, h, rfl⟩ := h
    rw [intsOf_inv h] at h1
    cases ns with
    | nil => exact ed_maxD h1 h2 (fun _ => rfl) (fun z => by cases z) hm hg hs hk he hpl hall hnone hks
    | cons n ns =>
      obtain ⟨g1, g2, g3⟩ := maxI_spec ns n
      refine ed_maxD h1 h2 (fun z => by cases z) (fun _ => ⟨?_, fun y hy => ?_⟩) hm hg hs hk he hpl hall hnone hks
      · rcases g1 with g | g
        · rw [g]; exact List.mem_cons_self ..
        · exact List.mem_cons_of_mem _ g
      · rcases List.mem_cons.mp hy with rfl | hy
        · exact g2
        · exact g3 y hy
  · cases h
theorem ef_pop {py apos cpos : Pos} (i : Nat) (h : EF F e m) (hN : F.N[i]? = some y := by rfl) (hv : Vis F.sc y := by first | exact Or.inl rfl | exact Or.inr (Or.inl rfl) | exact Or.inr (Or.inr rfl)) (hd : (y == ("__debug__" : Str)) = false := by decide) (hcd : (y == ("__classdict__" : Str)) = false := by decide)
    (hbase : ∀ env, attributeBase (.Name y py) "pop" env (eval (.Name y py) env) = eval (.Name y py) env := by intro _; rfl)
    (hfew : ∀ env, ((backTo cpos (starEach [e] env)).all (fun x => !x.1) && (backToKw cpos (keywordEach [] env)).all (fun x => x.1.isSome) && decide (([e] : List Expr).length + ([] : List Keyword).length + (if ([] : List Keyword).isEmpty then 0 else 1) < 30)) = true := by intro _; rfl)
    (hline : (apos.endLine == cpos.line) = true := by rfl) (hs : ∀ env, starEach [e] env = (false, eval e env) :: starEach [] env := by intro _; rfl) (hplain : ∀ env, (backTo cpos (starEach [] env)).any (·.1) = false := by intro _; rfl) :
    EF F (.Call (.Attribute (.Name y py) "pop" apos) [e] [] cpos) (ePop i m) := fun s v s' q => by
  unfold ePop at q
  split at q
  · next us e0 =>
    replace q := h.da q
    obtain ⟨d, s1, h1, k1, q⟩ := q
    split at q
    · next n ms e1 =>
      split at q
      · next g =>
        split at q
        · next k ek =>
          split at q
          · next d2 ed =>
            cases q
            refine ⟨?_, k1.trans (.set e1)⟩
            rw [sls_set]
            exact ed_popAt i h1 (sls_at e1) ek ed g ⟨_, sls_at e0⟩ hN hv hd hcd hbase hfew hline hs hplain
          · cases q
        · cases q
      · cases q
    · cases q
  · cases q
theorem test3 {X : Cx} {cls : Value} {x1 x2 x3 : Str} {p1 p2 p3 tpos : Pos} {kk : Nat} {c1 c2 c3 : Value} (n1 : Names X x1 c1) (n2 : Names X x2 c2) (n3 : Names X x3 c3) (he : PySem.W.exmAny X.K cls [c1, c2, c3] = some true) : TestC X (.Tuple [.Name x1 p1, .Name x2 p2, .Name x3 p3] kk tpos) cls := fun a oe pn σ H s S3 LT Q E q => by
  refine wpAny_Tuple ?_
  refine wpAny_items_cons (nm_here n1 S3 ?_)
  refine wpAny_items_cons (nm_here n2 S3 ?_)
  refine wpAny_items_cons (nm_here n3 S3 ?_)
  refine wpAny_items_nil ⟨by size_fits, ?_⟩
  have kp : ∀ q o, s.heap.get? q = some o → (s.heap.push { cls := .type "tuple", data := .seq [c1, c2, c3].toArray }).get? q = some o := fun _ _ z => Heap.get?_push_of_some _ z
  exact (PySem.W.exm_tup3 (S3.kIn.keeps kp) (LT.keeps kp) (Heap.get?_push_size s.heap rfl) he).here (q _ kp)
/-- all slots but the tables let go -/
theorem lj_reset {a : Addr} {ns : List Int} {s : Sx} {n j : Nat} (hs : s.length = n) (hj : s[j]? = some .tb) (r : LawJ F a ns sts (noS n j)) : LawJ F a ns sts s := by
  have e5 : wipeC ((List.range n).filter (· ≠ j)) s = noS n j := by
    apply List.ext_getElem?
    intro k
    rw [wipeC_get]
    unfold noS
    by_cases hk : k < n
    · have hk1 : k < s.length := by rw [hs]; exact hk
      rw [List.getElem?_eq_getElem hk1]
      simp only [Option.map_some]
      by_cases hkj : k = j
      · subst hkj
        rw [List.getElem?_eq_getElem hk1] at hj
        replace hj := Option.some.inj hj
        have : ¬ (k ∈ (List.range n).filter (· ≠ k)) := by simp
        rw [if_neg this, List.getElem?_set_self (by simpa using hk), hj]
      · have : k ∈ (List.range n).filter (· ≠ j) := by simp [hk, hkj]
        rw [if_pos this, List.getElem?_set_ne (fun z => hkj z.symm), List.getElem?_replicate, if_pos hk]
    · have hk1 : s.length ≤ k := by rw [hs]; omega
      rw [List.getElem?_eq_none hk1, List.getElem?_eq_none (by simp; omega)]
      rfl
  refine lj_wp ((List.range n).filter (· ≠ j)) ?_
  rw [e5]
  exact r
theorem sSeq_nx {a b : Sm} {s s' : Sx} (h : sSeq a b s = .nx s') : ∃ s1, a s = .nx s1 ∧ b s1 = .nx s' := by
  unfold sSeq at h
  split at h
  · next s1 e1 => exact ⟨s1, e1, h⟩
  · next n0 => exact absurd h (n0 _)
theorem lj_seq1 {a : Addr} {ns : List Int} {s s1 : Sx} {m1 : Sm} (h1 : SC [0] Y st m1) (hl : s.length = Y.F.N.length) (q : m1 s = .nx s1) (r : s1.length = Y.F.N.length → LawJ Y.F a ns sts s1) : LawJ Y.F a ns (st :: sts) s := by
  have w := (h1.ok s hl)
  rw [q] at w
  exact lj_cons h1 hl q (r (w.2.trans hl))
theorem lj_seq2 {a : Addr} {ns : List Int} {s s1 : Sx} {m1 m2 : Sm} {st2 : Stmt} (h1 : SC [0] Y st m1) (h2 : SC [0] Y st2 m2) (hl : s.length = Y.F.N.length) (q : sSeq m1 m2 s = .nx s1) (r : s1.length = Y.F.N.length → LawJ Y.F a ns sts s1) : LawJ Y.F a ns (st :: st2 :: sts) s := by
  obtain ⟨t, q1, q2⟩ := sSeq_nx q
  exact lj_seq1 h1 hl q1 fun hl2 => lj_seq1 h2 hl2 q2 r
end
theorem FnC.fn {P : Program} {w : World} {K : PySem.W.Frag} {mg : Str → Option Value} {base : Heap} {x : Str} {k : Nat} {φ : List PyData → Rs} (D : FnC P w K mg base x k φ) (g1 : Addr) (G1 : Hp) : @FnC _ (Mp.fn g1 G1) P w K mg base x k φ := @FnC.mk _ (Mp.fn g1 G1) P w K mg base x k φ D.d D.l D.e
end DI
namespace DI
open PySem PyProof.Rows L2 DL LamX
variable [TabL] [MP : Mp]
/-! ### x = {f(y): y for y in ..}; x[k] = v; .. -/
def kF (φ : List PyData → Rs) (d : PyData) : Str :=
  match φ [d] with
  | .ok (.d (.str k)) => k
  | _ => ⟨#[]⟩
def wF : PyData → Option Int
  | .int n => some n
  | _ => none
def okF (φ : List PyData → Rs) (d : PyData) : Bool :=
  match φ [d], d with
  | .ok (.d (.str _)), .int _ => true
  | .ok (.d (.str _)), .none => true
  | _, _ => false
def allNoC (W : List Nat) (s : Sx) : Bool := W.all fun k =>
  match s[k]? with
  | some .no => true
  | _ => false
def sDcF (φ : List PyData → Rs) (n i j : Nat) (W : List Nat) (it : Am) (k : Str) (v : Option Int) (b : Sm) : Sm := fun s =>
  if s.length = n then
    match it s with
    | .ok its s1 =>
      if allNoC W s1 = true ∧ its.length ≤ 100000 ∧ its.all (okF φ) = true ∧ (its.map (kF φ)).Nodup ∧ k ∉ its.map (kF φ) then b (s1.set i (.va (.dict (vsD ((its.map fun d => (kF φ d, wF d)) ++ [(k, v)]))))) else .no
    | _ => .no
  else .no
theorem okF_inv {φ : List PyData → Rs} {d : PyData} (h : okF φ d = true) : φ [d] = .ok (.d (.str (kF φ d))) ∧ oD (wF d) = d := by
  unfold okF at h
  split at h
  · next k n e => exact ⟨by unfold kF; rw [e], rfl⟩
  · next k e => exact ⟨by unfold kF; rw [e], rfl⟩
  · cases h
theorem allNoC_no {s : Sx} : ∀ {W : List Nat}, allNoC W s = true → AllNo W (sls s)
  | [], _ => trivial
  | k :: W, h => by
    unfold allNoC at h
    rw [List.all_cons, Bool.and_eq_true] at h
    obtain ⟨h1, h2⟩ := h
    refine ⟨?_, allNoC_no (by unfold allNoC; exact h2)⟩
    split at h1
    · next e => rw [sls_get, e]; rfl
    · cases h1
section
variable {z : List Nat} {Y : FamW} {kx vx iter ek ev : Expr} {rest : List Stmt} {y cx : Str} {scope : Scope} {it : Am} {φ : List PyData → Rs} {k : Str} {v : Option Int} {b : Sm} {own : List (Str × Nat)} {W : List Nat} {n : Nat} {py py2 cp spos pos2 pos3 pos : Pos}
theorem c_dc (i j : Nat) (hi : IF Y.F (.Name cx cp) iter it) (hb : BlkOk Y.F.N Y.F.sc scope own) (hk1 : EF (Y.F.blk scope) kx (eCall φ (aC (eVar j) aN))) (hv1 : EF (Y.F.blk scope) vx (eVar j)) (ht : TgD (Y.F.blk scope) (.Name cx cp) [j] (fun _ => True) (fun d L => L.set j (.va d))) (hk : EF Y.F ek (eK (.str k))) (hv : EF Y.F ev (eK (oD v))) (hr : SsC z Y rest b)
    (hT : ∀ q ∈ [j], q ∈ own.map (·.2) := by decide) (hnN : Y.F.N.length = n := by rfl) (hW : own.map (·.2) = W := by rfl) (hjn : j < n := by decide) (hin : i < n := by decide)
    (hz : i ∉ z := by decide) (hN : Y.F.N[i]? = some y := by rfl) (hx : Loc Y.F.sc y := by first | exact Or.inl rfl | exact Or.inr rfl) (hfy : StF Y.F y := by first | exact Or.inl rfl | exact Or.inr rfl) (hs0 : ∀ j, swapsWith (.DictComp kx vx [⟨.Name cx cp, iter, [], 0⟩] scope pos) (some (.Name y py)) spos.line (Y.F.x j).env = pure false := by intro _; rfl)
    (hn : Y.F.N.Nodup := by exact of_decide_eq_true rfl) (hvis : Vis Y.F.sc y := by first | exact Or.inl rfl | exact Or.inr (Or.inl rfl) | exact Or.inr (Or.inr rfl)) (hd : (y == ("__debug__" : Str)) = false := by decide) (hcd : (y == ("__classdict__" : Str)) = false := by decide)
    (hs : ∀ env x, foldedSetIterable iter env x = pure x := by intro _ _; rfl) (hsw : ∀ j, swapsWith ev (some (.Subscript (.Name y py2) ek pos2)) pos3.line (Y.F.x j).env = pure false := by intro _; rfl) :
    SsC z Y (.Assign [.Name y py] (.DictComp kx vx [⟨.Name cx cp, iter, [], 0⟩] scope pos) spos :: .Assign [.Subscript (.Name y py2) ek pos2] ev pos3 :: rest) (sDcF φ n i j W it k v b) := by
  have core : ∀ {s s1 : Sx} {its : List PyData}, s.length = Y.F.N.length → it s = .ok its s1 → allNoC W s1 = true → its.all (okF φ) = true →
      ItD Y.F (.Name cx cp) iter (sls s) its (sls s1) ∧ s1.length = s.length ∧ AllNo (own.map (·.2)) (sls s1) ∧ (∀ d, d ∈ its → True ∧ ED (Y.F.blk scope) kx ((sls s1).set j (.va d)) (.str (kF φ d)) ((sls s1).set j (.va d)) ∧ ED (Y.F.blk scope) vx ((sls s1).set j (.va d)) (oD (wF d)) ((sls s1).set j (.va d))) ∧
      ED Y.F ek ((sls s1).set i .no) (.str k) ((sls s1).set i .no) ∧ ED Y.F ev ((sls s1).set i .no) (oD v) ((sls s1).set i .no) := fun {s s1 its} hl h1 h2 h3 => by
    obtain ⟨i1, k1⟩ := hi _ _ _ h1
    have ln := k1.ln
    refine ⟨i1, ln, by rw [hW]; exact allNoC_no h2, fun d hd' => ?_, ?_, ?_⟩
    · obtain ⟨o1, o2⟩ := okF_inv (List.all_eq_true.mp h3 d hd')
      have e0 : eVar j (s1.set j (.va d)) = .ok (.d d) (s1.set j (.va d)) := by
        unfold eVar
        rw [List.getElem?_set_self (by rw [ln, hl, hnN]; exact hjn)]
      have e1 : eCall φ (aC (eVar j) aN) (s1.set j (.va d)) = .ok (.d (.str (kF φ d))) (s1.set j (.va d)) := by
        simp only [eCall, aC, aN, e0, Re.da, Re.bd, o1, rC]
      have g1 := (hk1 _ _ _ e1).1
      have g2 := (hv1 _ _ _ e0).1
      rw [sls_set] at g1 g2
      rw [o2]
      exact ⟨trivial, g1, g2⟩
    · have := (hk (s1.set i .no) _ _ rfl).1
      rw [sls_set] at this
      exact this
    · have := (hv (s1.set i .no) _ _ rfl).1
      rw [sls_set] at this
      exact this
  refine ⟨fun s hl => ?_, fun s u s' hl q => ?_⟩
  · unfold sDcF
    split
    · split
      · next its s1 e1 =>
        split
        · next g =>
          obtain ⟨g1, g2, g3, g4, g5⟩ := g
          obtain ⟨c1, c2, c3, c4, c5, c6⟩ := core hl e1 g1 g3
          have w := hr.ok (s1.set i (.va (.dict (vsD ((its.map fun d => (kF φ d, wF d)) ++ [(k, v)]))))) (by rw [List.length_set, c2, hl])
          rw [sls_set, List.length_set, c2] at w
          exact w.imp fun o r => ss_dcputC i (kF φ) wF c1 hb ht hT (by rw [sls_len, c2, hl]) c3 c4 g4 g2 c5 c6 g5 r hz hN (by rw [sls_len, c2, hl, hnN]; exact hin) hx hfy hs0 hn hvis hd hcd hs hsw
        · trivial
      · trivial
    · trivial
  · unfold sDcF at q
    split at q
    · split at q
      · next its s1 e1 =>
        split at q
        · next g =>
          obtain ⟨g1, g2, g3, g4, g5⟩ := g
          obtain ⟨c1, c2, c3, c4, c5, c6⟩ := core hl e1 g1 g3
          have w := hr.er _ _ _ (by rw [List.length_set, c2, hl]) q
          rw [sls_set] at w
          exact xs_dcputC i (kF φ) wF c1 hb ht hT (by rw [sls_len, c2, hl]) c3 c4 g4 g2 c5 c6 g5 w hN (by rw [sls_len, c2, hl, hnN]; exact hin) hx hfy hs0 hn hvis hd hcd hs hsw
        · cases q
      · cases q
    · cases q
end
end DI
namespace DI
open PySem PyProof.Rows L2 DL LamX
variable [TabL] [MP : Mp]
/-! ### texts: joined, split, their beginning left out -/
def oJoin : PyData → PyData → Option Vl
  | .str x, .list ds => (strsOf ds).bind fun ws => gI ((ws.map (·.length)).sum + ws.length * x.length ≤ 16777216) (some (.d (.str (Txt.join x ws))))
  | _, _ => none
def eJoin (a : Em) (b : Sx → Re PyData) : Em := fun s => (a s).da fun x s1 => (b s1).bd fun y s2 => rO (oJoin x y) s2
def oSplit : PyData → PyData → Option Vl
  | .str x, .str y => gI (0 < y.length ∧ x.length ≤ 100000) (some (.l ((Txt.split x y).map PyData.str)))
  | _, _ => none
def oRemp : PyData → PyData → Option Vl
  | .str x, .str y => gI (x.length ≤ 100000) (some (.d (.str (Txt.removeprefix x y))))
  | _, _ => none
section
variable {F : Fam} {e a b : Expr} {ma m mb : Em} {mk : Sx → Re PyData} {apos cpos : Pos}
theorem ef_join (ha : EF F a ma) (hb : LF F e mk)
    (hbase : ∀ env, attributeBase a "join" env (eval a env) = eval a env := by intro _; rfl)
    (hfew : ∀ env, ((backTo cpos (starEach [e] env)).all (fun x => !x.1) && (backToKw cpos (keywordEach [] env)).all (fun x => x.1.isSome) && decide (([e] : List Expr).length + ([] : List Keyword).length + (if ([] : List Keyword).isEmpty then 0 else 1) < 30)) = true := by intro _; rfl)
    (hline : (apos.endLine == cpos.line) = true := by rfl) (hs : ∀ env, starEach [e] env = (false, eval e env) :: starEach [] env := by intro _; rfl) (hplain : ∀ env, (backTo cpos (starEach [] env)).any (·.1) = false := by intro _; rfl) :
    EF F (.Call (.Attribute a "join" apos) [e] [] cpos) (eJoin ma mk) := fun s v s' h => by
  replace h := ha.da h
  obtain ⟨x, s1, h1, k1, h⟩ := h
  replace h := hb.bd h
  obtain ⟨y, s2, h2, k2, h⟩ := h
  replace h := rO_inv h
  obtain ⟨h, e5⟩ := h
  subst e5
  refine ⟨?_, k1.trans k2⟩
  unfold oJoin at h
  split at h
  · rw [Option.bind_eq_some_iff] at h
    obtain ⟨ws, h3, h⟩ := h
    obtain ⟨g, h⟩ := gI_inv h
    cases h
    rw [strsOf_inv h3] at h2
    exact ed_join h1 h2 g hbase hfew hline hs hplain
  · cases h
theorem ef_split (ha : EF F a ma) (hb : EF F b mb)
    (hbase : ∀ env, attributeBase a "split" env (eval a env) = eval a env := by intro _; rfl)
    (hfew : ∀ env, ((backTo cpos (starEach [b] env)).all (fun x => !x.1) && (backToKw cpos (keywordEach [] env)).all (fun x => x.1.isSome) && decide (([b] : List Expr).length + ([] : List Keyword).length + (if ([] : List Keyword).isEmpty then 0 else 1) < 30)) = true := by intro _; rfl)
    (hline : (apos.endLine == cpos.line) = true := by rfl) (hs : ∀ env, starEach [b] env = (false, eval b env) :: starEach [] env := by intro _; rfl) (hplain : ∀ env, (backTo cpos (starEach [] env)).any (·.1) = false := by intro _; rfl) :
    EF F (.Call (.Attribute a "split" apos) [b] [] cpos) (eOp oSplit ma mb) := fun s v s' h => by
  replace h := ha.da h
  obtain ⟨x, s1, h1, k1, h⟩ := h
  replace h := hb.da h
  obtain ⟨y, s2, h2, k2, h⟩ := h
  replace h := rO_inv h
  obtain ⟨h, e5⟩ := h
  subst e5
  refine ⟨?_, k1.trans k2⟩
  unfold oSplit at h
  split at h
  · obtain ⟨g, h⟩ := gI_inv h
    cases h
    exact fd_split h1 h2 g.1 g.2 hbase hfew hline hs hplain
  · cases h
theorem ef_remp (ha : EF F a ma) (hb : EF F b mb)
    (hbase : ∀ env, attributeBase a "removeprefix" env (eval a env) = eval a env := by intro _; rfl)
    (hfew : ∀ env, ((backTo cpos (starEach [b] env)).all (fun x => !x.1) && (backToKw cpos (keywordEach [] env)).all (fun x => x.1.isSome) && decide (([b] : List Expr).length + ([] : List Keyword).length + (if ([] : List Keyword).isEmpty then 0 else 1) < 30)) = true := by intro _; rfl)
    (hline : (apos.endLine == cpos.line) = true := by rfl) (hs : ∀ env, starEach [b] env = (false, eval b env) :: starEach [] env := by intro _; rfl) (hplain : ∀ env, (backTo cpos (starEach [] env)).any (·.1) = false := by intro _; rfl) :
    EF F (.Call (.Attribute a "removeprefix" apos) [b] [] cpos) (eOp oRemp ma mb) := fun s v s' h => by
  replace h := ha.da h
  obtain ⟨x, s1, h1, k1, h⟩ := h
  replace h := hb.da h
  obtain ⟨y, s2, h2, k2, h⟩ := h
  replace h := rO_inv h
  obtain ⟨h, e5⟩ := h
  subst e5
  refine ⟨?_, k1.trans k2⟩
  unfold oRemp at h
  split at h
  · obtain ⟨g, h⟩ := gI_inv h
    cases h
    exact ed_remp h1 h2 g hbase hfew hline hs hplain
  · cases h
end
end DI
namespace DC
open PySem PyProof.Rows L2 DL LamX DI
def b_is_whole : Sm := sRet (q (eAnd (eUn (oIsi .int) (eVar 0)) (eNot (eUn (oIsi .bool) (eVar 0)))))
def d_is_whole : List PyData → Rs := runD 1 1 b_is_whole
def b_is_from_0_to : Sm := sRet (q (eAnd (eCall d_is_whole (aC (eVar 0) (aN))) (eC (cCh oLe oLe (eK (.int 0)) (eVar 0) (eVar 1)))))
def d_is_from_0_to : List PyData → Rs := runD 2 2 b_is_from_0_to
def b_is_entry : Sm := sRet (q (eOr (eC (cIsN (eVar 0))) (eCall d_is_from_0_to (aC (eVar 0) (aC (eOp oSub (eVar 1) (eK (.int 1))) (aN))))))
def d_is_entry : List PyData → Rs := runD 2 2 b_is_entry
def b_is_pair_of_entries : Sm := sSeq (sIf (tOr (tNot (tTru (hE (eUn (oIsi .tuple) (eVar 0))))) (cOpH oNe (eLk oLen (hVar 0)) (hE (eK (.int 2))))) (sRet (q (eK (.bool false)))) (sNil)) (sSeq (sTwo 2 3 (eVar 0)) (sRet (q (eAnd (eCall d_is_entry (aC (eVar 2) (aC (eVar 1) (aN)))) (eCall d_is_entry (aC (eVar 3) (aC (eVar 1) (aN))))))))
def d_is_pair_of_entries : List PyData → Rs := runD 2 4 b_is_pair_of_entries
def b_check_plan : Sm := sSeq (sIf (tOr (tNot (tTru (hE (eUn (oIsi .list) (eVar 0))))) (cOp oGt (eLk oLen (hVar 0)) (eK (.int 12)))) (sRaise "InvalidPlan" "place" (eK .none)) (sNil)) (sFor (uTwo 1 2) (iEnum (eVar 0)) (sIf (tNot (tTru (hE (eCall d_is_pair_of_entries (aC (eVar 2) (aC (eLk oLen (hVar 0)) (aN))))))) (sRaise "InvalidPlan" "place" (eVar 1)) (sNil)))
def d_check_plan : List PyData → Rs := runD 1 3 b_check_plan
def b_check_values : Sm := sSeq (sIf (tOr (tNot (tTru (hE (eUn (oIsi .list) (eVar 0))))) (cOp oGt (eLk oLen (hVar 0)) (eK (.int 60)))) (sRaise "InvalidValues" "index" (eK .none)) (sNil)) (sFor (uTwo 1 2) (iEnum (eVar 0)) (sIf (tNot (tTru (hE (eCall d_is_whole (aC (eVar 2) (aN)))))) (sRaise "InvalidValues" "index" (eVar 1)) (sNil)))
def d_check_values : List PyData → Rs := runD 1 3 b_check_values
def b_check_passes : Sm := sIf (tNot (tTru (hE (eCall d_is_from_0_to (aC (eVar 0) (aC (eK (.int 60)) (aN))))))) (sRaise "InvalidPasses" "passes" (eVar 0)) (sNil)
def d_check_passes : List PyData → Rs := runD 1 1 b_check_passes
def b_check_place : Sm := sIf (tNot (tTru (hE (eCall d_is_from_0_to (aC (eVar 0) (aC (eOp oSub (eLk oLen (hVar 1)) (eK (.int 1))) (aN))))))) (sRaise "InvalidPlace" "place" (eVar 0)) (sNil)
def d_check_place : List PyData → Rs := runD 2 2 b_check_place
def b_first_entry : Sm := sRet (q (eIf (tTru (hVar 0)) (eK (.int 0)) (eK .none)))
def d_first_entry : List PyData → Rs := runD 1 1 b_first_entry
def b__carry_out (r : List PyData → Rs) : Sm := sSeq (sIf (tOr (cIsN (eVar 1)) (tNot (tTru (hVar 3)))) (sRetV 3) (sNil)) (sSeq (sStar 5 6 (eVar 3)) (sSeq (sSet 7 (q (eIx (eVar 2) (eVar 5)))) (sSeq (sSetL 9 (eLc 14 [8] (uName 8) (iE (eVar 6)) (cOp oLt (eIx (eVar 2) (eVar 8)) (eVar 7)) (eVar 8))) (sSeq (sIf (tTru (hVar 4)) (sSetL 10 (eLc 14 [8] (uName 8) (iE (eVar 6)) (cOp oGt (eIx (eVar 2) (eVar 8)) (eVar 7)) (eVar 8))) (sSetL 10 (eLc 14 [8] (uName 8) (iE (eVar 6)) (cOp oGe (eIx (eVar 2) (eVar 8)) (eVar 7)) (eVar 8)))) (sSeq (sTwo 11 12 (eIx (eVar 0) (eVar 1))) (sSeq (sSet 13 (q (eCall r (aC (eVar 0) (aC (eVar 11) (aC (eVar 2) (aC (eVar 9) (aC (eVar 4) (aN))))))))) (sRet (q (eOp oAdd (eOp oAdd (eVar 13) (eLst (aC (eVar 5) (aN)))) (eCall r (aC (eVar 0) (aC (eVar 12) (aC (eVar 2) (aC (eVar 10) (aC (eVar 4) (aN))))))))))))))))
def d__carry_out : Nat → List PyData → Rs
  | 0 => fun _ => .no
  | n + 1 => runD 5 14 (b__carry_out (d__carry_out n))
def b__places_left : Sm := sRet (q (eCall (d__carry_out 64) (aC (eVar 0) (aC (eCall d_first_entry (aC (eVar 0) (aN))) (aC (eVar 1) (aC (eLRg (eLk oLen (hVar 1))) (aC (eVar 2) (aN))))))))
def d__places_left : List PyData → Rs := runD 3 3 b__places_left
def b_carried_out : Sm := sSeq (sExpr (eCall d_check_plan (aC (eVar 0) (aN)))) (sSeq (sExpr (eCall d_check_values (aC (eVar 1) (aN)))) (sSeq (sExpr (eCall d_check_passes (aC (eVar 2) (aN)))) (sSeq (sSet 3 (q (eLk oList (hVar 1)))) (sSeq (sFor (uName 4) (iRg (eVar 2)) (sSet 3 (q (eL (eLc 6 [5] (uName 5) (iE (eCall d__places_left (aC (eVar 0) (aC (eVar 3) (aC (eK (.bool false)) (aN)))))) (tT) (eIx (eVar 3) (eVar 5))))))) (sRetV 3)))))
def d_carried_out : List PyData → Rs := runD 3 6 b_carried_out
def b__records_ahead : Sm := sSeq (sSet 2 (q (eIx (eVar 0) (eVar 1)))) (sSeq (sSet 3 (q (eK .none))) (sSeq (sSet 4 (q (eK (.int 0)))) (sSeq (sFor (uName 5) (iE (eSl (eVar 0) (oN) (oS (eVar 1)))) (sIf (tAnd (cOp oGt (eVar 5) (eVar 2)) (tOr (cIsN (eVar 3)) (cOp oLt (eVar 5) (eVar 3)))) (sSeq (sSet 3 (q (eVar 5))) (sAug (· + ·) 4 (eK (.int 1)))) (sNil))) (sRetV 4))))
def d__records_ahead : List PyData → Rs := runD 2 6 b__records_ahead
def b_records_ahead : Sm := sSeq (sExpr (eCall d_check_values (aC (eVar 0) (aN)))) (sSeq (sExpr (eCall d_check_place (aC (eVar 1) (aC (eVar 0) (aN))))) (sRet (q (eCall d__records_ahead (aC (eVar 0) (aC (eVar 1) (aN)))))))
def d_records_ahead : List PyData → Rs := runD 2 2 b_records_ahead
def b_passes_needed : Sm := sSeq (sExpr (eCall d_check_plan (aC (eVar 0) (aN)))) (sSeq (sExpr (eCall d_check_values (aC (eVar 1) (aN)))) (sSeq (sSet 2 (q (eVar 1))) (sSeq (sSet 3 (eCallK (fun ds => d_carried_out (ds ++ [.int 1])) (aC (eVar 0) (aC (eVar 2) (aN))) (aN))) (sSeq (sSet 4 (q (eK (.int 0)))) (sSeq (sWhile (cOpH oNe (eVar 3) (hVar 2)) (sSeq (sSet 2 (q (eVar 3))) (sSeq (sSet 3 (eCallK (fun ds => d_carried_out (ds ++ [.int 1])) (aC (eVar 0) (aC (eVar 2) (aN))) (aN))) (sAug (· + ·) 4 (eK (.int 1)))))) (sRetV 4))))))
def d_passes_needed : List PyData → Rs := runD 2 5 b_passes_needed
def b_right_passes_needed : Sm := sSeq (sExpr (eCall d_check_values (aC (eVar 0) (aN)))) (sRet (q (eMaxD (eL (eLc 2 [1] (uName 1) (iRg (eLk oLen (hVar 0))) (tT) (eCall d__records_ahead (aC (eVar 0) (aC (eVar 1) (aN)))))) (eK (.int 0)))))
def d_right_passes_needed : List PyData → Rs := runD 1 2 b_right_passes_needed
def b__law_draws : Sm := sRet (q (eLst (aC (eOp oMod (eUn oInt (eVar 0)) (eOp oPow (eOp oPow (eOp oPow (eK (.int 10)) (eK (.int 60))) (eK (.int 60))) (eK (.int 4)))) (aC (eK (.int 0)) (aC (eC (cOp oGe (eVar 0) (eOp oPow (eK (.int 10)) (eK (.int 18))))) (aN))))))
def d__law_draws : List PyData → Rs := runD 1 1 b__law_draws
def b__law_next : Sm := sSeq (sPut 0 (eOp oAdd (eIxV 0 (eK (.int 1))) (eK (.int 1))) (eK (.int 1))) (sSeq (sSet 1 (q (eIxV 0 (eK (.int 1))))) (sSeq (sIf (tTru (hE (eIxV 0 (eK (.int 2))))) (sSeq (sSet 2 (q (eOp oMod (eUn oInt (eIxV 0 (eK (.int 0)))) (eOp oPow (eK (.int 10)) (eK (.int 6)))))) (sSeq (sPut 0 (eOp oDiv (eIxV 0 (eK (.int 0))) (eOp oPow (eK (.int 10)) (eK (.int 6)))) (eK (.int 0))) (sRetV 2))) (sNil)) (sSeq (sSet 2 (q (eOp oMod (eUn oInt (eOp oMul (eOp oAdd (eOp oAdd (eOp oMod (eUn oInt (eIxV 0 (eK (.int 0)))) (eK (.int 1000003))) (eOp oMul (eOp oMul (eVar 1) (eVar 1)) (eK (.int 7919)))) (eVar 1)) (eK (.int 48271)))) (eK (.int 2147483629))))) (sSeq (sSet 2 (q (eOp oMod (eUn oInt (eOp oMul (eVar 2) (eVar 2))) (eK (.int 2147483587))))) (sRet (q (eOp oDiv (eOp oMod (eUn oInt (eOp oMul (eVar 2) (eOp oAdd (eVar 2) (eK (.int 2))))) (eK (.int 2147483579))) (eK (.int 7)))))))))
def d__law_next : List PyData → List PyData → Rm := runM 1 3 b__law_next
end DC
namespace KT
open PySem PyProof.Rows L2 DL PySem.NumText
/-! ### whole numbers as texts -/
theorem digs (m : Nat) : AllDigits ((Nat.toDigits 10 m).map Char.toNat) := by
  intro c hc
  obtain ⟨d, hd, rfl⟩ := List.mem_map.mp hc
  exact digit_range (Nat.isDigit_of_mem_toDigits (by decide) (by decide) hd)
theorem digs_ne (m : Nat) : (Nat.toDigits 10 m).map Char.toNat ≠ [] := by
  have h := Nat.length_toDigits_pos (b := 10) (n := m)
  intro e
  have := congrArg List.length e
  rw [List.length_map] at this
  have h2 : (Nat.toDigits 10 m).length = 0 := this
  omega
/-- the text of a number -/
def tI (n : Int) : Str := Str.ofString (toString n)
theorem tI_len {n : Int} (h : n.natAbs < 10 ^ 30) : (tI n).length ≤ 31 := by
  have e := int_text_length_le10 (k := 30) (by decide) h
  show (Str.ofString (toString n)).length ≤ 31
  rw [PySem.ofString_length]
  exact e
theorem tI_nat (m : Nat) : (tI (m : Int)).cps.toList = (Nat.toDigits 10 m).map Char.toNat := PySem.W.KIN.signs_num m
theorem tI_neg (m : Nat) : (tI (Int.negSucc m)).cps.toList = 45 :: (Nat.toDigits 10 (m + 1)).map Char.toNat := by
  show (Str.ofString (toString (Int.negSucc m))).cps.toList = _
  rw [PyProof.Rows.signs_ofString]
  have e : toString (Int.negSucc m) = "-" ++ Nat.repr (m + 1) := rfl
  rw [e, String.toList_append, List.map_append, Nat.toList_repr]
  rfl
theorem tI_reads {n : Int} (h : n.natAbs < 10 ^ 30) : PySem.intText? (tI n) = some n := by
  have hl : (tI n).length ≤ 4300 := Nat.le_trans (tI_len h) (by decide)
  cases n with
  | ofNat m =>
    have hd : AllDigits (tI (Int.ofNat m)).cps.toList := by
      show AllDigits (tI (m : Int)).cps.toList
      rw [tI_nat]
      exact digs m
    have hn : (tI (Int.ofNat m)).cps.toList ≠ [] := by
      show (tI (m : Int)).cps.toList ≠ []
      rw [tI_nat]
      exact digs_ne m
    have e := intText_digits hd hn hl
    rw [e]
    show some (((digitsVal (tI (m : Int)).cps.toList : Nat)) : Int) = _
    rw [tI_nat, PySem.W.KIN.val_back]
    rfl
  | negSucc m =>
    have e := intText_neg (tI_neg m) (digs (m + 1)) (digs_ne (m + 1)) hl
    rw [e, PySem.W.KIN.val_back]
    rfl
/-- neither a blank nor a line's end stands in it -/
theorem tI_free {n : Int} {c : Nat} (h1 : c ≠ 45) (h2 : c < 48 ∨ 57 < c) : c ∉ (tI n).cps.toList := PyProof.Rows.int_text_free' c ⟨h1, h2⟩ n
theorem tI_inj {m n : Int} (hm : m.natAbs < 10 ^ 30) (hn : n.natAbs < 10 ^ 30) (h : tI m = tI n) : m = n := by
  have e := tI_reads hm
  rw [h, tI_reads hn] at e
  exact (Option.some.inj e).symm
theorem tI_ne {n : Int} : tI n ≠ (⟨#[45]⟩ : Str) := by
  intro e
  cases n with
  | ofNat m =>
    have h := tI_nat m
    have e' : tI (m : Int) = ⟨#[45]⟩ := e
    rw [e'] at h
    have hd := digs m
    rw [← h] at hd
    have := hd 45 (by simp)
    omega
  | negSucc m =>
    have h := tI_neg m
    rw [e] at h
    have := List.cons.inj h
    exact digs_ne (m + 1) this.2.symm
end KT
namespace KM
/-! mathematics of passes: lists of things with a key -/
abbrev Plan := List (Option Nat × Option Nat)
def atP (pl : Plan) (q : Nat) : Option Nat × Option Nat := pl.getD q (none, none)
section
variable {α : Type} (key : α → Int) (pl : Plan)
/-- what a part leaves; s: strict -/
def cg (s : Bool) : Nat → Option Nat → List α → List α
  | n + 1, some q, p :: ps => cg s n (atP pl q).1 (ps.filter fun x => decide (key x < key p)) ++ [p] ++
      cg s n (atP pl q).2 (ps.filter fun x => if s then decide (key p < key x) else decide (key p ≤ key x))
  | _, _, ps => ps
/-- what becomes a pivot -/
def mk : Nat → Option Nat → List α → List α
  | n + 1, some q, p :: ps => p :: (mk n (atP pl q).1 (ps.filter fun x => decide (key x < key p)) ++ mk n (atP pl q).2 (ps.filter fun x => decide (key p ≤ key x)))
  | _, _, _ => []
variable {key pl}
@[simp] theorem cg_none {s : Bool} {n : Nat} {ps : List α} : cg key pl s n none ps = ps := by cases n <;> simp [cg]
@[simp] theorem cg_nil {s : Bool} {n : Nat} {e : Option Nat} : cg key pl s n e [] = [] := by cases n <;> cases e <;> simp [cg]
@[simp] theorem mk_none {n : Nat} {ps : List α} : mk key pl n none ps = [] := by cases n <;> simp [mk]
@[simp] theorem mk_nil {n : Nat} {e : Option Nat} : mk key pl n e [] = [] := by cases n <;> cases e <;> simp [mk]
theorem cg_cons {s : Bool} {n q : Nat} {p : α} {ps : List α} : cg key pl s (n + 1) (some q) (p :: ps) = cg key pl s n (atP pl q).1 (ps.filter fun x => decide (key x < key p)) ++ [p] ++
      cg key pl s n (atP pl q).2 (ps.filter fun x => if s then decide (key p < key x) else decide (key p ≤ key x)) := by simp only [cg]
theorem mk_cons {n q : Nat} {p : α} {ps : List α} : mk key pl (n + 1) (some q) (p :: ps) = p :: (mk key pl n (atP pl q).1 (ps.filter fun x => decide (key x < key p)) ++ mk key pl n (atP pl q).2 (ps.filter fun x => decide (key p ≤ key x))) := by simp only [mk]
theorem cg_map {β : Type} (g : β → α) {s : Bool} : ∀ (n : Nat) (e : Option Nat) (ps : List β), cg key pl s n e (ps.map g) = (cg (fun x => key (g x)) pl s n e ps).map g
  | 0, e, ps => by simp [cg]
  | n + 1, none, ps => by simp [cg]
  | n + 1, some q, [] => by simp [cg]
  | n + 1, some q, p :: ps => by
    rw [List.map_cons, cg_cons, cg_cons, List.map_append, List.map_append, List.filter_map, List.filter_map, cg_map g n, cg_map g n]
    rfl
theorem mk_map {β : Type} (g : β → α) : ∀ (n : Nat) (e : Option Nat) (ps : List β), mk key pl n e (ps.map g) = (mk (fun x => key (g x)) pl n e ps).map g
  | 0, e, ps => by simp [mk]
  | n + 1, none, ps => by simp [mk]
  | n + 1, some q, [] => by simp [mk]
  | n + 1, some q, p :: ps => by
    rw [List.map_cons, mk_cons, mk_cons, List.map_cons, List.map_append, List.filter_map, List.filter_map, mk_map g n, mk_map g n]
    rfl
theorem cg_mem {s : Bool} {x : α} : ∀ (n : Nat) (e : Option Nat) (ps : List α), x ∈ cg key pl s n e ps → x ∈ ps
  | 0, e, ps, h => by simpa [cg] using h
  | n + 1, none, ps, h => by simpa [cg] using h
  | n + 1, some q, [], h => by simp [cg] at h
  | n + 1, some q, p :: ps, h => by
    rw [cg_cons, List.append_assoc, List.mem_append, List.mem_append] at h
    rcases h with h | h | h
    · exact List.mem_cons_of_mem _ (List.mem_filter.mp (cg_mem n _ _ h)).1
    · rw [List.mem_singleton.mp h]
      exact List.mem_cons_self ..
    · exact List.mem_cons_of_mem _ (List.mem_filter.mp (cg_mem n _ _ h)).1
theorem mk_mem {x : α} : ∀ (n : Nat) (e : Option Nat) (ps : List α), x ∈ mk key pl n e ps → x ∈ ps
  | 0, e, ps, h => by simp [mk] at h
  | n + 1, none, ps, h => by simp [mk] at h
  | n + 1, some q, [], h => by simp [mk] at h
  | n + 1, some q, p :: ps, h => by
    rw [mk_cons, List.mem_cons, List.mem_append] at h
    rcases h with h | h | h
    · rw [h]
      exact List.mem_cons_self ..
    · exact List.mem_cons_of_mem _ (List.mem_filter.mp (mk_mem n _ _ h)).1
    · exact List.mem_cons_of_mem _ (List.mem_filter.mp (mk_mem n _ _ h)).1
end
/-! ### without doublets -/
def once : List Int → List Int
  | [] => []
  | v :: r => v :: (once r).filter fun x => decide (x ≠ v)
theorem once_filter (t : Int → Bool) : ∀ r : List Int, once (r.filter t) = (once r).filter t
  | [] => rfl
  | v :: r => by
    have ih := once_filter t r
    by_cases h : t v = true
    · rw [List.filter_cons_of_pos h, once, once, List.filter_cons_of_pos h, ih, List.filter_filter, List.filter_filter]
      congr 2
      funext x
      rw [Bool.and_comm]
    · rw [List.filter_cons_of_neg h, once, List.filter_cons_of_neg h, ih, List.filter_filter]
      apply List.filter_congr
      intro x _
      by_cases hx : x = v
      · rw [hx]
        simp [h]
      · simp [hx]
theorem once_mem {x : Int} : ∀ {r : List Int}, x ∈ once r ↔ x ∈ r
  | [] => Iff.rfl
  | v :: r => by
    rw [once, List.mem_cons, List.mem_cons, List.mem_filter, once_mem (r := r)]
    by_cases h : x = v <;> simp [h]
theorem once_app {a b : List Int} (h : ∀ x ∈ a, x ∉ b) : once (a ++ b) = once a ++ once b := by
  induction a with
  | nil => rfl
  | cons v r ih =>
    have ih' := ih fun x hx => h x (List.mem_cons_of_mem _ hx)
    rw [List.cons_append, once, once, ih', List.filter_append, List.cons_append]
    congr 2
    apply List.filter_eq_self.mpr
    intro x hx
    have : v ∉ b := h v (List.mem_cons_self ..)
    simp only [decide_eq_true_eq]
    rintro rfl
    exact this (once_mem.mp hx)
/-- without doublets a strict pass leaves what the plan leaves of the list without doublets -/
theorem once_strict (pl : Plan) : ∀ (n : Nat) (e : Option Nat) (vs : List Int), once (cg id pl true n e vs) = cg id pl false n e (once vs)
  | 0, e, vs => by simp [cg]
  | n + 1, none, vs => by simp
  | n + 1, some q, [] => by simp [once]
  | n + 1, some q, v :: r => by
    rw [once, cg_cons, cg_cons, once_app, once_app, once_strict pl n, once_strict pl n]
    · have e1 : (once r).filter (fun x => decide (x < v)) = (((once r).filter fun x => decide (x ≠ v)).filter fun x => decide (id x < id v)) := by
        rw [List.filter_filter]
        apply List.filter_congr
        intro x _
        by_cases hx : x < v
        · have : x ≠ v := by omega
          simp [hx, this]
        · simp [hx]
      have e2 : (once r).filter (fun x => decide (v < x)) = (((once r).filter fun x => decide (x ≠ v)).filter fun x => decide (id v ≤ id x)) := by
        rw [List.filter_filter]
        apply List.filter_congr
        intro x _
        by_cases hx : v < x
        · have h1 : x ≠ v := by omega
          have h2 : v ≤ x := by omega
          simp [hx, h1, h2]
        · by_cases h1 : x = v
          · simp [h1]
          · have h2 : ¬ v ≤ x := by omega
            simp [hx, h1, h2]
      rw [once_filter, once_filter]
      simp only [id, if_true, Bool.false_eq_true, if_false] at e1 e2 ⊢
      rw [e1, e2]
      rfl
    · intro x hx hv
      have := (List.mem_filter.mp (cg_mem _ _ _ hx)).2
      rw [List.mem_singleton.mp hv] at this
      simp at this
    · intro x hx hy
      have h2 := (List.mem_filter.mp (cg_mem _ _ _ hy)).2
      simp only [id, if_true, decide_eq_true_eq] at h2
      rcases List.mem_append.mp hx with hx | hx
      · have h1 := (List.mem_filter.mp (cg_mem _ _ _ hx)).2
        simp only [id, decide_eq_true_eq] at h1
        omega
      · rw [List.mem_singleton.mp hx] at h2
        omega
/-- what a strict pass loses -/
theorem strict_keeps (pl : Plan) : ∀ (n : Nat) (e : Option Nat) (A B : List (Int × Nat)) (x : Int × Nat), (∀ y ∈ A ++ B, y.2 ≠ x.2) → (A ++ x :: B).length ≤ n →
    (x ∈ cg Prod.fst pl true n e (A ++ x :: B) ↔ ¬ (x.1 ∈ A.map (·.1) ∧ x.1 ∈ mk id pl n e (once ((A ++ x :: B).map (·.1)))))
  | 0, e, A, B, x, _, h => by simp at h
  | n + 1, none, A, B, x, _, _ => by simp
  | n + 1, some q, [], B, x, _, _ => by simp [cg_cons]
  | n + 1, some q, y :: A, B, x, hd, hn => by
    have hd' : ∀ z ∈ A ++ B, z.2 ≠ x.2 := fun z hz => hd z (List.mem_cons_of_mem _ hz)
    have hxy : x ≠ y := fun e => hd y (List.mem_cons_self ..) (by rw [e])
    have hl : (A ++ x :: B).length ≤ n := by
      simp only [List.cons_append, List.length_cons] at hn
      omega
    have split : ∀ t : Int × Nat → Bool, t x = true → (A ++ x :: B).filter t = A.filter t ++ x :: B.filter t := fun t ht => by
      rw [List.filter_append, List.filter_cons_of_pos ht]
    have dd : ∀ t : Int × Nat → Bool, ∀ z ∈ A.filter t ++ B.filter t, z.2 ≠ x.2 := fun t z hz => by
      rw [← List.filter_append] at hz
      exact hd' z (List.mem_filter.mp hz).1
    have ll : ∀ t : Int × Nat → Bool, t x = true → (A.filter t ++ x :: B.filter t).length ≤ n := fun t ht => by
      rw [← split t ht]
      exact Nat.le_trans (List.length_filter_le _ _) hl
    have vals : ∀ t : Int → Bool, ((A ++ x :: B).filter fun z => t z.1).map (·.1) = ((A ++ x :: B).map (·.1)).filter t := fun t => by
      rw [List.filter_map]
      rfl
    have hm : mk id pl (n + 1) (some q) (once (((y :: A) ++ x :: B).map (·.1))) = y.1 :: (mk id pl n (atP pl q).1 (once (((A ++ x :: B).filter fun z => decide (z.1 < y.1)).map (·.1))) ++ mk id pl n (atP pl q).2 (once (((A ++ x :: B).filter fun z => decide (y.1 < z.1)).map (·.1)))) := by
      rw [List.cons_append, List.map_cons, once, mk_cons, vals fun v => decide (v < y.1), vals fun v => decide (y.1 < v), once_filter, once_filter, List.filter_filter, List.filter_filter]
      congr 2
      · congr 1
        apply List.filter_congr
        intro v _
        by_cases hv : v < y.1
        · have : v ≠ y.1 := by omega
          simp [hv, this]
        · simp [hv]
      · congr 1
        apply List.filter_congr
        intro v _
        by_cases hv : y.1 < v
        · have h1 : v ≠ y.1 := by omega
          have h2 : y.1 ≤ v := by omega
          simp [hv, h1, h2]
        · by_cases h1 : v = y.1
          · simp [h1]
          · have h2 : ¬ y.1 ≤ v := by omega
            simp [hv, h1, h2]
    rw [hm, List.cons_append, cg_cons]
    simp only [if_true]
    rw [List.append_assoc, List.mem_append, List.mem_append, List.mem_singleton, List.map_cons, List.mem_cons, List.mem_cons, List.mem_append]
    have inLow : x.1 < y.1 ∨ ¬ x.1 < y.1 := by omega
    have lowOnly : ∀ {m : Nat} {e : Option Nat}, x ∈ cg Prod.fst pl true m e ((A ++ x :: B).filter fun z => decide (z.1 < y.1)) → x.1 < y.1 := fun h => by
      have := (List.mem_filter.mp (cg_mem _ _ _ h)).2
      simpa using this
    have hiOnly : ∀ {m : Nat} {e : Option Nat}, x ∈ cg Prod.fst pl true m e ((A ++ x :: B).filter fun z => decide (y.1 < z.1)) → y.1 < x.1 := fun h => by
      have := (List.mem_filter.mp (cg_mem _ _ _ h)).2
      simpa using this
    have mLow : ∀ {m : Nat} {e : Option Nat}, x.1 ∈ mk id pl m e (once (((A ++ x :: B).filter fun z => decide (z.1 < y.1)).map (·.1))) → x.1 < y.1 := fun h => by
      have h1 := once_mem.mp (mk_mem _ _ _ h)
      rw [vals fun v => decide (v < y.1)] at h1
      simpa using (List.mem_filter.mp h1).2
    have mHi : ∀ {m : Nat} {e : Option Nat}, x.1 ∈ mk id pl m e (once (((A ++ x :: B).filter fun z => decide (y.1 < z.1)).map (·.1))) → y.1 < x.1 := fun h => by
      have h1 := once_mem.mp (mk_mem _ _ _ h)
      rw [vals fun v => decide (y.1 < v)] at h1
      simpa using (List.mem_filter.mp h1).2
    have preA : ∀ t : Int → Bool, t x.1 = true → (x.1 ∈ (A.filter fun z => t z.1).map (·.1) ↔ x.1 ∈ A.map (·.1)) := fun t ht => by
      have e : (A.filter fun z => t z.1).map (·.1) = (A.map (·.1)).filter t := by
        rw [List.filter_map]
        rfl
      rw [e, List.mem_filter]
      simp [ht]
    rcases Int.lt_trichotomy x.1 y.1 with h | h | h
    · have tx : (fun z : Int × Nat => decide (z.1 < y.1)) x = true := decide_eq_true h
      have ih := strict_keeps pl n (atP pl q).1 (A.filter fun z => decide (z.1 < y.1)) (B.filter fun z => decide (z.1 < y.1)) x (dd _) (ll _ tx)
      rw [← split _ tx, preA (fun v => decide (v < y.1)) (decide_eq_true h)] at ih
      constructor
      · rintro (c | c | c)
        · rintro ⟨a1, a2⟩
          refine ih.mp c ⟨a1.resolve_left (by omega), ?_⟩
          rcases a2 with a2 | a2 | a2
          · omega
          · exact a2
          · have := mHi a2
            omega
        · exact (hxy c).elim
        · have := hiOnly c
          omega
      · intro c
        refine .inl (ih.mpr fun ⟨a1, a2⟩ => c ⟨.inr a1, .inr (.inl a2)⟩)
    · constructor
      · rintro (c | c | c)
        · have := lowOnly c
          omega
        · exact (hxy c).elim
        · have := hiOnly c
          omega
      · intro c
        exact (c ⟨.inl h, .inl h⟩).elim
    · have tx : (fun z : Int × Nat => decide (y.1 < z.1)) x = true := decide_eq_true h
      have ih := strict_keeps pl n (atP pl q).2 (A.filter fun z => decide (y.1 < z.1)) (B.filter fun z => decide (y.1 < z.1)) x (dd _) (ll _ tx)
      rw [← split _ tx, preA (fun v => decide (y.1 < v)) (decide_eq_true h)] at ih
      constructor
      · rintro (c | c | c)
        · have := lowOnly c
          omega
        · exact (hxy c).elim
        · rintro ⟨a1, a2⟩
          refine ih.mp c ⟨a1.resolve_left (by omega), ?_⟩
          rcases a2 with a2 | a2 | a2
          · omega
          · have := mLow a2
            omega
          · exact a2
      · intro c
        exact .inr (.inr (ih.mpr fun ⟨a1, a2⟩ => c ⟨.inr a1, .inr (.inr a2)⟩))
/-! ### rows of steps -/
def outB (low high : Option Int) (v : Int) : Bool := (match low with | none => false | some l => decide (v < l)) || (match high with | none => false | some h => decide (h ≤ v))
def inB (low high : Option Int) (z : Int × Nat) : Bool := !outB low high z.1
def wordF (own : Int) : Option Int → Option Int → List Int → List Bool
  | _, _, [] => []
  | low, high, v :: r => if outB low high v then wordF own low high r else if own < v then true :: wordF own low (some v) r else false :: wordF own (some v) high r
def goesF (pl : Plan) : Option Nat → List Bool → Bool
  | e, [] => e.isSome
  | none, _ :: _ => false
  | some q, b :: w => goesF pl (if b then (atP pl q).1 else (atP pl q).2) w
theorem inB_low {low high : Option Int} {v : Int} (h : outB low high v = false) (l : List (Int × Nat)) : (l.filter (inB low high)).filter (fun z => decide (z.1 < v)) = l.filter (inB low (some v)) := by
  rw [List.filter_filter]
  apply List.filter_congr
  intro z _
  rw [Bool.eq_iff_iff]
  unfold inB
  rcases low with _ | a <;> rcases high with _ | b <;> simp only [outB, Bool.and_eq_true, Bool.not_eq_true', Bool.or_eq_false_iff, decide_eq_true_eq, decide_eq_false_iff_not, true_and, and_true] at h ⊢ <;> omega
theorem inB_high {low high : Option Int} {v : Int} (h : outB low high v = false) (l : List (Int × Nat)) : (l.filter (inB low high)).filter (fun z => decide (v ≤ z.1)) = l.filter (inB (some v) high) := by
  rw [List.filter_filter]
  apply List.filter_congr
  intro z _
  rw [Bool.eq_iff_iff]
  unfold inB
  rcases low with _ | a <;> rcases high with _ | b <;> simp only [outB, Bool.and_eq_true, Bool.not_eq_true', Bool.or_eq_false_iff, decide_eq_true_eq, decide_eq_false_iff_not, true_and, and_true] at h ⊢ <;> omega
theorem goes_mk (pl : Plan) (x : Int × Nat) : ∀ (pre post : List (Int × Nat)) (low high : Option Int) (n : Nat) (e : Option Nat), (∀ z ∈ pre ++ post, z.2 ≠ x.2) → outB low high x.1 = false → (pre.filter (inB low high) ++ x :: post.filter (inB low high)).length ≤ n →
    (x ∈ mk Prod.fst pl n e (pre.filter (inB low high) ++ x :: post.filter (inB low high)) ↔ goesF pl e (wordF x.1 low high (pre.map (·.1))) = true)
  | [], post, low, high, n, e, hd, hx, hn => by
    obtain ⟨m, rfl⟩ : ∃ m, n = m + 1 := ⟨n - 1, by simp at hn; omega⟩
    cases e with
    | none => simp [wordF, goesF]
    | some q => simp [wordF, goesF, mk_cons]
  | v :: pre, post, low, high, n, e, hd, hx, hn => by
    have hd' : ∀ z ∈ pre ++ post, z.2 ≠ x.2 := fun z hz => hd z (List.mem_cons_of_mem _ hz)
    have hxv : x ≠ v := fun e => hd v (List.mem_cons_self ..) (by rw [e])
    cases ho : outB low high v.1 with
    | true =>
      have hb : inB low high v = false := by unfold inB; rw [ho]; rfl
      rw [List.filter_cons_of_neg (by rw [hb]; exact Bool.false_ne_true)] at hn ⊢
      rw [List.map_cons, wordF, if_pos ho]
      exact goes_mk pl x pre post low high n e hd' hx hn
    | false =>
      have hb : inB low high v = true := by unfold inB; rw [ho]; rfl
      rw [List.filter_cons_of_pos hb] at hn ⊢
      rw [List.map_cons, wordF, if_neg (by rw [ho]; exact Bool.false_ne_true), List.cons_append]
      have hl : (pre.filter (inB low high) ++ x :: post.filter (inB low high)).length ≤ n - 1 := by
        rw [List.cons_append, List.length_cons] at hn
        omega
      cases e with
      | none =>
        rw [mk_none]
        split <;> simp [goesF]
      | some q =>
        obtain ⟨m, rfl⟩ : ∃ m, n = m + 1 := ⟨n - 1, by rw [List.cons_append, List.length_cons] at hn; omega⟩
        rw [mk_cons, List.mem_cons, List.mem_append]
        have le : ∀ t : Int × Nat → Bool, ((pre.filter (inB low high) ++ x :: post.filter (inB low high)).filter t).length ≤ m := fun t => Nat.le_trans (List.length_filter_le _ _) (by omega)
        by_cases h : x.1 < v.1
        · rw [if_pos h, goesF, if_pos rfl]
          have e1 : (pre.filter (inB low high) ++ x :: post.filter (inB low high)).filter (fun z => decide (z.1 < v.1)) = pre.filter (inB low (some v.1)) ++ x :: post.filter (inB low (some v.1)) := by
            rw [List.filter_append, List.filter_cons_of_pos (a := x) (show (fun z : Int × Nat => decide (z.1 < v.1)) x = true from decide_eq_true h), inB_low ho, inB_low ho]
          have hx' : outB low (some v.1) x.1 = false := by
            unfold outB at *
            cases low <;> cases high <;> simp_all
          have l1 := le fun z => decide (z.1 < v.1)
          rw [e1] at l1
          rw [← goes_mk pl x pre post low (some v.1) m _ hd' hx' l1, e1]
          constructor
          · rintro (c | c | c)
            · exact (hxv c).elim
            · exact c
            · have := (List.mem_filter.mp (mk_mem _ _ _ c)).2
              simp at this
              omega
          · intro c
            exact .inr (.inl c)
        · rw [if_neg h, goesF, if_neg Bool.false_ne_true]
          have hle : v.1 ≤ x.1 := by omega
          have e1 : (pre.filter (inB low high) ++ x :: post.filter (inB low high)).filter (fun z => decide (v.1 ≤ z.1)) = pre.filter (inB (some v.1) high) ++ x :: post.filter (inB (some v.1) high) := by
            rw [List.filter_append, List.filter_cons_of_pos (a := x) (show (fun z : Int × Nat => decide (v.1 ≤ z.1)) x = true from decide_eq_true hle), inB_high ho, inB_high ho]
          have hx' : outB (some v.1) high x.1 = false := by
            unfold outB at *
            cases low <;> cases high <;> simp_all
          have l1 := le fun z => decide (v.1 ≤ z.1)
          rw [e1] at l1
          rw [← goes_mk pl x pre post (some v.1) high m _ hd' hx' l1, e1]
          constructor
          · rintro (c | c | c)
            · exact (hxv c).elim
            · have := (List.mem_filter.mp (mk_mem _ _ _ c)).2
              simp at this
              omega
            · exact c
          · intro c
            exact .inr (.inr c)
end KM
/-! What the functions over data come to: loops, comprehensions, and a way to go through a body. -/
namespace DM
open PySem PyProof.Rows L2 DL LamX DI
variable {u : Um} {b : Sm} {t : Tm} {e : Em} {W : List Nat} {its : List PyData} {s s' s1 : Sx}
theorem set_z {α : Type} {a b : α} {l : List α} : (a :: l).set 0 b = b :: l := rfl
theorem set_s {α : Type} {a b : α} {l : List α} {i : Nat} : (a :: l).set (i + 1) b = a :: l.set i b := rfl
theorem get_z {α : Type} {a : α} {l : List α} : (a :: l)[0]? = some a := rfl
theorem get_s {α : Type} {a : α} {l : List α} {i : Nat} : (a :: l)[i + 1]? = l[i]? := rfl
theorem atI_0 {α : Type} {a : α} {l : List α} : L2.atI (a :: l) 0 = some a := L2.atI_nat (j := 0) rfl
theorem atI_1 {α : Type} {a b : α} {l : List α} : L2.atI (a :: b :: l) 1 = some b := L2.atI_nat (j := 1) rfl
theorem atI_2 {α : Type} {a b c : α} {l : List α} : L2.atI (a :: b :: c :: l) 2 = some c := L2.atI_nat (j := 2) rfl
theorem ix3_0 : ixN 3 0 = some 0 := rfl
theorem ix3_1 : ixN 3 1 = some 1 := rfl
theorem oIx_l {ds : List PyData} {n : Int} : oIx (.list ds) (.int n) = (L2.atI ds n).map .d := rfl
theorem oIx_t {ds : List PyData} {n : Int} : oIx (.tuple ds) (.int n) = (L2.atI ds n).map .d := rfl
theorem oAdd_ii {m n : Int} : oAdd (.int m) (.int n) = some (.d (.int (m + n))) := rfl
theorem isN_n : isN .none = true := rfl
theorem isN_i {n : Int} : isN (.int n) = false := rfl
theorem isN_b {n : Bool} : isN (.bool n) = false := rfl
theorem isN_s {n : Str} : isN (.str n) = false := rfl
theorem isN_l {n : List PyData} : isN (.list n) = false := rfl
theorem isN_t {n : List PyData} : isN (.tuple n) = false := rfl
theorem isN_d {n : List (PyData × PyData)} : isN (.dict n) = false := rfl
def iRgD (d : PyData) (s1 : Sx) : Re (List PyData) :=
  match d with
  | .int n => if n.natAbs ≤ 2 ^ 61 then .ok ((List.range n.toNat).map fun (i : Nat) => .int i) s1 else .no
  | _ => .no
theorem iRg_app {m : Em} {s : Sx} : iRg m s = (m s).da iRgD := rfl
theorem rg_ok {n : Nat} (h : n ≤ 1000000) (s : Sx) : iRgD (.int (n : Int)) s = .ok ((List.range n).map fun (n : Nat) => PyData.int (n : Int)) s := by
  unfold iRgD
  dsimp only
  rw [if_pos (by omega), Int.toNat_natCast]
theorem eIx_app {a b : Em} {s : Sx} : eIx a b s = eOp oIx a b s := rfl
def wpA (W : List Nat) : Nat → Sx → Sx
  | _, [] => []
  | i, c :: s => (if W.contains i then .no else c) :: wpA W (i + 1) s
theorem wpA_eq {W : List Nat} : ∀ {s : Sx} {i : Nat}, s.mapIdx (fun j x => if i + j ∈ W then Ce.no else x) = wpA W i s
  | [], i => rfl
  | c :: s, i => by
    rw [List.mapIdx_cons, wpA, ← wpA_eq (s := s) (i := i + 1)]
    congr 1
    · by_cases h : i ∈ W <;> simp [h]
    · congr 1
      funext j x
      rw [show i + 1 + j = i + (j + 1) by omega]
theorem wp_eq : wipeC W s = wpA W 0 s := by
  rw [← wpA_eq]
  unfold wipeC
  congr 1
  funext j x
  rw [Nat.zero_add]
theorem wpA_nil {i : Nat} : wpA W i [] = [] := rfl
theorem wpA_cons {i : Nat} {c : Ce} : wpA W i (c :: s) = (if W.contains i then .no else c) :: wpA W (i + 1) s := rfl
theorem ite_t {α : Type} {a b : α} : (if true = true then a else b) = a := rfl
theorem ite_f {α : Type} {a b : α} : (if false = true then a else b) = b := rfl
/-! ### loops -/
theorem forL_nil : forL u b [] s = .nx s := rfl
theorem forL_nx {d : PyData} {ds : List PyData} {s2 : Sx} (h1 : u d s = some s1) (h2 : b s1 = .nx s2) : forL u b (d :: ds) s = forL u b ds s2 := by
  simp only [forL, h1, h2]
theorem forL_ct {d : PyData} {ds : List PyData} {s2 : Sx} (h1 : u d s = some s1) (h2 : b s1 = .ct s2) : forL u b (d :: ds) s = forL u b ds s2 := by
  simp only [forL, h1, h2]
theorem forL_bk {d : PyData} {ds : List PyData} {s2 : Sx} (h1 : u d s = some s1) (h2 : b s1 = .bk s2) : forL u b (d :: ds) s = .nx s2 := by
  simp only [forL, h1, h2]
theorem forL_rt {d : PyData} {ds : List PyData} {s2 : Sx} {v : Vl} (h1 : u d s = some s1) (h2 : b s1 = .rt v s2) : forL u b (d :: ds) s = .rt v s2 := by
  simp only [forL, h1, h2]
theorem forL_er {d : PyData} {ds : List PyData} {s2 : Sx} {x : Xr} (h1 : u d s = some s1) (h2 : b s1 = .er x s2) : forL u b (d :: ds) s = .er x s2 := by
  simp only [forL, h1, h2]
theorem forL_app {as bs : List PyData} (h : forL u b as s = .nx s1) (hb : ∀ d s s1 s2, u d s = some s1 → b s1 ≠ .bk s2) : forL u b (as ++ bs) s = forL u b bs s1 := by
  induction as generalizing s with
  | nil => cases h; rfl
  | cons d ds ih =>
    simp only [List.cons_append, forL] at h ⊢
    split
    · next e => rw [e] at h; cases h
    · next s2 e =>
      rw [e] at h
      simp only at h
      split
      · next s3 e3 => rw [e3] at h; exact ih h
      · next s3 e3 => rw [e3] at h; exact ih h
      · next s3 e3 => exact absurd e3 (hb _ _ _ _ e)
      · next r h1 h2 h3 =>
        split at h
        · next s3 e3 => exact absurd e3 (h1 _)
        · next s3 e3 => exact absurd e3 (h2 _)
        · next s3 e3 => exact absurd e3 (h3 _)
        · exact absurd h (h1 _)
/-- turn by turn, with what holds before the turn i -/
theorem forL_inv (I : Nat → Sx → Prop) : ∀ {its : List PyData} {i : Nat} {s : Sx}, I i s → (∀ j d s, its[j]? = some d → I (i + j) s → ∃ s1 s2, u d s = some s1 ∧ (b s1 = .nx s2 ∨ b s1 = .ct s2) ∧ I (i + (j + 1)) s2) → ∃ s', forL u b its s = .nx s' ∧ I (i + its.length) s'
  | [], i, s, h, _ => ⟨s, rfl, h⟩
  | d :: ds, i, s, h, g => by
    obtain ⟨s1, s2, h1, h2, h3⟩ := g 0 d s rfl h
    obtain ⟨s', e, k⟩ := forL_inv I (its := ds) (i := i + 1) (s := s2) h3 fun j d' s0 hd hs => by
      have hs' : I (i + (j + 1)) s0 := by rw [show i + (j + 1) = i + 1 + j by omega]; exact hs
      obtain ⟨t1, t2, a1, a2, a3⟩ := g (j + 1) d' s0 hd hs'
      exact ⟨t1, t2, a1, a2, by rw [show i + 1 + (j + 1) = i + (j + 1 + 1) by omega]; exact a3⟩
    refine ⟨s', ?_, by rw [List.length_cons, show i + (ds.length + 1) = i + 1 + ds.length by omega]; exact k⟩
    rcases h2 with h2 | h2
    · rw [forL_nx h1 h2]; exact e
    · rw [forL_ct h1 h2]; exact e
/-- a fold -/
theorem forL_fold {σ : Type} (st : σ → Sx) (g : PyData → σ → σ) : ∀ {its : List PyData} {x : σ}, (∀ d ∈ its, ∀ x, ∃ s1 s2, u d (st x) = some s1 ∧ (b s1 = .nx s2 ∨ b s1 = .ct s2) ∧ s2 = st (g d x)) → forL u b its (st x) = .nx (st (its.foldl (fun x d => g d x) x))
  | [], x, _ => rfl
  | d :: ds, x, h => by
    obtain ⟨s1, s2, h1, h2, h3⟩ := h d (List.mem_cons_self ..) x
    subst h3
    have e := forL_fold st g (its := ds) (x := g d x) fun d hd => h d (List.mem_cons_of_mem _ hd)
    rcases h2 with h2 | h2
    · rw [forL_nx h1 h2]; exact e
    · rw [forL_ct h1 h2]; exact e
/-- as forL_inv, with a first part that goes on and a turn that ends it -/
theorem forL_til (I : Nat → Sx → Prop) {r : Ro} : ∀ {its : List PyData} {i k : Nat} {d0 : PyData} {s : Sx}, its[k]? = some d0 → I i s → (∀ j d s, j < k → its[j]? = some d → I (i + j) s → ∃ s1 s2, u d s = some s1 ∧ (b s1 = .nx s2 ∨ b s1 = .ct s2) ∧ I (i + (j + 1)) s2) → (∀ s, I (i + k) s → ∃ s1, u d0 s = some s1 ∧ ((∃ v s2, b s1 = .rt v s2 ∧ r = .rt v s2) ∨ ∃ x s2, b s1 = .er x s2 ∧ r = .er x s2)) → ∀ P : Ro → Prop, P r → P (forL u b its s)
  | [], i, k, d0, s, hk, _, _, _ => by simp at hk
  | d :: ds, i, 0, d0, s, hk, h, _, g => fun P hP => by
    cases hk
    obtain ⟨s1, h1, h2⟩ := g s h
    rcases h2 with ⟨v, s2, h2, e⟩ | ⟨v, s2, h2, e⟩
    · rw [forL_rt h1 h2]; rw [← e]; exact hP
    · rw [forL_er h1 h2]; rw [← e]; exact hP
  | d :: ds, i, k + 1, d0, s, hk, h, f, g => fun P hP => by
    obtain ⟨s1, s2, h1, h2, h3⟩ := f 0 d s (by omega) rfl h
    have := forL_til I (its := ds) (i := i + 1) (k := k) (d0 := d0) (s := s2) (r := r) hk h3 (fun j d' s0 hj hd hs => by
      have hs' : I (i + (j + 1)) s0 := by rw [show i + (j + 1) = i + 1 + j by omega]; exact hs
      obtain ⟨t1, t2, a1, a2, a3⟩ := f (j + 1) d' s0 (by omega) hd hs'
      exact ⟨t1, t2, a1, a2, by rw [show i + 1 + (j + 1) = i + (j + 1 + 1) by omega]; exact a3⟩) (fun s hs => g s (by rw [show i + (k + 1) = i + 1 + k by omega]; exact hs)) P hP
    rcases h2 with h2 | h2
    · rw [forL_nx h1 h2]; exact this
    · rw [forL_ct h1 h2]; exact this
/-! ### comprehensions -/
/-- one that leaves the names as they stood -/
theorem lcL_eq (p : PyData → Bool) (f : PyData → PyData) : ∀ {its : List PyData}, (∀ d ∈ its, ∃ s1 s2, u d s = some s1 ∧ t s1 = .ok (p d) s2 ∧ (if p d then ∃ v s3, e s2 = .ok v s3 ∧ (v = .d (f d) ∨ ∃ us, v = .l us ∧ f d = .list us) ∧ wipeC W s3 = s else wipeC W s2 = s)) → lcL W u t e its s = .ok ((its.filter p).map f) s
  | [], _ => rfl
  | d :: ds, h => by
    have ih := lcL_eq p f (its := ds) fun d hd => h d (List.mem_cons_of_mem _ hd)
    obtain ⟨s1, s2, h1, h2, h3⟩ := h d (List.mem_cons_self ..)
    simp only [lcL, h1, h2, Re.bd]
    cases hp : p d with
    | true =>
      rw [hp, if_pos rfl] at h3
      obtain ⟨v, s3, h3, h4, h5⟩ := h3
      rw [if_pos rfl, List.filter_cons_of_pos hp, List.map_cons, h3]
      rcases h4 with rfl | ⟨us, rfl, h4⟩
      · simp only [Re.da, h5, ih]
      · simp only [Re.da, h5, ih, h4]
    | false =>
      rw [hp, if_neg (by decide)] at h3
      rw [if_neg (by decide), List.filter_cons_of_neg (by rw [hp]; decide), h3, ih]
theorem lcL_map (f : PyData → PyData) (h : ∀ d ∈ its, ∃ s1 s2, u d s = some s1 ∧ t s1 = .ok true s2 ∧ ∃ v s3, e s2 = .ok v s3 ∧ (v = .d (f d) ∨ ∃ us, v = .l us ∧ f d = .list us) ∧ wipeC W s3 = s) : lcL W u t e its s = .ok (its.map f) s := by
  have := lcL_eq (W := W) (u := u) (t := t) (e := e) (s := s) (fun _ => true) f (its := its) fun d hd => by
    obtain ⟨s1, s2, h1, h2, h3⟩ := h d hd
    exact ⟨s1, s2, h1, h2, by rw [if_pos rfl]; exact h3⟩
  rw [this]
  congr 2
  rw [List.filter_eq_self]
  intros
  rfl
/-- over what stands for things -/
theorem lcL_enc {α : Type} (enc : α → PyData) (p : α → Bool) (f : α → PyData) : ∀ {xs : List α}, (∀ x ∈ xs, ∃ s1 s2, u (enc x) s = some s1 ∧ t s1 = .ok (p x) s2 ∧ (p x = true → ∃ v s3, e s2 = .ok v s3 ∧ (v = .d (f x) ∨ ∃ us, v = .l us ∧ f x = .list us) ∧ wipeC W s3 = s) ∧ (p x = false → wipeC W s2 = s)) → lcL W u t e (xs.map enc) s = .ok ((xs.filter p).map f) s
  | [], _ => rfl
  | x :: xs, h => by
    have ih := lcL_enc enc p f (xs := xs) fun d hd => h d (List.mem_cons_of_mem _ hd)
    obtain ⟨s1, s2, h1, h2, h3, h4⟩ := h x (List.mem_cons_self ..)
    simp only [List.map_cons, lcL, h1, h2, Re.bd]
    cases hp : p x with
    | true =>
      obtain ⟨v, s3, h3, h5, h6⟩ := h3 hp
      rw [if_pos rfl, List.filter_cons_of_pos hp, List.map_cons, h3]
      rcases h5 with rfl | ⟨us, rfl, h5⟩
      · simp only [Re.da, h6, ih]
      · simp only [Re.da, h6, ih, h5]
    | false => rw [if_neg (by decide), List.filter_cons_of_neg (by rw [hp]; decide), h4 hp, ih]
theorem lcL_encM {α : Type} (enc : α → PyData) (f : α → PyData) {xs : List α} (h : ∀ x ∈ xs, ∃ s1 s2, u (enc x) s = some s1 ∧ t s1 = .ok true s2 ∧ ∃ v s3, e s2 = .ok v s3 ∧ (v = .d (f x) ∨ ∃ us, v = .l us ∧ f x = .list us) ∧ wipeC W s3 = s) : lcL W u t e (xs.map enc) s = .ok (xs.map f) s := by
  have := lcL_enc (W := W) (u := u) (t := t) (e := e) (s := s) enc (fun _ => true) f (xs := xs) fun d hd => by
    obtain ⟨s1, s2, h1, h2, h3⟩ := h d hd
    exact ⟨s1, s2, h1, h2, fun _ => h3, fun z => by cases z⟩
  rw [this]
  congr 2
  rw [List.filter_eq_self]
  intros
  rfl
/-- .. which test and element leave as they stand -/
theorem lcL_pure {α : Type} (enc : α → PyData) (p : α → Bool) (f : α → PyData) {xs : List α} (h : ∀ x ∈ xs, ∃ s1, u (enc x) s = some s1 ∧ t s1 = .ok (p x) s1 ∧ (p x = true → ∃ v, e s1 = .ok v s1 ∧ (v = .d (f x) ∨ ∃ us, v = .l us ∧ f x = .list us)) ∧ wipeC W s1 = s) : lcL W u t e (xs.map enc) s = .ok ((xs.filter p).map f) s :=
  lcL_enc enc p f fun x hx => by
    obtain ⟨s1, h1, h2, h3, h4⟩ := h x hx
    refine ⟨s1, s1, h1, h2, fun q => ?_, fun _ => h4⟩
    obtain ⟨v, h5, h6⟩ := h3 q
    exact ⟨v, s1, h5, h6, h4⟩
theorem lcL_pureM {α : Type} (enc : α → PyData) (f : α → PyData) {xs : List α} (h : ∀ x ∈ xs, ∃ s1, u (enc x) s = some s1 ∧ t s1 = .ok true s1 ∧ (∃ v, e s1 = .ok v s1 ∧ (v = .d (f x) ∨ ∃ us, v = .l us ∧ f x = .list us)) ∧ wipeC W s1 = s) : lcL W u t e (xs.map enc) s = .ok (xs.map f) s :=
  lcL_encM enc f fun x hx => by
    obtain ⟨s1, h1, h2, ⟨v, h5, h6⟩, h4⟩ := h x hx
    exact ⟨s1, s1, h1, h2, v, s1, h5, h6, h4⟩
/-- with what holds before the turn i -/
theorem lcL_inv (I : Nat → Sx → List PyData → Prop) : ∀ {its : List PyData} {i : Nat} {s : Sx} {acc : List PyData}, I i s acc → (∀ j d s acc, its[j]? = some d → I (i + j) s acc → ∃ s1 s2 v r s3, u d s = some s1 ∧ t s1 = .ok true s2 ∧ e s2 = .ok v s3 ∧ (v = .d r ∨ ∃ us, v = .l us ∧ r = .list us) ∧ I (i + (j + 1)) (wipeC W s3) (acc ++ [r])) → ∃ rs s', lcL W u t e its s = .ok rs s' ∧ I (i + its.length) s' (acc ++ rs)
  | [], i, s, acc, h, _ => ⟨[], s, rfl, by rw [List.append_nil]; exact h⟩
  | d :: ds, i, s, acc, h, g => by
    obtain ⟨s1, s2, v, r, s3, h1, h2, h3, h4, h5⟩ := g 0 d s acc rfl h
    obtain ⟨rs, s', e1, k⟩ := lcL_inv I (its := ds) (i := i + 1) (s := wipeC W s3) (acc := acc ++ [r]) h5 fun j d' s0 acc hd hs => by
      have hs' : I (i + (j + 1)) s0 acc := by rw [show i + (j + 1) = i + 1 + j by omega]; exact hs
      obtain ⟨t1, t2, v, r, t3, a1, a2, a3, a4, a5⟩ := g (j + 1) d' s0 acc hd hs'
      exact ⟨t1, t2, v, r, t3, a1, a2, a3, a4, by rw [show i + 1 + (j + 1) = i + (j + 1 + 1) by omega]; exact a5⟩
    refine ⟨r :: rs, s', ?_, by rw [List.length_cons, show i + (ds.length + 1) = i + 1 + ds.length by omega]; rw [List.append_assoc] at k; exact k⟩
    simp only [lcL, h1, h2, Re.bd, h3]
    rw [if_pos trivial]
    rcases h4 with rfl | ⟨us, rfl, h4⟩
    · simp only [Re.da, e1]
    · simp only [Re.da, e1, h4]
theorem eLc_of {n : Nat} {it : Am} {ds : List PyData} {s0 : Sx} (h1 : it (wipeC W s) = .ok its s1) (h2 : lcL W u t e its (wipeC W s1) = .ok ds s0) (hl : s.length = n := by rfl) (h3 : its.length ≤ 100000) : eLc n W u it t e s = .ok ds s0 := by
  unfold eLc
  rw [if_pos hl, h1]
  simp only [Re.bd]
  rw [if_pos h3, h2]
/-- a list, new or not -/
def VlL (v : Vl) (ds : List PyData) : Prop := v = .l ds ∨ v = .d (.list ds)
/-! ### step by step -/
theorem sq_nx {a b : Sm} {s s1 : Sx} {r : Ro} (h : a s = .nx s1) (h2 : b s1 = r) : sSeq a b s = r := by
  unfold sSeq
  rw [h]
  exact h2
theorem sq_rt {a b : Sm} {s s1 : Sx} {v : Vl} (h : a s = .rt v s1) : sSeq a b s = .rt v s1 := by
  unfold sSeq
  rw [h]
theorem sq_er {a b : Sm} {s s1 : Sx} {v : Xr} (h : a s = .er v s1) : sSeq a b s = .er v s1 := by
  unfold sSeq
  rw [h]
theorem runD_rt {np n : Nat} {b : Sm} {ds : List PyData} {v : Vl} {s : Sx} (h : b (startC n ds) = .rt v s) (hl : ds.length = np := by rfl) : runD np n b ds = .ok v := by
  unfold runD
  rw [if_pos hl, h]
theorem runD_nx {np n : Nat} {b : Sm} {ds : List PyData} {s : Sx} (h : b (startC n ds) = .nx s) (hl : ds.length = np := by rfl) : runD np n b ds = .ok (.d .none) := by
  unfold runD
  rw [if_pos hl, h]
theorem runD_er {np n : Nat} {b : Sm} {ds : List PyData} {v : Xr} {s : Sx} (h : b (startC n ds) = .er v s) (hl : ds.length = np := by rfl) : runD np n b ds = .er v := by
  unfold runD
  rw [if_pos hl, h]
theorem runM_rt {np n : Nat} {b : Sm} {ms ds ls : List PyData} {v : Vl} {s : Sx} (h : b (startCM n ms ds) = .rt v (.ow ls :: s)) (hl : ds.length + 1 = np := by rfl) : runM np n b ms ds = .ok v ls := by
  unfold runM
  rw [if_pos hl, h]
  rfl
theorem runM_nx {np n : Nat} {b : Sm} {ms ds ls : List PyData} {s : Sx} (h : b (startCM n ms ds) = .nx (.ow ls :: s)) (hl : ds.length + 1 = np := by rfl) : runM np n b ms ds = .ok (.d .none) ls := by
  unfold runM
  rw [if_pos hl, h]
  rfl
/-! ### while -/
theorem whL_end {n : Nat} {s s1 : Sx} (h : t s = .ok false s1) : whL t b (n + 1) s = .nx s1 := by simp only [whL, h]
theorem whL_go {n : Nat} {s s1 s2 : Sx} (h : t s = .ok true s1) (h2 : b s1 = .nx s2) : whL t b (n + 1) s = whL t b n s2 := by simp only [whL, h, h2]
end DM
namespace DM
open PySem PyProof.Rows DL LamX DI DC
/-! ### encodings -/
abbrev Plan := KM.Plan
def encE : Option Nat → PyData
  | none => .none
  | some n => .int (n : Int)
def encT (t : Option Nat × Option Nat) : PyData := .tuple [encE t.1, encE t.2]
def encL (pl : Plan) : List PyData := pl.map encT
abbrev encP (pl : Plan) : PyData := .list (encL pl)
def intsL (ns : List Int) : List PyData := ns.map .int
abbrev intsD (ns : List Int) : PyData := .list (intsL ns)
def natsL (ns : List Nat) : List PyData := ns.map fun (n : Nat) => PyData.int (n : Int)
abbrev natsD (ns : List Nat) : PyData := .list (natsL ns)
def okE (pl : Plan) (e : Option Nat) : Prop := ∀ n, e = some n → n < pl.length
structure OkP (pl : Plan) : Prop where
  len : pl.length ≤ 12
  ent : ∀ t ∈ pl, okE pl t.1 ∧ okE pl t.2
def fst0 (pl : Plan) : Option Nat := if pl = [] then none else some 0
@[simp] theorem encL_len (pl : Plan) : (encL pl).length = pl.length := List.length_map ..
@[simp] theorem intsL_len (ns : List Int) : (intsL ns).length = ns.length := List.length_map ..
@[simp] theorem natsL_len (ns : List Nat) : (natsL ns).length = ns.length := List.length_map ..
local macro_rules | `(tactic| walk_at "ev") => `(tactic| simp only [runD, runM, startC, startCM, sSeq, sIf, sRet, sRetV, sSet, sSetL, sExpr, sRaise, sFor, sNil, sTwo, sStar, sPar, sPut, sApp, sAug, sPass, sCont, sBrk, sWhile, sQ, q, Re.q, Re.k, Re.kd, Re.da, Re.bd, rO, eK, eVar, hVar, hDisp, hNames, hE, eOp, eUn, eLk, cOp, cOpH, cOpV, cCh, cIsN, cNotN, vN, isN_n, isN_i, isN_b, isN_s, isN_l, isN_t, isN_d, List.isEmpty_cons, List.isEmpty_nil, eC, DI.tTru, truD, DI.tNot, DI.tAnd, DI.tOr, eAnd, eOr, eNot, eIf, aN, aC, eLst, eTup, eJoin, eDict0, eCall, rC, eSl, oS, oN, oCut, iE, iRg_app, DI.iEnum, vC, uName, uTwo, oIsi, isiD, oLen, oLt, oLe, oGt, oGe, oAdd_ii, and_self, and_true, true_and, Int.toNat_natCast, decide_true, decide_false, Int.reduceAdd, Int.reduceSub, Bool.false_or, Bool.true_or, Bool.or_true, oSub, oInt, oList, eL, eIxV, oIxL, eIx_app, tT, eLRg, eMaxD, sWp, eCallM, eCallK, List.map_cons, List.map_nil, List.cons_append, List.nil_append, List.length_cons, List.length_nil, Nat.reduceAdd, Nat.reduceSub, List.reduceReplicate, set_z, set_s, get_z, get_s, ite_t, ite_f, if_true, if_false, reduceIte, Option.map_some, Option.map_none, Bool.not_true, Bool.not_false, Bool.false_eq_true, wp_eq, wpA_nil, wpA_cons, List.contains_cons, List.contains_nil, Bool.or_false, Nat.reduceBEq, Int.reduceNeg, Int.cast_ofNat_Int, atI_0, atI_1, atI_2, ix3_0, ix3_1, encL_len, intsL_len, natsL_len, List.length_map])
local macro_rules | `(tactic| walk_at "ev*") => `(tactic| simp only [runD, runM, startC, startCM, sSeq, sIf, sRet, sRetV, sSet, sSetL, sExpr, sRaise, sFor, sNil, sTwo, sStar, sPar, sPut, sApp, sAug, sPass, sCont, sBrk, sWhile, sQ, q, Re.q, Re.k, Re.kd, Re.da, Re.bd, rO, eK, eVar, hVar, hDisp, hNames, hE, eOp, eUn, eLk, cOp, cOpH, cOpV, cCh, cIsN, cNotN, vN, isN_n, isN_i, isN_b, isN_s, isN_l, isN_t, isN_d, List.isEmpty_cons, List.isEmpty_nil, eC, DI.tTru, truD, DI.tNot, DI.tAnd, DI.tOr, eAnd, eOr, eNot, eIf, aN, aC, eLst, eTup, eJoin, eDict0, eCall, rC, eSl, oS, oN, oCut, iE, iRg_app, DI.iEnum, vC, uName, uTwo, oIsi, isiD, oLen, oLt, oLe, oGt, oGe, oAdd_ii, and_self, and_true, true_and, Int.toNat_natCast, decide_true, decide_false, Int.reduceAdd, Int.reduceSub, Bool.false_or, Bool.true_or, Bool.or_true, oSub, oInt, oList, eL, eIxV, oIxL, eIx_app, tT, eLRg, eMaxD, sWp, eCallM, eCallK, List.map_cons, List.map_nil, List.cons_append, List.nil_append, List.length_cons, List.length_nil, Nat.reduceAdd, Nat.reduceSub, List.reduceReplicate, set_z, set_s, get_z, get_s, ite_t, ite_f, if_true, if_false, reduceIte, Option.map_some, Option.map_none, Bool.not_true, Bool.not_false, Bool.false_eq_true, wp_eq, wpA_nil, wpA_cons, List.contains_cons, List.contains_nil, Bool.or_false, Nat.reduceBEq, Int.reduceNeg, Int.cast_ofNat_Int, atI_0, atI_1, atI_2, ix3_0, ix3_1, encL_len, intsL_len, natsL_len, List.length_map, *])
local macro_rules | `(tactic| walk_at "ev st") => `(tactic| (apply sq_nx; focus (walk_at "ev*"; exact rfl)))
local macro_rules | `(tactic| walk_at "ev end") => `(tactic| (walk_at "ev*"; try exact rfl))
/-! ### items -/
theorem atI_nat {ds : List PyData} {i : Nat} {d : PyData} (h : ds[i]? = some d) : L2.atI ds (i : Int) = some d := L2.atI_nat h
theorem ix_list {ds : List PyData} {i : Nat} {d : PyData} (h : ds[i]? = some d) : oIx (.list ds) (.int (i : Int)) = some (.d d) := by
  unfold oIx
  simp only [atI_nat h, Option.map_some]
theorem ix_ints {vs : List Int} {p : Nat} (h : p < vs.length) : oIx (intsD vs) (.int (p : Int)) = some (.d (.int (vs.getD p 0))) := ix_list (by
  unfold intsL
  rw [List.getElem?_map, List.getElem?_eq_getElem h]
  simp [List.getD, List.getElem?_eq_getElem h])
theorem ix_plan {pl : Plan} {q : Nat} (h : q < pl.length) : oIx (encP pl) (.int (q : Int)) = some (.d (encT (KM.atP pl q))) := ix_list (by
  unfold encL
  rw [List.getElem?_map, List.getElem?_eq_getElem h]
  simp [KM.atP, List.getD, List.getElem?_eq_getElem h])
theorem OkP.at {pl : Plan} {q : Nat} (ok : OkP pl) (h : q < pl.length) : okE pl (KM.atP pl q).1 ∧ okE pl (KM.atP pl q).2 := by
  have : KM.atP pl q ∈ pl := by
    unfold KM.atP
    simp [List.getD, List.getElem?_eq_getElem h]
  exact ok.ent _ this
/-! ### what is no strange dict -/
def noDs (d : PyData) : Prop := ∀ x v l, d ≠ .dict ((.str x, v) :: l)
theorem noDs_int {n : Int} : noDs (.int n) := fun _ _ _ h => nomatch h
theorem noDs_none : noDs .none := fun _ _ _ h => nomatch h
theorem noDs_bool {n : Bool} : noDs (.bool n) := fun _ _ _ h => nomatch h
theorem noDs_str {n : Str} : noDs (.str n) := fun _ _ _ h => nomatch h
theorem noDs_list {n : List PyData} : noDs (.list n) := fun _ _ _ h => nomatch h
theorem noDs_tuple {n : List PyData} : noDs (.tuple n) := fun _ _ _ h => nomatch h
theorem noDs_dict0 : noDs (.dict []) := fun _ _ _ h => nomatch h
theorem noDs_encE {e : Option Nat} : noDs (encE e) := by cases e <;> exact fun _ _ _ h => nomatch h
theorem isi_eq {T : Ty} {d : PyData} (h : noDs d) : ∃ b, isiD T d = some b := by
  cases d with
  | dict l =>
    cases l with
    | nil => cases T <;> exact ⟨_, rfl⟩
    | cons a l =>
      obtain ⟨k, v⟩ := a
      cases k with
      | str x => exact absurd rfl (h x v l)
      | _ => cases T <;> exact ⟨_, rfl⟩
  | _ => cases T <;> exact ⟨_, rfl⟩
def isW : PyData → Bool
  | .int _ => true
  | _ => false
theorem is_whole {d : PyData} (h : noDs d) : d_is_whole [d] = .ok (.d (.bool (isW d))) := by
  cases d with
  | dict l =>
    cases l with
    | nil => rfl
    | cons a l =>
      obtain ⟨k, v⟩ := a
      cases k with
      | str x => exact absurd rfl (h x v l)
      | _ => rfl
  | _ => rfl
def fromB (m : Int) : PyData → Bool
  | .int n => decide (0 ≤ n) && decide (n ≤ m)
  | _ => false
theorem is_from {d : PyData} {m : Int} (h : noDs d) : d_is_from_0_to [d, .int m] = .ok (.d (.bool (fromB m d))) := by
  have h1 := is_whole h
  unfold d_is_from_0_to b_is_from_0_to
  walk_at "ev"
  simp only [h1]
  cases d with
  | int n =>
    simp only [isW, fromB]
    by_cases g : 0 ≤ n <;> walk_at "ev" <;> simp [g]
  | _ => rfl
theorem fromB_ok {n m : Int} (h : 0 ≤ n) (h2 : n ≤ m) : fromB m (.int n) = true := by
  show (decide (0 ≤ n) && decide (n ≤ m)) = true
  rw [decide_eq_true h, decide_eq_true h2]
  rfl
def entB (k : Int) : PyData → Bool
  | .none => true
  | d => fromB (k - 1) d
theorem is_entry {d : PyData} {k : Int} (h : noDs d) : d_is_entry [d, .int k] = .ok (.d (.bool (entB k d))) := by
  have h1 := is_from (m := k - 1) h
  unfold d_is_entry b_is_entry
  cases d with
  | none => rfl
  | _ =>
    walk_at "ev"
    simp only [h1, entB]
    try rfl
def pairB (k : Int) : PyData → Bool
  | .tuple [a, b] => entB k a && entB k b
  | _ => false
/-- a thing whose parts are none of the strange ones -/
def Tame (d : PyData) : Prop := noDs d ∧ ∀ a b, d = .tuple [a, b] → noDs a ∧ noDs b
theorem is_pair {d : PyData} {k : Int} (h : Tame d) : d_is_pair_of_entries [d, .int k] = .ok (.d (.bool (pairB k d))) := by
  cases d with
  | tuple ds =>
    match ds, h with
    | [], _ => rfl
    | [a], _ => rfl
    | [a, b], h =>
      obtain ⟨ha, hb⟩ := h.2 a b rfl
      have h1 := is_entry (k := k) ha
      have h2 := is_entry (k := k) hb
      unfold d_is_pair_of_entries b_is_pair_of_entries
      have e : oNe (.int 2) (.int 2) = some false := rfl
      cases ga : entB k a <;> cases gb : entB k b <;> rw [ga] at h1 <;> rw [gb] at h2 <;> walk_at "ev*" <;> simp [pairB, ga, gb]
    | a :: b :: c :: l, _ =>
      unfold d_is_pair_of_entries b_is_pair_of_entries
      have e : oNe (.int ((l.length + 1 + 1 + 1 : Nat) : Int)) (.int 2) = some true := by
        show some (!decide _) = _
        rw [decide_eq_false (by omega)]
        rfl
      walk_at "ev*"
      rfl
  | dict l =>
    cases l with
    | nil => rfl
    | cons a l =>
      obtain ⟨k, v⟩ := a
      cases k with
      | str x => exact absurd rfl (h.1 x v l)
      | _ => rfl
  | _ => rfl

/-! ### the first place that fails -/
def ePlan (d : PyData) : Xr := ⟨"InvalidPlan", "place", d⟩
def eVals (d : PyData) : Xr := ⟨"InvalidValues", "index", d⟩
def ePlace (d : PyData) : Xr := ⟨"InvalidPlace", "place", d⟩
def ePasses (d : PyData) : Xr := ⟨"InvalidPasses", "passes", d⟩
def firstBad (ok : PyData → Bool) : Nat → List PyData → Option Nat
  | _, [] => none
  | i, d :: ds => if ok d then firstBad ok (i + 1) ds else some i
theorem firstBad_ok {ok : PyData → Bool} : ∀ {ds : List PyData} {i : Nat}, (∀ d ∈ ds, ok d = true) → firstBad ok i ds = none
  | [], _, _ => rfl
  | d :: ds, i, h => by rw [firstBad, if_pos (h d (List.mem_cons_self ..)), firstBad_ok fun x hx => h x (List.mem_cons_of_mem _ hx)]
theorem firstBad_app {ok : PyData → Bool} {d : PyData} {bs : List PyData} : ∀ {as : List PyData} {i : Nat}, (∀ d ∈ as, ok d = true) → ok d = false → firstBad ok i (as ++ d :: bs) = some (i + as.length)
  | [], i, _, h => by simp [firstBad, h]
  | a :: as, i, h, h2 => by
    rw [List.cons_append, firstBad, if_pos (h a (List.mem_cons_self ..)), firstBad_app (fun x hx => h x (List.mem_cons_of_mem _ hx)) h2, List.length_cons]
    congr 1
    omega
theorem enumD_eq (ds : List PyData) : enumD ds = ds.mapIdx fun (i : Nat) d => .tuple [.int i, d] := rfl
/-- going through what is counted, till one fails -/
theorem forL_bad {ok : PyData → Bool} {b : Sm} {X : PyData → Xr} {j k : Nat} (I : Sx → Prop) : ∀ {ds : List PyData} {i : Nat} {s : Sx}, (∀ d ∈ ds, ∀ s i, I s → (ok d = true → b ((s.set j (.va (.int (i : Nat)))).set k (.va d)) = .nx ((s.set j (.va (.int (i : Nat)))).set k (.va d)) ∧ I ((s.set j (.va (.int (i : Nat)))).set k (.va d))) ∧ (ok d = false → ∃ s', b ((s.set j (.va (.int (i : Nat)))).set k (.va d)) = .er (X (.int (i : Nat))) s')) → I s →
    match firstBad ok i ds with
    | none => ∃ s', forL (uTwo j k) b (ds.mapIdx fun (n : Nat) d => .tuple [.int ((i + n : Nat) : Int), d]) s = .nx s' ∧ I s'
    | some n => ∃ s', forL (uTwo j k) b (ds.mapIdx fun (n : Nat) d => .tuple [.int ((i + n : Nat) : Int), d]) s = .er (X (.int (n : Nat))) s'
  | [], i, s, _, h => ⟨s, rfl, h⟩
  | d :: ds, i, s, hb, h => by
    have g := hb d (List.mem_cons_self ..) s i h
    rw [List.mapIdx_cons, firstBad]
    have e : (ds.mapIdx fun (n : Nat) d => PyData.tuple [.int ((i + (n + 1) : Nat) : Int), d]) = ds.mapIdx fun (n : Nat) d => PyData.tuple [.int ((i + 1 + n : Nat) : Int), d] := by
      congr 1
      funext n d
      rw [show i + (n + 1) = i + 1 + n by omega]
    rw [e]
    cases hd : ok d with
    | true =>
      rw [if_pos rfl]
      obtain ⟨h1, h2⟩ := g.1 hd
      have ih := forL_bad (X := X) I (ds := ds) (i := i + 1) (fun d hd => hb d (List.mem_cons_of_mem _ hd)) h2
      rw [forL_nx (s1 := (s.set j (.va (.int (i : Nat)))).set k (.va d)) rfl h1]
      exact ih
    | false =>
      rw [if_neg (by decide)]
      obtain ⟨s', h1⟩ := g.2 hd
      exact ⟨s', by rw [forL_er (s1 := (s.set j (.va (.int (i : Nat)))).set k (.va d)) rfl h1]⟩
def cutRs {α : Type} (r : Option α) (f : α → Xr) : Rs :=
  match r with
  | none => .ok (.d .none)
  | some x => .er (f x)
theorem oNe_ii {m n : Int} : oNe (.int m) (.int n) = some (!decide (m = n)) := rfl
theorem oEq_ii {m n : Int} : oEq (.int m) (.int n) = some (decide (m = n)) := rfl
theorem oNe_ss {m n : Str} : oNe (.str m) (.str n) = some (!decide (m = n)) := rfl
theorem oEq_ss {m n : Str} : oEq (.str m) (.str n) = some (decide (m = n)) := rfl
theorem check_plan_list {ds : List PyData} (h : ∀ d ∈ ds, Tame d) : d_check_plan [.list ds] = if 12 < ds.length then .er (ePlan .none) else cutRs (firstBad (pairB ds.length) 0 ds) fun n => ePlan (.int (n : Nat)) := by
  unfold d_check_plan b_check_plan
  by_cases hl : 12 < ds.length
  · have e : decide ((12 : Int) < (ds.length : Int)) = true := decide_eq_true (by omega)
    rw [if_pos hl]
    walk_at "ev*"
    rfl
  · have e : decide ((12 : Int) < (ds.length : Int)) = false := decide_eq_false (by omega)
    rw [if_neg hl]
    have hz : ∀ d : PyData, firstBad (pairB ds.length) 0 ds = firstBad (fun d => pairB ds.length d) 0 ds := fun _ => rfl
    have key := forL_bad (ok := fun d => pairB ds.length d) (X := ePlan) (j := 1) (k := 2) (b := sIf (DI.tNot (DI.tTru (hE (eCall d_is_pair_of_entries (aC (eVar 2) (aC (eLk oLen (hVar 0)) (aN))))))) (sRaise "InvalidPlan" "place" (eVar 1)) (sNil)) (ds := ds) (i := 0) (s := [.va (.list ds), .no, .no])
      (fun s => ∃ a b, s = [.va (.list ds), a, b]) ?_ ⟨_, _, rfl⟩
    · clear hz
      revert key
      simp only [Nat.zero_add]
      cases firstBad (fun d => pairB ds.length d) 0 ds with
      | none =>
        rintro ⟨s', h1, h2⟩
        rw [← enumD_eq] at h1
        walk_at "ev*"
        rfl
      | some n =>
        rintro ⟨s', h1⟩
        rw [← enumD_eq] at h1
        walk_at "ev*"
        rfl
    · rintro d hd s i ⟨a, b, rfl⟩
      have h1 := is_pair (k := (ds.length : Int)) (h d hd)
      refine ⟨fun q => ?_, fun q => ?_⟩
      · rw [q] at h1
        refine ⟨?_, _, _, rfl⟩
        walk_at "ev*"
      · rw [q] at h1
        refine ⟨[.va (.list ds), .va (.int (i : Nat)), .va d], ?_⟩
        walk_at "ev*"
        rfl
theorem check_plan_no {d : PyData} (h : noDs d) (hl : ∀ ds, d ≠ .list ds) : d_check_plan [d] = .er (ePlan .none) := by
  cases d with
  | list ds => exact absurd rfl (hl ds)
  | dict l =>
    cases l with
    | nil => rfl
    | cons a l =>
      obtain ⟨k, v⟩ := a
      cases k with
      | str x => exact absurd rfl (h x v l)
      | _ => rfl
  | _ => rfl
theorem check_values_no {d : PyData} (h : noDs d) (hl : ∀ ds, d ≠ .list ds) : d_check_values [d] = .er (eVals .none) := by
  cases d with
  | list ds => exact absurd rfl (hl ds)
  | dict l =>
    cases l with
    | nil => rfl
    | cons a l =>
      obtain ⟨k, v⟩ := a
      cases k with
      | str x => exact absurd rfl (h x v l)
      | _ => rfl
  | _ => rfl
theorem check_values_list {ds : List PyData} (h : ∀ d ∈ ds, noDs d) : d_check_values [.list ds] = if 60 < ds.length then .er (eVals .none) else cutRs (firstBad isW 0 ds) fun n => eVals (.int (n : Nat)) := by
  unfold d_check_values b_check_values
  by_cases hl : 60 < ds.length
  · have e : decide ((60 : Int) < (ds.length : Int)) = true := decide_eq_true (by omega)
    rw [if_pos hl]
    walk_at "ev*"
    rfl
  · have e : decide ((60 : Int) < (ds.length : Int)) = false := decide_eq_false (by omega)
    rw [if_neg hl]
    have key := forL_bad (ok := isW) (X := eVals) (j := 1) (k := 2) (b := sIf (DI.tNot (DI.tTru (hE (eCall d_is_whole (aC (eVar 2) (aN)))))) (sRaise "InvalidValues" "index" (eVar 1)) (sNil)) (ds := ds) (i := 0) (s := [.va (.list ds), .no, .no])
      (fun s => ∃ a b, s = [.va (.list ds), a, b]) ?_ ⟨_, _, rfl⟩
    · revert key
      simp only [Nat.zero_add]
      cases firstBad isW 0 ds with
      | none =>
        rintro ⟨s', h1, h2⟩
        rw [← enumD_eq] at h1
        walk_at "ev*"
        rfl
      | some n =>
        rintro ⟨s', h1⟩
        rw [← enumD_eq] at h1
        walk_at "ev*"
        rfl
    · rintro d hd s i ⟨a, b, rfl⟩
      have h1 := is_whole (h d hd)
      refine ⟨fun q => ?_, fun q => ?_⟩
      · rw [q] at h1
        refine ⟨?_, _, _, rfl⟩
        walk_at "ev*"
      · rw [q] at h1
        refine ⟨[.va (.list ds), .va (.int (i : Nat)), .va d], ?_⟩
        walk_at "ev*"
        rfl
theorem check_place {d : PyData} {ds : List PyData} (h : noDs d) : d_check_place [d, .list ds] = if fromB (ds.length - 1) d then .ok (.d .none) else .er (ePlace d) := by
  have h1 := is_from (m := (ds.length : Int) - 1) h
  unfold d_check_place b_check_place
  cases g : fromB ((ds.length : Int) - 1) d <;> rw [g] at h1 <;> walk_at "ev*" <;> simp [ePlace]
theorem check_passes {d : PyData} (h : noDs d) : d_check_passes [d] = if fromB 60 d then .ok (.d .none) else .er (ePasses d) := by
  have h1 := is_from (m := 60) h
  unfold d_check_passes b_check_passes
  cases g : fromB 60 d <;> rw [g] at h1 <;> walk_at "ev*" <;> simp [ePasses]
/-! good plans, good lists -/
theorem tame_encT {t : Option Nat × Option Nat} : Tame (encT t) := ⟨noDs_tuple, fun a b e => by cases e; exact ⟨noDs_encE, noDs_encE⟩⟩
theorem entB_ok {pl : Plan} {e : Option Nat} (h : okE pl e) : entB pl.length (encE e) = true := by
  cases e with
  | none => rfl
  | some n =>
    have := h n rfl
    show (decide ((0 : Int) ≤ (n : Int)) && decide ((n : Int) ≤ (pl.length : Int) - 1)) = true
    rw [decide_eq_true (by omega), decide_eq_true (by omega)]
    rfl
theorem check_plan_ok {pl : Plan} (ok : OkP pl) : d_check_plan [encP pl] = .ok (.d .none) := by
  rw [check_plan_list (fun d hd => by
    obtain ⟨t, _, rfl⟩ := List.mem_map.mp hd
    exact tame_encT), if_neg (by rw [encL_len]; have := ok.len; omega), firstBad_ok fun d hd => by
      obtain ⟨t, ht, rfl⟩ := List.mem_map.mp hd
      rw [encL_len]
      obtain ⟨h1, h2⟩ := ok.ent t ht
      show (entB _ _ && entB _ _) = true
      rw [entB_ok h1, entB_ok h2]
      rfl]
  rfl
theorem check_values_ok {ns : List Int} (h : ns.length ≤ 60) : d_check_values [intsD ns] = .ok (.d .none) := by
  rw [check_values_list (fun d hd => by
    obtain ⟨t, _, rfl⟩ := List.mem_map.mp hd
    exact noDs_int), if_neg (by rw [intsL_len]; omega), firstBad_ok fun d hd => by
      obtain ⟨t, _, rfl⟩ := List.mem_map.mp hd
      rfl]
  rfl
theorem first_entry {pl : Plan} : d_first_entry [encP pl] = .ok (.d (encE (fst0 pl))) := by
  cases pl <;> rfl
/-! ### small data -/
structure Ds (w k : Nat) (d : PyData) : Prop where
  lay : d.canLay0 = true
  dep : d.depth ≤ k
  wt : d.weight ≤ w
  sh : d.showable = true
  ls : d.leavesShort 30 = true
structure DsA (w k : Nat) (ds : List PyData) : Prop where
  lay : PyData.canLayAll0 ds = true
  dep : PyData.depthAll ds ≤ k
  wt : PyData.weightAll ds ≤ w
  sh : PyData.showableAll ds = true
  ls : PyData.leavesShortAll 30 ds = true
theorem Ds.up {w k w' k' : Nat} {d : PyData} (h : Ds w k d) (hw : w ≤ w') (hk : k ≤ k') : Ds w' k' d := ⟨h.lay, Nat.le_trans h.dep hk, Nat.le_trans h.wt hw, h.sh, h.ls⟩
theorem DsA.up {w k w' k' : Nat} {d : List PyData} (h : DsA w k d) (hw : w ≤ w') (hk : k ≤ k') : DsA w' k' d := ⟨h.lay, Nat.le_trans h.dep hk, Nat.le_trans h.wt hw, h.sh, h.ls⟩
theorem Ds.nil {k : Nat} : DsA 0 k [] := ⟨rfl, Nat.zero_le _, Nat.le_refl _, rfl, rfl⟩
theorem Ds.cons {w k v : Nat} {d : PyData} {ds : List PyData} (h : Ds w k d) (h2 : DsA v k ds) : DsA (w + 1 + v) k (d :: ds) := by
  refine ⟨?_, ?_, ?_, ?_, ?_⟩
  · simp only [PyData.canLayAll0, h.lay, h2.lay, Bool.and_self]
  · simp only [PyData.depthAll]
    exact Nat.max_le.mpr ⟨h.dep, h2.dep⟩
  · simp only [PyData.weightAll]
    have := h.wt
    have := h2.wt
    omega
  · simp only [PyData.showableAll, h.sh, h2.sh, Bool.and_self]
  · simp only [PyData.leavesShortAll, h.ls, h2.ls, Bool.and_self]
theorem Ds.list {w k : Nat} {ds : List PyData} (h : DsA w k ds) : Ds w (k + 1) (.list ds) := ⟨by simpa only [PyData.canLay0] using h.lay, by simp only [PyData.depth]; exact Nat.succ_le_succ h.dep, by simpa only [PyData.weight] using h.wt, by simpa only [PyData.showable] using h.sh, by simpa only [PyData.leavesShort] using h.ls⟩
theorem Ds.tuple {w k : Nat} {ds : List PyData} (h : DsA w k ds) : Ds w (k + 1) (.tuple ds) := ⟨by simpa only [PyData.canLay0] using h.lay, by simp only [PyData.depth]; exact Nat.succ_le_succ h.dep, by simpa only [PyData.weight] using h.wt, by simpa only [PyData.showable] using h.sh, by simpa only [PyData.leavesShort] using h.ls⟩
theorem Ds.all {w k : Nat} : ∀ {ds : List PyData}, (∀ d ∈ ds, Ds w k d) → DsA ((w + 1) * ds.length) k ds
  | [], _ => Ds.nil
  | d :: ds, h => by
    have q := Ds.cons (h d (List.mem_cons_self ..)) (Ds.all fun x hx => h x (List.mem_cons_of_mem _ hx))
    have e : (w + 1) * (d :: ds).length = w + 1 + (w + 1) * ds.length := by
      rw [List.length_cons, Nat.mul_succ, Nat.add_comm]
    rw [e]
    exact q
theorem Ds.none {w k : Nat} : Ds w k .none := ⟨rfl, Nat.zero_le _, Nat.zero_le _, rfl, rfl⟩
theorem Ds.bool {w k : Nat} {b : Bool} : Ds w k (.bool b) := ⟨rfl, Nat.zero_le _, Nat.zero_le _, rfl, rfl⟩
theorem log2_lt {n : Int} {k : Nat} (h : n.natAbs < 2 ^ k) (hk : 0 < k) : n.natAbs.log2 < k := by
  by_cases h0 : n.natAbs = 0
  · rw [h0]
    exact hk
  · exact (Nat.log2_lt h0).mpr h
theorem Ds.int {k : Nat} {n : Int} (h : n.natAbs < 10 ^ 29) : Ds 120 k (.int n) := by
  have h2 : n.natAbs < 2 ^ 100 := by omega
  have h3 := log2_lt h2 (by decide)
  refine ⟨rfl, Nat.zero_le _, ?_, ?_, ?_⟩
  · show (if n == 0 then 0 else n.natAbs.log2 + 1) ≤ 120
    split <;> omega
  · simp only [PyData.showable, decide_eq_true_eq]
    omega
  · simp only [PyData.leavesShort, decide_eq_true_eq]
    have e := int_text_length_le10 (k := 29) (by decide) h
    show (Str.ofString (toString n)).length ≤ 30
    rw [PySem.ofString_length]
    exact e
theorem Ds.shaped {w k : Nat} {d : PyData} (h : Ds w k d) (hk : k ≤ 64) : SeqAt.shaped d = true := by
  unfold SeqAt.shaped
  rw [h.lay, decide_eq_true (Nat.le_trans h.dep hk)]
  rfl
theorem Ds.rOk {w k : Nat} {d : PyData} (h : Ds w k d) (hk : k ≤ 60) (hw : w ≤ 200000) (hd : isDisplay d = true) : DI.rOk d = true := by
  have q := PyData.shown_le 30 (by decide) d h.ls
  have := h.wt
  have e : sizeLine = 16777216 := rfl
  unfold DI.rOk
  rw [h.sh, PyData.hasDict_of_canLay d h.lay, decide_eq_true (Nat.le_trans h.dep hk), hd, decide_eq_true (by rw [e]; omega)]
  rfl
theorem Ds.repr {w k : Nat} {d : PyData} (h : Ds w k d) (hk : k ≤ 60) (hw : w ≤ 200000) (hd : isDisplay d = true) : oRepr d = some (.d (.str d.shown)) := by
  unfold oRepr gI
  rw [h.rOk hk hw hd]
  rfl
def sml (ns : List Int) : Prop := ∀ n ∈ ns, n.natAbs < 10 ^ 29
theorem ds_ints {ns : List Int} (h : sml ns) (hl : ns.length ≤ 60) : Ds 8000 1 (intsD ns) := by
  have q := Ds.all (w := 120) (k := 0) (ds := ns.map PyData.int) fun d hd => by
    obtain ⟨n, hn, rfl⟩ := List.mem_map.mp hd
    exact Ds.int (h n hn)
  rw [List.length_map] at q
  exact (Ds.list q).up (by omega) (Nat.le_refl _)
theorem ds_entry {pl : Plan} {e : Option Nat} {k : Nat} (ok : OkP pl) (h : okE pl e) : Ds 120 k (encE e) := by
  cases e with
  | none => exact Ds.none
  | some n =>
    have := h n rfl
    have := ok.len
    exact Ds.int (by omega)
theorem ds_plan {pl : Plan} (ok : OkP pl) : Ds 4000 2 (encP pl) := by
  have q := Ds.all (w := 300) (k := 1) (ds := pl.map encT) fun d hd => by
    obtain ⟨t, ht, rfl⟩ := List.mem_map.mp hd
    obtain ⟨h1, h2⟩ := ok.ent t ht
    exact (Ds.tuple (Ds.cons (ds_entry ok h1) (Ds.cons (ds_entry ok h2) Ds.nil))).up (by decide) (Nat.le_refl _)
  rw [List.length_map] at q
  have := ok.len
  exact (Ds.list q).up (by omega) (Nat.le_refl _)
theorem eqvAll_ints : ∀ ns ms : List Int, PyData.eqvAll (intsL ns) (intsL ms) = decide (ns = ms)
  | [], [] => rfl
  | [], _ :: _ => rfl
  | _ :: _, [] => rfl
  | a :: r, b :: t => by
    have ih := eqvAll_ints r t
    unfold intsL at ih ⊢
    simp only [List.map_cons, PyData.eqvAll, PyData.eqv, ih]
    by_cases h : a = b <;> by_cases h' : r = t <;> simp [h, h']
theorem eqv_ints (ns ms : List Int) : PyData.eqv (intsD ns) (intsD ms) = decide (ns = ms) := by
  simp only [PyData.eqv]
  exact eqvAll_ints ns ms
theorem oEq_list {a b : List PyData} {w k w' k' : Nat} (h : Ds w k (.list a)) (hk : k ≤ 64) (h2 : Ds w' k' (.list b)) (hk2 : k' ≤ 64) : oEq (.list a) (.list b) = some (PyData.eqv (.list a) (.list b)) := by
  show oEqD _ _ = _
  unfold oEqD gI
  rw [if_pos ⟨h.shaped hk, h2.shaped hk2⟩]
theorem oEq_ints {ns ms : List Int} (h : sml ns) (h2 : sml ms) (l1 : ns.length ≤ 60) (l2 : ms.length ≤ 60) : oEq (intsD ns) (intsD ms) = some (decide (ns = ms)) := by
  rw [oEq_list (ds_ints h l1) (by decide) (ds_ints h2 l2) (by decide), eqv_ints]
theorem oNe_ints {ns ms : List Int} (h : sml ns) (h2 : sml ms) (l1 : ns.length ≤ 60) (l2 : ms.length ≤ 60) : oNe (intsD ns) (intsD ms) = some (!decide (ns = ms)) := by
  unfold oNe
  rw [oEq_ints h h2 l1 l2]
  rfl
theorem oEq_nil {a : List PyData} {w k : Nat} (h : Ds w k (.list a)) (hk : k ≤ 64) : oEq (.list a) (.list []) = some a.isEmpty := by
  rw [oEq_list h hk (Ds.list (Ds.nil (k := 0))) (by decide)]
  cases a <;> simp [PyData.eqv, PyData.eqvAll]
theorem oNe_nil {a : List PyData} {w k : Nat} (h : Ds w k (.list a)) (hk : k ≤ 64) : oNe (.list a) (.list []) = some !a.isEmpty := by
  unfold oNe
  rw [oEq_nil h hk]
  rfl
/-! ### what is drawn -/
/-- at most n times asked -/
def DrOk (n : Nat) (ls : List PyData) : Prop := ∃ (c : Int) (k : Nat) (b : Bool), ls = [.int c, .int (k : Int), .bool b] ∧ 0 ≤ c ∧ c < ((10 ^ 60) ^ 60) ^ 4 ∧ k ≤ n
theorem DrOk.up {m n : Nat} {ls : List PyData} (h : DrOk m ls) (l : m ≤ n) : DrOk n ls := by
  obtain ⟨c, k, b, e, h1, h2, h3⟩ := h
  exact ⟨c, k, b, e, h1, h2, by omega⟩
end DM
namespace DM
open PySem PyProof.Rows DL LamX DI DC
local macro_rules | `(tactic| walk_at "ev") => `(tactic| simp only [runD, runM, startC, startCM, sSeq, sIf, sRet, sRetV, sSet, sSetL, sExpr, sRaise, sFor, sNil, sTwo, sStar, sPar, sPut, sApp, sAug, sPass, sCont, sBrk, sWhile, sQ, q, Re.q, Re.k, Re.kd, Re.da, Re.bd, rO, eK, eVar, hVar, hDisp, hNames, hE, eOp, eUn, eLk, cOp, cOpH, cOpV, cCh, cIsN, cNotN, vN, isN_n, isN_i, isN_b, isN_s, isN_l, isN_t, isN_d, List.isEmpty_cons, List.isEmpty_nil, eC, DI.tTru, truD, DI.tNot, DI.tAnd, DI.tOr, eAnd, eOr, eNot, eIf, aN, aC, eLst, eTup, eJoin, eDict0, eCall, rC, eSl, oS, oN, oCut, iE, iRg_app, DI.iEnum, vC, uName, uTwo, oIsi, isiD, oLen, oLt, oLe, oGt, oGe, oAdd_ii, and_self, and_true, true_and, Int.toNat_natCast, decide_true, decide_false, Int.reduceAdd, Int.reduceSub, Bool.false_or, Bool.true_or, Bool.or_true, oSub, oInt, oList, eL, eIxV, oIxL, eIx_app, tT, eLRg, eMaxD, sWp, eCallM, eCallK, List.map_cons, List.map_nil, List.cons_append, List.nil_append, List.length_cons, List.length_nil, Nat.reduceAdd, Nat.reduceSub, List.reduceReplicate, set_z, set_s, get_z, get_s, ite_t, ite_f, if_true, if_false, reduceIte, Option.map_some, Option.map_none, Bool.not_true, Bool.not_false, Bool.false_eq_true, wp_eq, wpA_nil, wpA_cons, List.contains_cons, List.contains_nil, Bool.or_false, Nat.reduceBEq, Int.reduceNeg, Int.cast_ofNat_Int, atI_0, atI_1, atI_2, ix3_0, ix3_1, encL_len, intsL_len, natsL_len, List.length_map])
local macro_rules | `(tactic| walk_at "ev*") => `(tactic| simp only [runD, runM, startC, startCM, sSeq, sIf, sRet, sRetV, sSet, sSetL, sExpr, sRaise, sFor, sNil, sTwo, sStar, sPar, sPut, sApp, sAug, sPass, sCont, sBrk, sWhile, sQ, q, Re.q, Re.k, Re.kd, Re.da, Re.bd, rO, eK, eVar, hVar, hDisp, hNames, hE, eOp, eUn, eLk, cOp, cOpH, cOpV, cCh, cIsN, cNotN, vN, isN_n, isN_i, isN_b, isN_s, isN_l, isN_t, isN_d, List.isEmpty_cons, List.isEmpty_nil, eC, DI.tTru, truD, DI.tNot, DI.tAnd, DI.tOr, eAnd, eOr, eNot, eIf, aN, aC, eLst, eTup, eJoin, eDict0, eCall, rC, eSl, oS, oN, oCut, iE, iRg_app, DI.iEnum, vC, uName, uTwo, oIsi, isiD, oLen, oLt, oLe, oGt, oGe, oAdd_ii, and_self, and_true, true_and, Int.toNat_natCast, decide_true, decide_false, Int.reduceAdd, Int.reduceSub, Bool.false_or, Bool.true_or, Bool.or_true, oSub, oInt, oList, eL, eIxV, oIxL, eIx_app, tT, eLRg, eMaxD, sWp, eCallM, eCallK, List.map_cons, List.map_nil, List.cons_append, List.nil_append, List.length_cons, List.length_nil, Nat.reduceAdd, Nat.reduceSub, List.reduceReplicate, set_z, set_s, get_z, get_s, ite_t, ite_f, if_true, if_false, reduceIte, Option.map_some, Option.map_none, Bool.not_true, Bool.not_false, Bool.false_eq_true, wp_eq, wpA_nil, wpA_cons, List.contains_cons, List.contains_nil, Bool.or_false, Nat.reduceBEq, Int.reduceNeg, Int.cast_ofNat_Int, atI_0, atI_1, atI_2, ix3_0, ix3_1, encL_len, intsL_len, natsL_len, List.length_map, *])
local macro_rules | `(tactic| walk_at "ev st") => `(tactic| (apply sq_nx; focus (walk_at "ev*"; exact rfl)))
local macro_rules | `(tactic| walk_at "ev end") => `(tactic| (walk_at "ev*"; try exact rfl))
theorem oMod_i {m n : Int} (h : 0 < n) : oMod (.int m) (.int n) = some (.d (.int (m % n))) := by
  show gI _ _ = _
  unfold gI
  rw [if_pos h]
theorem oDiv_i {m n : Int} (h : 0 < n) (h2 : n.natAbs < 2 ^ 200) : oDiv (.int m) (.int n) = some (.d (.int (m / n))) := by
  show gI _ _ = _
  unfold gI
  rw [if_pos ⟨h, Nat.lt_trans (log2_lt h2 (by decide)) (by decide)⟩]
theorem oMul_i {m n : Int} (h1 : m.natAbs < 2 ^ 200) (h2 : n.natAbs < 2 ^ 200) : oMul (.int m) (.int n) = some (.d (.int (m * n))) := by
  have a := log2_lt h1 (by decide)
  have b := log2_lt h2 (by decide)
  show gI _ _ = _
  unfold gI
  rw [if_pos (by omega)]
theorem oPow_n (m : Int) (k : Nat) (h : (Builtin.Int.intBits m : Int) * (k : Int) ≤ 2 ^ 27) : oPow (.int m) (.int (k : Int)) = some (.d (.int (m ^ k))) := by
  show gI _ _ = _
  unfold gI
  rw [if_pos ⟨by omega, h⟩]
  rfl
theorem pow6 : oPow (.int 10) (.int 6) = some (.d (.int 1000000)) := oPow_n 10 6 (by decide +kernel)
theorem pow18 : oPow (.int 10) (.int 18) = some (.d (.int (10 ^ 18))) := oPow_n 10 18 (by decide +kernel)
theorem draws_ok (c : Int) : ∃ ls, d__law_draws [.int c] = .ok (.l ls) ∧ DrOk 0 ls := by
  have e1 : oPow (.int 10) (.int 60) = some (.d (.int (10 ^ 60))) := oPow_n 10 60 (by decide +kernel)
  have e2 : oPow (.int (10 ^ 60)) (.int 60) = some (.d (.int ((10 ^ 60) ^ 60))) := oPow_n (10 ^ 60) 60 (by decide +kernel)
  have e3 : oPow (.int ((10 ^ 60) ^ 60)) (.int 4) = some (.d (.int (((10 ^ 60) ^ 60) ^ 4))) := oPow_n ((10 ^ 60) ^ 60) 4 (by decide +kernel)
  have e4 := pow18
  have p : (0 : Int) < ((10 ^ 60) ^ 60) ^ 4 := by decide +kernel
  have e5 := oMod_i (m := c) p
  generalize hM : (((10 ^ 60) ^ 60) ^ 4 : Int) = M at e3 e5 p
  generalize hM2 : ((10 ^ 60) ^ 60 : Int) = M2 at e2 e3
  generalize hM3 : (10 ^ 60 : Int) = M3 at e1 e2
  generalize hM4 : (10 ^ 18 : Int) = M4 at e4
  refine ⟨[.int (c % M), .int 0, .bool (decide (M4 ≤ c))], ?_, c % M, 0, _, rfl, ?_, ?_, Nat.le_refl _⟩
  · unfold d__law_draws b__law_draws
    walk_at "ev*"
  · exact Int.emod_nonneg _ (by omega)
  · rw [hM]
    exact Int.emod_lt_of_pos _ p
theorem natAbs_lt {n : Int} {k : Nat} (h1 : -(2 : Int) ^ k < n) (h2 : n < (2 : Int) ^ k) : n.natAbs < 2 ^ k := by
  have e : ((2 ^ k : Nat) : Int) = (2 : Int) ^ k := by norm_cast
  omega
theorem next_ok {n : Nat} {ls : List PyData} (h : DrOk n ls) (hn : n ≤ 1000000 := by omega) : ∃ v ls', d__law_next ls [] = .ok (.d (.int v)) ls' ∧ DrOk (n + 1) ls' ∧ 0 ≤ v ∧ v < 2147483648 := by
  obtain ⟨c, k, b, rfl, h1, h2, h3⟩ := h
  have k1 : ((k : Int) + 1) = ((k + 1 : Nat) : Int) := by omega
  have e6 := pow6
  cases b with
  | true =>
    have e1 := oMod_i (m := c) (n := 1000000) (by decide)
    have e2 := oDiv_i (m := c) (n := 1000000) (by decide) (by decide)
    refine ⟨c % 1000000, [.int (c / 1000000), .int ((k + 1 : Nat) : Int), .bool true], ?_, ⟨_, _, _, rfl, by omega, ?_, by omega⟩, by omega, by omega⟩
    · unfold d__law_next b__law_next
      walk_at "ev*"
    · refine Int.lt_of_le_of_lt ?_ h2
      omega
  | false =>
    clear k1
    obtain ⟨K, eK⟩ : ∃ K : Int, (k : Int) + 1 = K := ⟨_, rfl⟩
    have hK : 0 ≤ K ∧ K ≤ 1000001 := ⟨by omega, by omega⟩
    have hKK : 0 ≤ K * K ∧ K * K ≤ 1000001 * 1000001 := ⟨Int.mul_nonneg hK.1 hK.1, Int.mul_le_mul hK.2 hK.2 hK.1 (by omega)⟩
    obtain ⟨A, eA⟩ : ∃ A : Int, c % 1000003 + K * K * 7919 + K = A := ⟨_, rfl⟩
    have hA : 0 ≤ A ∧ A < 10 ^ 17 := ⟨by omega, by omega⟩
    obtain ⟨B, eB⟩ : ∃ B : Int, (A * 48271) % 2147483629 = B := ⟨_, rfl⟩
    have hB : 0 ≤ B ∧ B < 2147483629 := ⟨by omega, by omega⟩
    obtain ⟨D, eD⟩ : ∃ D : Int, (B * B) % 2147483587 = D := ⟨_, rfl⟩
    have hD : 0 ≤ D ∧ D < 2147483587 := ⟨by rw [← eD]; exact Int.emod_nonneg _ (by decide), by rw [← eD]; exact Int.emod_lt_of_pos _ (by decide)⟩
    have m1 := oMod_i (m := c) (n := 1000003) (by decide)
    have m2 := oMul_i (m := K) (n := K) (natAbs_lt (by omega) (by omega)) (natAbs_lt (by omega) (by omega))
    have m3 := oMul_i (m := K * K) (n := 7919) (natAbs_lt (by omega) (by omega)) (by decide)
    have m4 := oMul_i (m := A) (n := 48271) (natAbs_lt (by omega) (by omega)) (by decide)
    have m5 := oMod_i (m := A * 48271) (n := 2147483629) (by decide)
    have m6 := oMul_i (m := B) (n := B) (natAbs_lt (by omega) (by omega)) (natAbs_lt (by omega) (by omega))
    have m7 := oMod_i (m := B * B) (n := 2147483587) (by decide)
    have m8 := oMul_i (m := D) (n := D + 2) (natAbs_lt (by omega) (by omega)) (natAbs_lt (by omega) (by omega))
    have m9 := oMod_i (m := D * (D + 2)) (n := 2147483579) (by decide)
    have m10 := oDiv_i (m := D * (D + 2) % 2147483579) (n := 7) (by decide) (by decide)
    refine ⟨D * (D + 2) % 2147483579 / 7, [.int c, .int K, .bool false], ?_, ⟨c, k + 1, false, by rw [← eK]; rfl, h1, h2, by omega⟩, ?_, ?_⟩
    · unfold d__law_next b__law_next
      rw [eB] at m5
      rw [eD] at m7
      clear hn h1 h2 h3 hK hKK hA hB hD eB eD e6
      walk_at "ev*"
    · generalize D * (D + 2) = x
      omega
    · generalize D * (D + 2) = x
      omega
end DM
namespace DM
open PySem PyProof.Rows DL LamX DI DC
local macro_rules | `(tactic| walk_at "ev") => `(tactic| simp only [runD, runM, startC, startCM, sSeq, sIf, sRet, sRetV, sSet, sSetL, sExpr, sRaise, sFor, sNil, sTwo, sStar, sPar, sPut, sApp, sAug, sPass, sCont, sBrk, sWhile, sQ, q, Re.q, Re.k, Re.kd, Re.da, Re.bd, rO, eK, eVar, hVar, hDisp, hNames, hE, eOp, eUn, eLk, cOp, cOpH, cOpV, cCh, cIsN, cNotN, vN, isN_n, isN_i, isN_b, isN_s, isN_l, isN_t, isN_d, List.isEmpty_cons, List.isEmpty_nil, eC, DI.tTru, truD, DI.tNot, DI.tAnd, DI.tOr, eAnd, eOr, eNot, eIf, aN, aC, eLst, eTup, eJoin, eDict0, eCall, rC, eSl, oS, oN, oCut, iE, iRg_app, DI.iEnum, vC, uName, uTwo, oIsi, isiD, oLen, oLt, oLe, oGt, oGe, oAdd_ii, and_self, and_true, true_and, Int.toNat_natCast, decide_true, decide_false, Int.reduceAdd, Int.reduceSub, Bool.false_or, Bool.true_or, Bool.or_true, oSub, oInt, oList, eL, eIxV, oIxL, eIx_app, tT, eLRg, eMaxD, sWp, eCallM, eCallK, List.map_cons, List.map_nil, List.cons_append, List.nil_append, List.length_cons, List.length_nil, Nat.reduceAdd, Nat.reduceSub, List.reduceReplicate, set_z, set_s, get_z, get_s, ite_t, ite_f, if_true, if_false, reduceIte, Option.map_some, Option.map_none, Bool.not_true, Bool.not_false, Bool.false_eq_true, wp_eq, wpA_nil, wpA_cons, List.contains_cons, List.contains_nil, Bool.or_false, Nat.reduceBEq, Int.reduceNeg, Int.cast_ofNat_Int, atI_0, atI_1, atI_2, ix3_0, ix3_1, encL_len, intsL_len, natsL_len, List.length_map])
local macro_rules | `(tactic| walk_at "ev*") => `(tactic| simp only [runD, runM, startC, startCM, sSeq, sIf, sRet, sRetV, sSet, sSetL, sExpr, sRaise, sFor, sNil, sTwo, sStar, sPar, sPut, sApp, sAug, sPass, sCont, sBrk, sWhile, sQ, q, Re.q, Re.k, Re.kd, Re.da, Re.bd, rO, eK, eVar, hVar, hDisp, hNames, hE, eOp, eUn, eLk, cOp, cOpH, cOpV, cCh, cIsN, cNotN, vN, isN_n, isN_i, isN_b, isN_s, isN_l, isN_t, isN_d, List.isEmpty_cons, List.isEmpty_nil, eC, DI.tTru, truD, DI.tNot, DI.tAnd, DI.tOr, eAnd, eOr, eNot, eIf, aN, aC, eLst, eTup, eJoin, eDict0, eCall, rC, eSl, oS, oN, oCut, iE, iRg_app, DI.iEnum, vC, uName, uTwo, oIsi, isiD, oLen, oLt, oLe, oGt, oGe, oAdd_ii, and_self, and_true, true_and, Int.toNat_natCast, decide_true, decide_false, Int.reduceAdd, Int.reduceSub, Bool.false_or, Bool.true_or, Bool.or_true, oSub, oInt, oList, eL, eIxV, oIxL, eIx_app, tT, eLRg, eMaxD, sWp, eCallM, eCallK, List.map_cons, List.map_nil, List.cons_append, List.nil_append, List.length_cons, List.length_nil, Nat.reduceAdd, Nat.reduceSub, List.reduceReplicate, set_z, set_s, get_z, get_s, ite_t, ite_f, if_true, if_false, reduceIte, Option.map_some, Option.map_none, Bool.not_true, Bool.not_false, Bool.false_eq_true, wp_eq, wpA_nil, wpA_cons, List.contains_cons, List.contains_nil, Bool.or_false, Nat.reduceBEq, Int.reduceNeg, Int.cast_ofNat_Int, atI_0, atI_1, atI_2, ix3_0, ix3_1, encL_len, intsL_len, natsL_len, List.length_map, *])
local macro_rules | `(tactic| walk_at "ev st") => `(tactic| (apply sq_nx; focus (walk_at "ev*"; exact rfl)))
local macro_rules | `(tactic| walk_at "ev end") => `(tactic| (walk_at "ev*"; try exact rfl))
/-! ### passes -/
abbrev kyD (vs : List Int) (p : Nat) : Int := vs.getD p 0
theorem carry_step {r : List PyData → Rs} {P E V A B : PyData} {p : PyData} {k : Int} {s : Bool} {ps : List Nat} {key : Nat → Int} {v1 v2 : Vl} {L1 L2 : List PyData} (hE : isN E = false) (h1 : oIx V p = some (.d (.int k))) (hx : ∀ x ∈ ps, oIx V (.int (x : Nat)) = some (.d (.int (key x)))) (hP : oIx P E = some (.d (.tuple [A, B]))) (hl : ps.length ≤ 10000)
    (r1 : r [P, A, V, natsD (ps.filter fun x => decide (key x < k)), .bool s] = .ok v1) (w1 : VlL v1 L1) (r2 : r [P, B, V, natsD (ps.filter fun x => if s then decide (k < key x) else decide (k ≤ key x)), .bool s] = .ok v2) (w2 : VlL v2 L2) (hL : L1.length + L2.length < 50000) :
    runD 5 14 (b__carry_out r) [P, E, V, .list (p :: natsL ps), .bool s] = .ok (.l (L1 ++ [p] ++ L2)) := by
  have hlen : (natsL ps).length ≤ 10000 := by rw [natsL_len]; exact hl
  have hlen2 : (natsL ps).length ≤ 100000 := by omega
  have c1 : ∀ x y z, lcL [8] (uName 8) (cOp oLt (eIx (eVar 2) (eVar 8)) (eVar 7)) (eVar 8) (natsL ps) [.va P, .va E, .va V, .va (.list (p :: natsL ps)), .va (.bool s), .va p, .va (natsD ps), .va (.int k), .no, x, y, .no, .no, z] = .ok (natsL (ps.filter fun x => decide (key x < k))) [.va P, .va E, .va V, .va (.list (p :: natsL ps)), .va (.bool s), .va p, .va (natsD ps), .va (.int k), .no, x, y, .no, .no, z] := fun x y z => by
    refine lcL_pure (fun (n : Nat) => PyData.int (n : Int)) (fun x => decide (key x < k)) (fun (n : Nat) => PyData.int (n : Int)) fun x hx' => ?_
    have j := hx x hx'
    refine ⟨_, rfl, ?_, fun _ => ⟨_, ?_, .inl rfl⟩, ?_⟩ <;> walk_at "ev*"
  have c2 : ∀ x y z, lcL [8] (uName 8) (cOp oGt (eIx (eVar 2) (eVar 8)) (eVar 7)) (eVar 8) (natsL ps) [.va P, .va E, .va V, .va (.list (p :: natsL ps)), .va (.bool s), .va p, .va (natsD ps), .va (.int k), .no, x, y, .no, .no, z] = .ok (natsL (ps.filter fun x => decide (k < key x))) [.va P, .va E, .va V, .va (.list (p :: natsL ps)), .va (.bool s), .va p, .va (natsD ps), .va (.int k), .no, x, y, .no, .no, z] := fun x y z => by
    refine lcL_pure (fun (n : Nat) => PyData.int (n : Int)) (fun x => decide (k < key x)) (fun (n : Nat) => PyData.int (n : Int)) fun x hx' => ?_
    have j := hx x hx'
    refine ⟨_, rfl, ?_, fun _ => ⟨_, ?_, .inl rfl⟩, ?_⟩ <;> walk_at "ev*"
  have c3 : ∀ x y z, lcL [8] (uName 8) (cOp oGe (eIx (eVar 2) (eVar 8)) (eVar 7)) (eVar 8) (natsL ps) [.va P, .va E, .va V, .va (.list (p :: natsL ps)), .va (.bool s), .va p, .va (natsD ps), .va (.int k), .no, x, y, .no, .no, z] = .ok (natsL (ps.filter fun x => decide (k ≤ key x))) [.va P, .va E, .va V, .va (.list (p :: natsL ps)), .va (.bool s), .va p, .va (natsD ps), .va (.int k), .no, x, y, .no, .no, z] := fun x y z => by
    refine lcL_pure (fun (n : Nat) => PyData.int (n : Int)) (fun x => decide (k ≤ key x)) (fun (n : Nat) => PyData.int (n : Int)) fun x hx' => ?_
    have j := hx x hx'
    refine ⟨_, rfl, ?_, fun _ => ⟨_, ?_, .inl rfl⟩, ?_⟩ <;> walk_at "ev*"
  have g1 : L1.length + 1 ≤ 100000 := by omega
  have g2 : L1.length + 1 + L2.length ≤ 100000 := by omega
  have e1 : eLc 14 [8] (uName 8) (iE (eVar 6)) (cOp oLt (eIx (eVar 2) (eVar 8)) (eVar 7)) (eVar 8) [.va P, .va E, .va V, .va (.list (p :: natsL ps)), .va (.bool s), .va p, .ow (natsL ps), .va (.int k), .no, .no, .no, .no, .no, .no] = .ok (natsL (ps.filter fun x => decide (key x < k))) [.va P, .va E, .va V, .va (.list (p :: natsL ps)), .va (.bool s), .va p, .va (natsD ps), .va (.int k), .no, .no, .no, .no, .no, .no] := eLc_of (its := natsL ps) (s1 := [.va P, .va E, .va V, .va (.list (p :: natsL ps)), .va (.bool s), .va p, .va (natsD ps), .va (.int k), .no, .no, .no, .no, .no, .no]) (by walk_at "ev*") (by
    have := c1 .no .no .no
    walk_at "ev*") rfl hlen2
  have e2 : ∀ x, eLc 14 [8] (uName 8) (iE (eVar 6)) (cOp oGt (eIx (eVar 2) (eVar 8)) (eVar 7)) (eVar 8) [.va P, .va E, .va V, .va (.list (p :: natsL ps)), .va (.bool s), .va p, .va (natsD ps), .va (.int k), .no, x, .no, .no, .no, .no] = .ok (natsL (ps.filter fun x => decide (k < key x))) [.va P, .va E, .va V, .va (.list (p :: natsL ps)), .va (.bool s), .va p, .va (natsD ps), .va (.int k), .no, x, .no, .no, .no, .no] := fun x => eLc_of (its := natsL ps) (s1 := [.va P, .va E, .va V, .va (.list (p :: natsL ps)), .va (.bool s), .va p, .va (natsD ps), .va (.int k), .no, x, .no, .no, .no, .no]) (by walk_at "ev*") (by
    have := c2 x .no .no
    walk_at "ev*") rfl hlen2
  have e3 : ∀ x, eLc 14 [8] (uName 8) (iE (eVar 6)) (cOp oGe (eIx (eVar 2) (eVar 8)) (eVar 7)) (eVar 8) [.va P, .va E, .va V, .va (.list (p :: natsL ps)), .va (.bool s), .va p, .va (natsD ps), .va (.int k), .no, x, .no, .no, .no, .no] = .ok (natsL (ps.filter fun x => decide (k ≤ key x))) [.va P, .va E, .va V, .va (.list (p :: natsL ps)), .va (.bool s), .va p, .va (natsD ps), .va (.int k), .no, x, .no, .no, .no, .no] := fun x => eLc_of (its := natsL ps) (s1 := [.va P, .va E, .va V, .va (.list (p :: natsL ps)), .va (.bool s), .va p, .va (natsD ps), .va (.int k), .no, x, .no, .no, .no, .no]) (by walk_at "ev*") (by
    have := c3 x .no .no
    walk_at "ev*") rfl hlen2
  clear c1 c2 c3 hx
  have gg1 : oAdd (.list L1) (.list [p]) = some (.l (L1 ++ [p])) := by
    show gI _ _ = _
    unfold gI
    rw [if_pos (by rw [List.length_singleton]; exact g1)]
  have gg2 : oAdd (.list (L1 ++ [p])) (.list L2) = some (.l (L1 ++ [p] ++ L2)) := by
    show gI _ _ = _
    unfold gI
    rw [if_pos (by rw [List.length_append, List.length_singleton]; exact g2)]
  unfold b__carry_out
  cases s with
  | true =>
    have e2' := e2 (.ow (natsL (ps.filter fun x => decide (key x < k))))
    simp only [if_true] at r2
    rcases w1 with rfl | rfl <;> rcases w2 with rfl | rfl <;> walk_at "ev*"
  | false =>
    have e3' := e3 (.ow (natsL (ps.filter fun x => decide (key x < k))))
    simp only [Bool.false_eq_true, if_false] at r2
    rcases w1 with rfl | rfl <;> rcases w2 with rfl | rfl <;> walk_at "ev*"
theorem cg_len {α : Type} {key : α → Int} {pl : Plan} {s : Bool} : ∀ {n : Nat} {e : Option Nat} {ps : List α}, (KM.cg key pl s n e ps).length ≤ ps.length
  | 0, e, ps => by simp [KM.cg]
  | n + 1, none, ps => by simp [KM.cg]
  | n + 1, some q, [] => by simp [KM.cg]
  | n + 1, some q, p :: ps => by
    have h1 := cg_len (key := key) (pl := pl) (s := s) (n := n) (e := (KM.atP pl q).1) (ps := ps.filter fun x => decide (key x < key p))
    have h2 := cg_len (key := key) (pl := pl) (s := s) (n := n) (e := (KM.atP pl q).2) (ps := ps.filter fun x => if s then decide (key p < key x) else decide (key p ≤ key x))
    have h3 : ∀ l : List α, (l.filter fun x => decide (key x < key p)).length + (l.filter fun x => if s then decide (key p < key x) else decide (key p ≤ key x)).length ≤ l.length := fun l => by
      induction l with
      | nil => simp
      | cons a l ih =>
        by_cases g : key a < key p
        · have g2 : (if s then decide (key p < key a) else decide (key p ≤ key a)) = false := by
            cases s
            · simp; omega
            · simp; omega
          rw [List.filter_cons_of_pos (by simpa using g), List.filter_cons_of_neg (by show ¬ ((if s = true then decide (key p < key a) else decide (key p ≤ key a)) = true); rw [g2]; decide)]
          simp only [List.length_cons]
          omega
        · rw [List.filter_cons_of_neg (by simpa using g)]
          have := List.length_filter_le (fun x => if s then decide (key p < key x) else decide (key p ≤ key x)) [a]
          rw [show a :: l = [a] ++ l from rfl, List.filter_append, List.length_append, List.length_append]
          simp only [List.length_cons, List.length_nil] at this ⊢
          omega
    have h4 := h3 ps
    rw [KM.cg_cons]
    simp only [List.length_append, List.length_cons, List.length_nil]
    omega
theorem carry_ok {pl : Plan} {vs : List Int} {s : Bool} (ok : OkP pl) : ∀ {n : Nat} {e : Option Nat} {ps : List Nat}, okE pl e → (∀ p ∈ ps, p < vs.length) → ps.length ≤ n → ps.length ≤ 10000 →
    ∃ v, d__carry_out (n + 1) [encP pl, encE e, intsD vs, natsD ps, .bool s] = .ok v ∧ VlL v (natsL (KM.cg (kyD vs) pl s n e ps))
  | n, none, ps, _, _, _, _ => ⟨_, rfl, .inr (by simp)⟩
  | n, some q, [], _, _, _, _ => ⟨_, rfl, .inr (by simp [natsL])⟩
  | 0, some q, p :: ps, _, _, h, _ => by simp at h
  | n + 1, some q, p :: ps, he, hp, hn, hm => by
    have hq := he q rfl
    obtain ⟨ok1, ok2⟩ := ok.at hq
    have hpv : p < vs.length := hp p (List.mem_cons_self ..)
    have hl : ps.length ≤ n := by simpa using hn
    have hm2 : ps.length ≤ 10000 := by have := hm; rw [List.length_cons] at this; omega
    have hps : ∀ x ∈ ps, x < vs.length := fun x hx => hp x (List.mem_cons_of_mem _ hx)
    obtain ⟨v1, e1, w1⟩ := carry_ok (s := s) ok (n := n) (ps := ps.filter fun x => decide (kyD vs x < kyD vs p)) ok1 (fun x hx => hps x (List.mem_filter.mp hx).1) (Nat.le_trans (List.length_filter_le _ _) hl) (Nat.le_trans (List.length_filter_le _ _) hm2)
    obtain ⟨v2, e2, w2⟩ := carry_ok (s := s) ok (n := n) (ps := ps.filter fun x => if s then decide (kyD vs p < kyD vs x) else decide (kyD vs p ≤ kyD vs x)) ok2 (fun x hx => hps x (List.mem_filter.mp hx).1) (Nat.le_trans (List.length_filter_le _ _) hl) (Nat.le_trans (List.length_filter_le _ _) hm2)
    rw [KM.cg_cons]
    have l1 := cg_len (key := kyD vs) (pl := pl) (s := s) (n := n) (e := (KM.atP pl q).1) (ps := ps.filter fun x => decide (kyD vs x < kyD vs p))
    have l2 := cg_len (key := kyD vs) (pl := pl) (s := s) (n := n) (e := (KM.atP pl q).2) (ps := ps.filter fun x => if s then decide (kyD vs p < kyD vs x) else decide (kyD vs p ≤ kyD vs x))
    have l3 := List.length_filter_le (fun x => decide (kyD vs x < kyD vs p)) ps
    have l4 := List.length_filter_le (fun x => if s then decide (kyD vs p < kyD vs x) else decide (kyD vs p ≤ kyD vs x)) ps
    refine ⟨_, carry_step (key := kyD vs) (k := kyD vs p) rfl (ix_ints hpv) (fun x hx => ix_ints (hps x hx)) (ix_plan hq) hm2 e1 w1 e2 w2 (by rw [natsL_len, natsL_len]; omega), .inl ?_⟩
    rw [natsL, natsL, natsL, List.map_append, List.map_append]
    rfl
/-- the places, as one pass leaves them -/
def spots (pl : Plan) (vs : List Int) (s : Bool) : List Nat := KM.cg (kyD vs) pl s 63 (fst0 pl) (List.range vs.length)
theorem fst0_ok {pl : Plan} : okE pl (fst0 pl) := fun n h => by
  unfold fst0 at h
  split at h
  · cases h
  · next g =>
    cases h
    exact List.length_pos_iff.mpr g
theorem places_left {pl : Plan} {vs : List Int} {s : Bool} (ok : OkP pl) (hv : vs.length ≤ 60) : ∃ v, d__places_left [encP pl, intsD vs, .bool s] = .ok v ∧ VlL v (natsL (spots pl vs s)) := by
  obtain ⟨v, e, w⟩ := carry_ok (vs := vs) (s := s) ok (n := 63) (e := fst0 pl) (ps := List.range vs.length) fst0_ok (fun p hp => List.mem_range.mp hp) (by rw [List.length_range]; omega) (by rw [List.length_range]; omega)
  refine ⟨v, ?_, w⟩
  have e2 := first_entry (pl := pl)
  have e3 : DL.rgD 0 (vs.length : Int) = natsL (List.range vs.length) := by
    unfold DL.rgD natsL
    rw [Int.sub_zero, Int.toNat_natCast]
    congr 1
    funext i
    rw [Int.zero_add]
  have e4 : (0 : Int) ≤ (vs.length : Int) ∧ (vs.length : Int).natAbs ≤ 100000 := ⟨by omega, by omega⟩
  have e5 : (64 : Nat) = 63 + 1 := rfl
  unfold d__places_left b__places_left
  rw [e5]
  generalize d__carry_out (63 + 1) = r at e ⊢
  clear e5 ok hv
  rcases w with rfl | rfl <;> walk_at "ev*"
/-- one pass -/
def pass (pl : Plan) (vs : List Int) : List Int := (spots pl vs false).map fun p => vs.getD p 0
theorem spots_lt {pl : Plan} {vs : List Int} {s : Bool} : ∀ p ∈ spots pl vs s, p < vs.length := fun p hp => List.mem_range.mp (KM.cg_mem _ _ _ hp)
theorem spots_len {pl : Plan} {vs : List Int} {s : Bool} : (spots pl vs s).length ≤ vs.length := by
  have := cg_len (key := kyD vs) (pl := pl) (s := s) (n := 63) (e := fst0 pl) (ps := List.range vs.length)
  rw [List.length_range] at this
  exact this
theorem pass_len {pl : Plan} {vs : List Int} : (pass pl vs).length ≤ vs.length := by
  unfold pass
  rw [List.length_map]
  exact spots_len
/-- over the values -/
theorem pass_eq {pl : Plan} {vs : List Int} : pass pl vs = KM.cg id pl false 63 (fst0 pl) vs := by
  have e : vs = (List.range vs.length).map fun p => vs.getD p 0 := by
    apply List.ext_getElem
    · simp
    · intro i h1 h2
      simp [List.getD, List.getElem?_eq_getElem h1]
  unfold pass spots
  have k := KM.cg_map (key := id) (pl := pl) (fun p => vs.getD p 0) (s := false) 63 (fst0 pl) (List.range vs.length)
  rw [← e] at k
  exact k.symm
def passes (pl : Plan) : Nat → List Int → List Int
  | 0, vs => vs
  | n + 1, vs => pass pl (passes pl n vs)
theorem passes_len {pl : Plan} {vs : List Int} : ∀ {n : Nat}, (passes pl n vs).length ≤ vs.length
  | 0 => Nat.le_refl _
  | n + 1 => Nat.le_trans pass_len passes_len
theorem natsL_range (n : Nat) : (List.range n).map (fun (i : Nat) => PyData.int (i : Int)) = natsL (List.range n) := rfl
theorem one_pass {pl : Plan} {vs : List Int} {x y : PyData} {c : Ce} (ok : OkP pl) (hv : vs.length ≤ 60) :
    eLc 6 [5] (uName 5) (iE (eCall d__places_left (aC (eVar 0) (aC (eVar 3) (aC (eK (.bool false)) (aN)))))) (tT) (eIx (eVar 3) (eVar 5)) [.va (encP pl), .va x, .va y, .ow (intsL vs), c, .no] = .ok (intsL (pass pl vs)) [.va (encP pl), .va x, .va y, .va (intsD vs), c, .no] := by
  obtain ⟨v, e, w⟩ := places_left (s := false) ok hv
  have hl := spots_len (pl := pl) (vs := vs) (s := false)
  refine eLc_of (its := natsL (spots pl vs false)) (s1 := [.va (encP pl), .va x, .va y, .va (intsD vs), c, .no]) ?_ ?_ rfl (by rw [natsL_len]; omega)
  · clear ok hv hl
    rcases w with rfl | rfl <;> walk_at "ev*"
  · have k : wipeC [5] [.va (encP pl), .va x, .va y, .va (intsD vs), c, .no] = [.va (encP pl), .va x, .va y, .va (intsD vs), c, .no] := by walk_at "ev"
    rw [k]
    have e2 : intsL (pass pl vs) = (spots pl vs false).map fun p => PyData.int (vs.getD p 0) := by
      unfold intsL pass
      rw [List.map_map]
      rfl
    rw [e2]
    refine lcL_pureM (fun (n : Nat) => PyData.int (n : Int)) (fun p => PyData.int (vs.getD p 0)) fun p hp => ?_
    have j := ix_ints (spots_lt p hp)
    clear e2 k
    refine ⟨_, rfl, ?_, ⟨_, ?_, .inl rfl⟩, ?_⟩ <;> walk_at "ev*"
theorem carried {pl : Plan} {vs : List Int} {n : Nat} (ok : OkP pl) (hv : vs.length ≤ 60) (hn : n ≤ 60) : d_carried_out [encP pl, intsD vs, .int (n : Int)] = .ok (.l (intsL (passes pl n vs))) := by
  have e1 := check_plan_ok ok
  have e2 := check_values_ok hv
  have e3 := check_passes (d := .int (n : Int)) noDs_int
  rw [if_pos (fromB_ok (by omega) (by omega))] at e3
  have e4 := rg_ok (n := n) (by omega)
  have F := forL_inv (u := uName 4) (b := sSet 3 (q (eL (eLc 6 [5] (uName 5) (iE (eCall d__places_left (aC (eVar 0) (aC (eVar 3) (aC (eK (.bool false)) (aN)))))) (tT) (eIx (eVar 3) (eVar 5)))))) (its := (List.range n).map fun (i : Nat) => PyData.int (i : Int)) (i := 0) (s := [.va (encP pl), .va (intsD vs), .va (.int (n : Int)), .ow (intsL vs), .no, .no])
    (fun i s => ∃ c, s = [.va (encP pl), .va (intsD vs), .va (.int (n : Int)), .ow (intsL (passes pl i vs)), c, .no]) ⟨_, rfl⟩ (by
      rintro j d s hd ⟨c, rfl⟩
      have k := one_pass (x := intsD vs) (y := .int (n : Int)) (c := .va d) ok (Nat.le_trans (passes_len (pl := pl) (vs := vs) (n := 0 + j)) hv)
      refine ⟨_, [.va (encP pl), .va (intsD vs), .va (.int (n : Int)), .ow (intsL (passes pl (0 + (j + 1)) vs)), .va d, .no], rfl, .inl ?_, _, rfl⟩
      have g : passes pl (0 + (j + 1)) vs = pass pl (passes pl (0 + j) vs) := rfl
      rw [g]
      clear g e1 e2 e3 e4 hd hv hn ok
      walk_at "ev*")
  obtain ⟨s', f1, c, f2⟩ := F
  rw [List.length_map, List.length_range, Nat.zero_add] at f2
  subst f2
  clear ok hv hn
  apply runD_rt (hl := rfl)
  unfold b_carried_out
  walk_at "ev st"
  walk_at "ev st"
  walk_at "ev st"
  walk_at "ev st"
  walk_at "ev st"
  walk_at "ev end"
end DM
/-! Mathematics of texts: numbers, lines, joined and split. -/
namespace MT
open PySem PyProof.Rows DL KT TL PySem.StrLaws
open DM (Plan OkP okE encE encT)
def dash : Str := ⟨#[45]⟩
theorem dash_is : (("-" : String) : Str) = dash := by decide +kernel
def wE : Option Nat → Str
  | none => dash
  | some n => tI (n : Int)
def lnT (t : Option Nat × Option Nat) : Str := wE t.1 ++ (" " : Str) ++ wE t.2
def small (e : Option Nat) : Prop := ∀ n, e = some n → n < 1000
theorem wE_len {e : Option Nat} (h : small e) : (wE e).length ≤ 31 := by
  cases e with
  | none => decide
  | some n =>
    refine tI_len ?_
    have := h n rfl
    have e : ((n : Int)).natAbs = n := rfl
    rw [e]
    exact Nat.lt_of_lt_of_le this (by decide)
theorem okP_small {pl : Plan} (ok : OkP pl) {t : Option Nat × Option Nat} (h : t ∈ pl) : small t.1 ∧ small t.2 := by
  obtain ⟨h1, h2⟩ := ok.ent t h
  have := ok.len
  exact ⟨fun n e => by have := h1 n e; omega, fun n e => by have := h2 n e; omega⟩
theorem app_len (a b : Str) : (a ++ b).length = a.length + b.length := by
  show (a.cps ++ b.cps).size = _
  exact Array.size_append
theorem lnT_len {t : Option Nat × Option Nat} (h1 : small t.1) (h2 : small t.2) : (lnT t).length ≤ 63 := by
  unfold lnT
  rw [app_len, app_len]
  have e1 := wE_len h1
  have e2 := wE_len h2
  have e3 : ((" " : Str)).length = 1 := by decide
  omega
theorem sum_len : ∀ {ws : List Str} {b : Nat}, (∀ x ∈ ws, x.length ≤ b) → (ws.map (·.length)).sum ≤ ws.length * b
  | [], _, _ => by simp
  | x :: ws, b, h => by
    have h1 := h x (List.mem_cons_self ..)
    have h2 := sum_len (ws := ws) (b := b) fun y hy => h y (List.mem_cons_of_mem _ hy)
    rw [List.map_cons, List.sum_cons, List.length_cons, Nat.succ_mul]
    omega
def txP (pl : Plan) : Str := Txt.join "\n" (pl.map lnT)
def rmD : List Nat → List Nat
  | 45 :: r => r
  | l => l
theorem remp_tl (x : Str) : tl (Txt.removeprefix x dash) = rmD (tl x) := by
  rw [removeprefix_eq, subAt_eq]
  cases x with
  | mk a =>
    obtain ⟨l⟩ := a
    cases l with
    | nil => rfl
    | cons c r =>
      by_cases h : c = 45
      · subst h
        have e : (decide (0 + dash.length ≤ (⟨⟨45 :: r⟩⟩ : Str).length) && ((List.drop 0 (⟨⟨45 :: r⟩⟩ : Str).cps.toList).take dash.length == dash.cps.toList)) = true := by
          show (decide (0 + 1 ≤ (45 :: r).length) && (List.take 1 (45 :: r) == [45])) = true
          simp
        rw [if_pos e]
        show List.take ((45 :: r).length - 1) r = r
        simp
      · have e : ¬ (decide (0 + dash.length ≤ (⟨⟨c :: r⟩⟩ : Str).length) && ((List.drop 0 (⟨⟨c :: r⟩⟩ : Str).cps.toList).take dash.length == dash.cps.toList)) = true := by
          show ¬ (decide (0 + 1 ≤ (c :: r).length) && (List.take 1 (c :: r) == [45])) = true
          simp [h]
        rw [if_neg e]
        show c :: r = rmD (c :: r)
        unfold rmD
        split
        · rename_i e2
          cases e2
          exact absurd rfl h
        · rfl
def digB (c : Nat) : Bool := decide (48 ≤ c ∧ c ≤ 57)
theorem digits_mem (c : Nat) : decide (c ∈ (("0123456789" : String) : Str).cps.toList) = digB c := by
  have e : (("0123456789" : String) : Str).cps.toList = [48, 49, 50, 51, 52, 53, 54, 55, 56, 57] := by decide +kernel
  rw [e]
  unfold digB
  apply decide_eq_decide.mpr
  simp only [List.mem_cons, List.not_mem_nil, or_false]
  omega
def isNumL (l : List Nat) : Bool := !(rmD l).isEmpty && (rmD l).all digB && (!decide ((rmD l).head? = some 48) || decide (l = [48]))
theorem rmD_len (l : List Nat) : (rmD l).length ≤ l.length := by
  unfold rmD
  split <;> simp
theorem numL_head : ∀ (n : Nat), 0 < n → (numL n).head? ≠ some 48 := by
  intro n
  induction n using Nat.strongRecOn with
  | ind n ih =>
    intro h e
    by_cases hn : n < 10
    · rw [numL_lt hn] at e
      have := Option.some.inj e
      omega
    · rw [numL_step (by omega)] at e
      have hne := numL_ne (n / 10)
      have h2 := ih (n / 10) (by omega) (by omega)
      cases hl : numL (n / 10) with
      | nil => exact hne hl
      | cons c r =>
        rw [hl] at e h2
        exact h2 e
theorem digB_num (n : Nat) : (numL n).all digB = true := by
  rw [List.all_eq_true]
  intro c hc
  have := numL_digits n c hc
  unfold digB
  exact decide_eq_true this
theorem rmD_num (n : Nat) : rmD (numL n) = numL n := by
  unfold rmD
  split
  · rename_i e
    have := numL_digits n 45 (by rw [e]; exact List.mem_cons_self ..)
    omega
  · rfl
theorem isNum_tI (n : Int) : isNumL (tl (tI n)) = true := by
  cases n with
  | ofNat m =>
    have e : tl (tI (Int.ofNat m)) = numL m := tl_num m
    rw [e]
    unfold isNumL
    rw [rmD_num, digB_num]
    have hne : (numL m).isEmpty = false := by
      cases h : numL m with
      | nil => exact absurd h (numL_ne m)
      | cons c r => rfl
    rw [hne]
    by_cases h : m = 0
    · subst h
      decide +kernel
    · have := numL_head m (by omega)
      rw [decide_eq_false this]
      rfl
  | negSucc m =>
    have e : tl (tI (Int.negSucc m)) = 45 :: numL (m + 1) := tI_neg m
    rw [e]
    unfold isNumL
    have er : rmD (45 :: numL (m + 1)) = numL (m + 1) := rfl
    rw [er, digB_num]
    have hne : (numL (m + 1)).isEmpty = false := by
      cases h : numL (m + 1) with
      | nil => exact absurd h (numL_ne (m + 1))
      | cons c r => rfl
    rw [hne]
    have := numL_head (m + 1) (by omega)
    rw [decide_eq_false this]
    rfl
def numOk (ns : List Int) : Prop := ns.length ≤ 60 ∧ ∀ n ∈ ns, n.natAbs < 10 ^ 30
def txV (ns : List Int) : Str := Txt.join " " (ns.map tI)
theorem joinLen {ns : List Int} (ok : numOk ns) : ((ns.map tI).map (·.length)).sum + (ns.map tI).length * ((" " : String) : Str).length ≤ 5000 := by
  have h1 := sum_len (ws := ns.map tI) (b := 31) fun x hx => by
    obtain ⟨n, hn, rfl⟩ := List.mem_map.mp hx
    exact tI_len (ok.2 n hn)
  have h2 : (ns.map tI).length ≤ 60 := by rw [List.length_map]; exact ok.1
  have h3 : (((" " : String) : Str)).length = 1 := by decide
  have h4 : (ns.map tI).length * 31 ≤ 60 * 31 := Nat.mul_le_mul_right _ h2
  rw [h3]
  omega
theorem nl_is : (("\n" : String) : Str) = ⟨#[10]⟩ := by decide +kernel
theorem joinL_len (S : List Nat) : ∀ ps : List (List Nat), (joinL S ps).length ≤ (ps.map (·.length)).sum + ps.length * S.length
  | [] => by simp [joinL]
  | [p] => by simp [joinL]
  | p :: q :: r => by
    have ih := joinL_len S (q :: r)
    show (p ++ (S ++ joinL S (q :: r))).length ≤ _
    rw [List.length_append, List.length_append, List.map_cons, List.sum_cons, List.length_cons (a := p), Nat.succ_mul]
    omega
theorem joinL_mem {S : List Nat} {c : Nat} : ∀ {ps : List (List Nat)}, c ∈ joinL S ps → c ∈ S ∨ ∃ p ∈ ps, c ∈ p
  | [], h => by cases h
  | [p], h => .inr ⟨p, List.mem_singleton.mpr rfl, h⟩
  | p :: q :: r, h => by
    have h : c ∈ p ++ (S ++ joinL S (q :: r)) := h
    rcases List.mem_append.mp h with h | h
    · exact .inr ⟨p, List.mem_cons_self .., h⟩
    · rcases List.mem_append.mp h with h | h
      · exact .inl h
      · rcases joinL_mem h with h | ⟨u, hu, hc⟩
        · exact .inl h
        · exact .inr ⟨u, List.mem_cons_of_mem _ hu, hc⟩
theorem joinL_pos {S : List Nat} : ∀ {p : List Nat} {ps : List (List Nat)}, p ≠ [] → joinL S (p :: ps) ≠ []
  | p, [], h => h
  | p, q :: r, h => fun e => by
    have e : p ++ (S ++ joinL S (q :: r)) = [] := e
    exact h (List.append_eq_nil_iff.mp e).1
theorem tl_txj (y : Str) (ws : List Str) : tl (Txt.join y ws) = joinL (tl y) (ws.map tl) := by rw [join_eq, tl_join]
theorem blank_tl : tl ((" " : String) : Str) = [32] := by decide +kernel
theorem nl_tl : tl (("\n" : String) : Str) = [10] := by decide +kernel
theorem txj_len (y : Str) (ws : List Str) : (Txt.join y ws).length ≤ (ws.map (·.length)).sum + ws.length * y.length := by
  rw [len_tl, tl_txj]
  refine Nat.le_trans (joinL_len _ _) ?_
  have e : ((ws.map tl).map (·.length)) = ws.map (·.length) := by
    rw [List.map_map]
    exact List.map_congr_left fun x _ => (len_tl x).symm
  rw [e, List.length_map, ← len_tl]
  exact Nat.le_refl _
theorem txV_len {ns : List Int} (ok : numOk ns) : (txV ns).length ≤ 5000 := Nat.le_trans (txj_len _ _) (joinLen ok)
theorem tI_pos (n : Int) : tl (tI n) ≠ [] := by
  cases n with
  | ofNat m => rw [show tl (tI (Int.ofNat m)) = numL m from tl_num m]; exact numL_ne m
  | negSucc m => rw [show tl (tI (Int.negSucc m)) = _ from tI_neg m]; simp
theorem txV_line (ns : List Int) : 10 ∉ tl (txV ns) := by
  unfold txV
  rw [tl_txj, blank_tl]
  intro h
  rcases joinL_mem h with h | ⟨p, hp, hc⟩
  · simp at h
  · obtain ⟨w, hw, rfl⟩ := List.mem_map.mp hp
    obtain ⟨n, hn, rfl⟩ := List.mem_map.mp hw
    exact tI_free (by decide) (by decide) hc
theorem txV_split {ns : List Int} (h : ns ≠ []) : Txt.split (txV ns) " " = ns.map tI :=
  split_join (S := []) blank_tl (by decide +kernel) (fun e => h (List.map_eq_nil_iff.mp e)) fun p hp => by
    obtain ⟨n, hn, rfl⟩ := List.mem_map.mp hp
    exact tI_free (by decide) (by decide)
theorem wE_free {e : Option Nat} {c : Nat} (h1 : c ≠ 45) (h2 : c < 48 ∨ 57 < c) : c ∉ tl (wE e) := by
  cases e with
  | none =>
    show c ∉ [45]
    simpa using h1
  | some n => exact tI_free h1 h2
theorem lnT_join (t : Option Nat × Option Nat) : lnT t = Txt.join " " [wE t.1, wE t.2] := by
  refine ext_tl ?_
  rw [tl_txj, blank_tl]
  unfold lnT
  rw [tl_append, tl_append, blank_tl, List.append_assoc]
  rfl
theorem lnT_split (t : Option Nat × Option Nat) : Txt.split (lnT t) " " = [wE t.1, wE t.2] := by
  rw [lnT_join]
  refine split_join (S := []) blank_tl (by decide +kernel) (by simp) fun p hp => ?_
  rcases List.mem_cons.mp hp with rfl | hp
  · exact wE_free (by decide) (by decide)
  · obtain rfl := List.mem_singleton.mp hp
    exact wE_free (by decide) (by decide)
def entL (n : Nat) : List (Str × Option Int) := ((List.range n).map fun (i : Nat) => (wE (some i), some (i : Int))) ++ [(dash, none)]
def oI (e : Option Nat) : Option Int := e.map fun (n : Nat) => (n : Int)
theorem oD_oI (e : Option Nat) : oD (oI e) = encE e := by cases e <;> rfl
theorem small30 {n : Nat} (h : n < 1000) : ((n : Int)).natAbs < 10 ^ 30 := Nat.lt_of_lt_of_le h (by decide)
theorem find_num (l : List (Str × Option Int)) {k : Nat} (hk : k < 1000) : ∀ (is : List Nat), (∀ i ∈ is, i < 1000) → k ∈ is → ((is.map fun (i : Nat) => (wE (some i), some (i : Int))) ++ l).find? (fun q => decide (q.1 = wE (some k))) = some (wE (some k), some (k : Int))
  | [], _, h => by cases h
  | i :: is, hs, h => by
    rw [List.map_cons, List.cons_append, List.find?_cons]
    by_cases e : i = k
    · subst e
      simp
    · have hne : wE (some i) ≠ wE (some k) := fun z => by
        have := tI_inj (small30 (hs i (List.mem_cons_self ..))) (small30 hk) z
        omega
      rw [decide_eq_false hne]
      rcases List.mem_cons.mp h with h | h
      · exact absurd h.symm e
      · exact find_num l hk is (fun j hj => hs j (List.mem_cons_of_mem _ hj)) h
theorem find_dash : ∀ (is : List Nat), ((is.map fun (i : Nat) => (wE (some i), some (i : Int))) ++ [(dash, none)]).find? (fun q => decide (q.1 = dash)) = some (dash, none)
  | [] => by simp
  | i :: is => by
    rw [List.map_cons, List.cons_append, List.find?_cons]
    have hne : wE (some i) ≠ dash := tI_ne
    rw [decide_eq_false hne]
    exact find_dash is
theorem find_ent {n : Nat} {e : Option Nat} (hn : n ≤ 1000) (h : ∀ k, e = some k → k < n) : (entL n).find? (fun q => decide (q.1 = wE e)) = some (wE e, oI e) := by
  cases e with
  | none => exact find_dash _
  | some k =>
    have := h k rfl
    exact find_num _ (by omega) _ (fun i hi => by have := List.mem_range.mp hi; omega) (List.mem_range.mpr this)
theorem txP_len {pl : Plan} (ok : OkP pl) : (txP pl).length ≤ 5000 := by
  refine Nat.le_trans (txj_len _ _) ?_
  have h1 := sum_len (ws := pl.map lnT) (b := 63) fun x hx => by
    obtain ⟨t, ht, rfl⟩ := List.mem_map.mp hx
    exact lnT_len (okP_small ok ht).1 (okP_small ok ht).2
  have h2 : (pl.map lnT).length ≤ 12 := by rw [List.length_map]; exact ok.len
  have h3 : ((("\n" : String) : Str)).length = 1 := by decide
  have h4 : (pl.map lnT).length * 63 ≤ 12 * 63 := Nat.mul_le_mul_right _ h2
  rw [h3]
  omega
theorem lnT_line (t : Option Nat × Option Nat) : 10 ∉ tl (lnT t) := by
  unfold lnT
  rw [tl_append, tl_append, blank_tl]
  intro h
  rcases List.mem_append.mp h with h | h
  · rcases List.mem_append.mp h with h | h
    · exact wE_free (by decide) (by decide) h
    · simp at h
  · exact wE_free (by decide) (by decide) h
theorem lnT_pos (t : Option Nat × Option Nat) : tl (lnT t) ≠ [] := by
  unfold lnT
  rw [tl_append, tl_append, blank_tl]
  simp
theorem txP_split {pl : Plan} (h : pl ≠ []) : Txt.split (txP pl) "\n" = pl.map lnT :=
  split_join (S := []) nl_tl (by decide +kernel) (fun e => h (List.map_eq_nil_iff.mp e)) fun p hp => by
    obtain ⟨t, ht, rfl⟩ := List.mem_map.mp hp
    exact lnT_line t
def decE : PyData → Option Nat
  | .int n => some n.toNat
  | _ => none
theorem decE_enc (e : Option Nat) : decE (encE e) = e := by cases e <;> rfl
def keyD (d : PyData) : Str := wE (decE d)
def valD (d : PyData) : Option Int := oI (decE d)
theorem ents (n : Nat) : (((List.range n).map fun (i : Nat) => PyData.int (i : Int)).map fun d => (keyD d, valD d)) ++ [(dash, none)] = entL n := by
  rw [List.map_map]
  rfl
theorem keys_nd {n : Nat} (hn : n ≤ 1000) : (((List.range n).map fun (i : Nat) => PyData.int (i : Int)).map keyD).Nodup := by
  rw [List.map_map, List.Nodup, List.pairwise_map]
  refine List.Pairwise.imp_of_mem (fun {a b} ha hb hab => ?_) List.pairwise_lt_range
  intro e
  have h1 := List.mem_range.mp ha
  have h2 := List.mem_range.mp hb
  have := tI_inj (small30 (n := a) (by omega)) (small30 (n := b) (by omega)) e
  omega
theorem keys_dash {n : Nat} : dash ∉ (((List.range n).map fun (i : Nat) => PyData.int (i : Int)).map keyD) := by
  rw [List.map_map]
  intro h
  obtain ⟨i, hi, e⟩ := List.mem_map.mp h
  exact tI_ne e
def low (x : Str) : Prop := ∀ c ∈ tl x, c < 128
theorem low_tI (n : Int) : low (tI n) := by
  have hd : ∀ m, ∀ c ∈ numL m, c < 128 := fun m c hc => by
    have := numL_digits m c hc
    omega
  intro c hc
  cases n with
  | ofNat m =>
    rw [show tl (tI (Int.ofNat m)) = numL m from tl_num m] at hc
    exact hd m c hc
  | negSucc m =>
    rw [show tl (tI (Int.negSucc m)) = 45 :: numL (m + 1) from tI_neg m] at hc
    rcases List.mem_cons.mp hc with rfl | hc
    · decide
    · exact hd _ c hc
theorem low_wE (e : Option Nat) : low (wE e) := by
  cases e with
  | none =>
    intro c hc
    have hc : c ∈ [45] := hc
    rw [List.mem_singleton.mp hc]
    decide
  | some n => exact low_tI n
theorem low_join {y : Str} {ws : List Str} (hy : low y) (h : ∀ x ∈ ws, low x) : low (Txt.join y ws) := by
  intro c hc
  rw [tl_txj] at hc
  rcases joinL_mem hc with hc | ⟨p, hp, hc⟩
  · exact hy c hc
  · obtain ⟨x, hx, rfl⟩ := List.mem_map.mp hp
    exact h x hx c hc
theorem low_blank : low ((" " : String) : Str) := by
  intro c hc
  rw [blank_tl] at hc
  rw [List.mem_singleton.mp hc]
  decide
theorem low_nl : low (("\n" : String) : Str) := by
  intro c hc
  rw [nl_tl] at hc
  rw [List.mem_singleton.mp hc]
  decide
theorem low_lnT (t : Option Nat × Option Nat) : low (lnT t) := by
  rw [lnT_join]
  refine low_join low_blank fun x hx => ?_
  rcases List.mem_cons.mp hx with rfl | hx
  · exact low_wE _
  · rw [List.mem_singleton.mp hx]
    exact low_wE _
theorem low_txP (pl : Plan) : low (txP pl) := low_join low_nl fun x hx => by
  obtain ⟨t, ht, rfl⟩ := List.mem_map.mp hx
  exact low_lnT t
theorem low_txV (ns : List Int) : low (txV ns) := low_join low_blank fun x hx => by
  obtain ⟨t, ht, rfl⟩ := List.mem_map.mp hx
  exact low_tI t
theorem low_ok {x : Str} (h : low x) : PyData.strOk x = true := by
  unfold PyData.strOk
  rw [← Array.all_toList, List.all_eq_true]
  intro c hc
  exact decide_eq_true (Nat.lt_trans (h c hc) (by decide))
theorem shaped_two {x y : Str} (hx : low x) (hy : low y) : SeqAt.shaped (.list [.str x, .str y]) = true := by
  unfold SeqAt.shaped
  have h1 : (PyData.list [.str x, .str y]).canLay0 = true := by
    simp only [PyData.canLay0, PyData.canLayAll0, low_ok hx, low_ok hy, Bool.and_self]
  have h2 : (PyData.list [.str x, .str y]).depth ≤ 64 := by
    simp [PyData.depth, PyData.depthAll]
  rw [h1, decide_eq_true h2]
  rfl
end MT
namespace G60
open PySem PyProof.Rows L2 DL LamX DI DC
variable [TabL] [MP : Mp]
def top (i : Nat) : Stmt := PySem.Challenge.pw_halfquick_k60_plans_and_lists_as_texts.main.body.getD i (.Pass ⟨0, 0, 0, 0⟩)
abbrev sis_whole : Stmt := top 7
abbrev nis_whole : List Str := ["thing"]
theorem cis_whole : FnScope nis_whole ["thing"] (defScope sis_whole) := ⟨rfl, rfl, rfl, by decide +kernel, rfl, by decide +kernel, by decide +kernel⟩
abbrev sis_from_0_to : Stmt := top 8
abbrev nis_from_0_to : List Str := ["thing", "limit"]
theorem cis_from_0_to : FnScope nis_from_0_to ["thing", "limit"] (defScope sis_from_0_to) := ⟨rfl, rfl, rfl, by decide +kernel, rfl, by decide +kernel, by decide +kernel⟩
abbrev sis_entry : Stmt := top 9
abbrev nis_entry : List Str := ["thing", "places"]
theorem cis_entry : FnScope nis_entry ["thing", "places"] (defScope sis_entry) := ⟨rfl, rfl, rfl, by decide +kernel, rfl, by decide +kernel, by decide +kernel⟩
abbrev sis_pair_of_entries : Stmt := top 10
abbrev nis_pair_of_entries : List Str := ["thing", "places", "left", "right"]
theorem cis_pair_of_entries : FnScope nis_pair_of_entries ["thing", "places"] (defScope sis_pair_of_entries) := ⟨rfl, rfl, rfl, by decide +kernel, rfl, by decide +kernel, by decide +kernel⟩
abbrev scheck_plan : Stmt := top 11
abbrev ncheck_plan : List Str := ["plan", "place", "thing"]
theorem ccheck_plan : FnScope ncheck_plan ["plan"] (defScope scheck_plan) := ⟨rfl, rfl, rfl, by decide +kernel, rfl, by decide +kernel, by decide +kernel⟩
abbrev scheck_values : Stmt := top 12
abbrev ncheck_values : List Str := ["values", "index", "thing"]
theorem ccheck_values : FnScope ncheck_values ["values"] (defScope scheck_values) := ⟨rfl, rfl, rfl, by decide +kernel, rfl, by decide +kernel, by decide +kernel⟩
abbrev sformat_plan : Stmt := top 16
abbrev nformat_plan : List Str := ["plan", "left", "right"]
theorem cformat_plan : FnScope nformat_plan ["plan"] (defScope sformat_plan) := ⟨rfl, rfl, rfl, by decide +kernel, rfl, by decide +kernel, by decide +kernel⟩
abbrev sparse_plan : Stmt := top 17
abbrev nparse_plan : List Str := ["text", "lines", "place", "entries", "number", "line"]
theorem cparse_plan : FnScope nparse_plan ["text"] (defScope sparse_plan) := ⟨rfl, rfl, rfl, by decide +kernel, rfl, by decide +kernel, by decide +kernel⟩
abbrev sformat_values : Stmt := top 18
abbrev nformat_values : List Str := ["values", "value"]
theorem cformat_values : FnScope nformat_values ["values"] (defScope sformat_values) := ⟨rfl, rfl, rfl, by decide +kernel, rfl, by decide +kernel, by decide +kernel⟩
abbrev sparse_values : Stmt := top 19
abbrev nparse_values : List Str := ["text", "words", "word"]
theorem cparse_values : FnScope nparse_values ["text"] (defScope sparse_values) := ⟨rfl, rfl, rfl, by decide +kernel, rfl, by decide +kernel, by decide +kernel⟩
abbrev s_word_of_entry : Stmt := top 20
abbrev n_word_of_entry : List Str := ["entry"]
theorem c_word_of_entry : FnScope n_word_of_entry ["entry"] (defScope s_word_of_entry) := ⟨rfl, rfl, rfl, by decide +kernel, rfl, by decide +kernel, by decide +kernel⟩
abbrev s_pair_of : Stmt := top 21
abbrev n_pair_of : List Str := ["line", "number", "entries", "words", "word", "left", "right"]
theorem c_pair_of : FnScope n_pair_of ["line", "number", "entries"] (defScope s_pair_of) := ⟨rfl, rfl, rfl, by decide +kernel, rfl, by decide +kernel, by decide +kernel⟩
abbrev s_is_number : Stmt := top 22
abbrev n_is_number : List Str := ["word", "digits", "digit"]
theorem c_is_number : FnScope n_is_number ["word"] (defScope s_is_number) := ⟨rfl, rfl, rfl, by decide +kernel, rfl, by decide +kernel, by decide +kernel⟩
abbrev s_law_draws : Stmt := top 24
abbrev n_law_draws : List Str := ["_law_cell"]
theorem c_law_draws : FnScope n_law_draws ["_law_cell"] (defScope s_law_draws) := ⟨rfl, rfl, rfl, by decide +kernel, rfl, by decide +kernel, by decide +kernel⟩
abbrev s_law_next : Stmt := top 25
abbrev n_law_next : List Str := ["_law_draws_here", "_law_k", "_law_number"]
theorem c_law_next : FnScope n_law_next ["_law_draws_here"] (defScope s_law_next) := ⟨rfl, rfl, rfl, by decide +kernel, rfl, by decide +kernel, by decide +kernel⟩
abbrev s_law_plan : Stmt := top 26
abbrev n_law_plan : List Str := ["_law_draws_here", "_law_most", "_law_size", "_law_none", "_law_told", "_law_place", "_law_two", "_law_step", "_law_pick"]
theorem c_law_plan : FnScope n_law_plan ["_law_draws_here", "_law_most"] (defScope s_law_plan) := ⟨rfl, rfl, rfl, by decide +kernel, rfl, by decide +kernel, by decide +kernel⟩
abbrev s_law_values : Stmt := top 27
abbrev n_law_values : List Str := ["_law_draws_here", "_law_most", "_law_kinds", "_law_far", "_law_k"]
theorem c_law_values : FnScope n_law_values ["_law_draws_here", "_law_most"] (defScope s_law_values) := ⟨rfl, rfl, rfl, by decide +kernel, rfl, by decide +kernel, by decide +kernel⟩
abbrev s_law_kept : Stmt := top 28
abbrev n_law_kept : List Str := ["_law_ask", "_law_error", "caught"]
theorem c_law_kept : FnScope n_law_kept ["_law_ask"] (defScope s_law_kept) := ⟨rfl, rfl, rfl, by decide +kernel, rfl, by decide +kernel, by decide +kernel⟩
abbrev s_law_right : Stmt := top 29
abbrev n_law_right : List Str := ["_law_draws_here", "_law_a_plan", "_law_a_values", "_law_kept_here", "_law_lines", "_law_left", "_law_right_here", "_law_a_text", "_law_told", "_law_named", "_law_value"]
theorem c_law_right : FnScope n_law_right ["_law_draws_here"] (defScope s_law_right) := ⟨rfl, rfl, rfl, by decide +kernel, rfl, by decide +kernel, by decide +kernel⟩
abbrev slaw : Stmt := top 30
abbrev nlaw : List Str := ["_law_script", "_law_cell", "_law_draws_here", "_law_turn", "_law_bad", "_law_place", "_law_index", "_law_far", "<t>"]
theorem claw : FnScope nlaw ["_law_script"] (defScope slaw) := ⟨rfl, rfl, rfl, by decide +kernel, rfl, by decide +kernel, by decide +kernel⟩
section
omit [TabL] [MP : Mp]
def b__word_of_entry : Sm := sRet (q (eIf (cIsN (eVar 0)) (eK (.str "-")) (eUn oStr (eVar 0))))
def d__word_of_entry : List PyData → Rs := runD 1 1 b__word_of_entry
def b_format_plan : Sm := sSeq (sExpr (eCall d_check_plan (aC (eVar 0) (aN)))) (sRet (q (eJoin (eK (.str "\n")) (hE (eL (eLc 3 [1, 2] (uTwo 1 2) (iE (eVar 0)) (tT) (eOp oAdd (eOp oAdd (eCall d__word_of_entry (aC (eVar 1) (aN))) (eK (.str " "))) (eCall d__word_of_entry (aC (eVar 2) (aN))))))))))
def d_format_plan : List PyData → Rs := runD 1 3 b_format_plan
def b__pair_of : Sm := sSeq (sSet 3 (q (eOp oSplit (eVar 0) (eK (.str " "))))) (sSeq (sIf (tOr (cOpH oNe (eLk oLen (hVar 3)) (hE (eK (.int 2)))) (tNot (tTru (hE (eLk oAll (hE (eL (eLc 7 [4] (uName 4) (iE (eVar 3)) (tT) (eC (cOpH oIn (eVar 4) (hVar 2))))))))))) (sRaise "InvalidText" "line" (eVar 1)) (sNil)) (sSeq (sTwo 5 6 (eVar 3)) (sRet (q (eTup (aC (eIx (eVar 2) (eVar 5)) (aC (eIx (eVar 2) (eVar 6)) (aN))))))))
def d__pair_of : List PyData → Rs := runD 3 7 b__pair_of
def b_parse_plan : Sm := sSeq (sIf (tNot (tTru (hE (eUn (oIsi .str) (eVar 0))))) (sRaise "InvalidText" "line" (eK .none)) (sNil)) (sSeq (sSet 1 (q (eIf (tTru (hVar 0)) (eOp oSplit (eVar 0) (eK (.str "\n"))) (eLst (aN))))) (sSeq (sIf (cOp oGt (eLk oLen (hVar 1)) (eK (.int 12))) (sRaise "InvalidText" "line" (eK .none)) (sNil)) (sDcF d__word_of_entry 6 3 2 [2] (iRg (eLk oLen (hVar 1))) "-" none (sRet (q (eL (eLc 6 [4, 5] (uTwo 4 5) (iEnum (eVar 1)) (tT) (eCall d__pair_of (aC (eVar 5) (aC (eVar 4) (aC (eVar 3) (aN))))))))))))
def d_parse_plan : List PyData → Rs := runD 1 6 b_parse_plan
def b_format_values : Sm := sSeq (sExpr (eCall d_check_values (aC (eVar 0) (aN)))) (sRet (q (eJoin (eK (.str " ")) (hE (eL (eLc 2 [1] (uName 1) (iE (eVar 0)) (tT) (eUn oStr (eVar 1))))))))
def d_format_values : List PyData → Rs := runD 1 2 b_format_values
def b__is_number : Sm := sSeq (sSet 1 (q (eOp oRemp (eVar 0) (eK (.str "-"))))) (sSeq (sIf (tOr (tNot (tTru (hVar 1))) (tNot (tTru (hE (eLk oAll (hE (eL (eLc 3 [2] (uName 2) (iE (eVar 1)) (tT) (eC (cOpH oIn (eVar 2) (hE (eK (.str "0123456789"))))))))))))) (sRet (q (eK (.bool false)))) (sNil)) (sRet (q (eOr (eC (cOpH oNe (eIx (eVar 1) (eK (.int 0))) (hE (eK (.str "0"))))) (eC (cOpH oEq (eVar 0) (hE (eK (.str "0")))))))))
def d__is_number : List PyData → Rs := runD 1 3 b__is_number
def b_parse_values : Sm := sSeq (sIf (tOr (tNot (tTru (hE (eUn (oIsi .str) (eVar 0))))) (cOpH oIn (eK (.str "\n")) (hVar 0))) (sRaise "InvalidText" "line" (eK .none)) (sNil)) (sSeq (sSet 1 (q (eIf (tTru (hVar 0)) (eOp oSplit (eVar 0) (eK (.str " "))) (eLst (aN))))) (sSeq (sIf (tOr (cOp oGt (eLk oLen (hVar 1)) (eK (.int 60))) (tNot (tTru (hE (eLk oAll (hE (eL (eLc 3 [2] (uName 2) (iE (eVar 1)) (tT) (eCall d__is_number (aC (eVar 2) (aN))))))))))) (sRaise "InvalidText" "line" (eK (.int 0))) (sNil)) (sRet (q (eL (eLc 3 [2] (uName 2) (iE (eVar 1)) (tT) (eUn oInt (eVar 2))))))))
def d_parse_values : List PyData → Rs := runD 1 3 b_parse_values
def b__law_plan : Sm := sSeq (sSet 2 (q (eOp oMod (eUn oInt (eCallM d__law_next 0 (aN))) (eOp oAdd (eVar 1) (eK (.int 1)))))) (sSeq (sSet 3 (q (eIx (eLst (aC (eK (.int 2)) (aC (eK (.int 4)) (aC (eK (.int 8)) (aC (eOp oPow (eK (.int 10)) (eK (.int 6))) (aN)))))) (eOp oMod (eUn oInt (eCallM d__law_next 0 (aN))) (eK (.int 4)))))) (sSeq (sSet 4 (q (eLst (aN)))) (sSeq (sFor (uName 5) (iRg (eVar 2)) (sQ (sSeq (sSet 6 (q (eLst (aN)))) (sSeq (sFor (uName 7) (iRg (eK (.int 2))) (sQ (sSeq (sSet 8 (q (eUn oInt (eCallM d__law_next 0 (aN))))) (sApp 6 (eIf (cOpH oEq (eOp oMod (eUn oInt (eVar 8)) (eVar 3)) (hE (eK (.int 0)))) (eK .none) (eOp oMod (eUn oInt (eOp oDiv (eVar 8) (eK (.int 64)))) (eVar 2))))))) (sApp 4 (eTup (aC (eIxV 6 (eK (.int 0))) (aC (eIxV 6 (eK (.int 1))) (aN))))))))) (sRetV 4))))
def d__law_plan : List PyData → List PyData → Rm := runM 2 9 b__law_plan
def b__law_values : Sm := sSeq (sSet 2 (q (eIx (eLst (aC (eK (.int 2)) (aC (eK (.int 4)) (aC (eK (.int 9)) (aC (eK (.int 60)) (aN)))))) (eOp oMod (eUn oInt (eCallM d__law_next 0 (aN))) (eK (.int 4)))))) (sSeq (sSet 3 (q (eIx (eLst (aC (eK (.int 1)) (aC (eK (.int 1)) (aC (eK (.int 1)) (aC (eOp oPow (eK (.int 10)) (eK (.int 18))) (aN)))))) (eOp oMod (eUn oInt (eCallM d__law_next 0 (aN))) (eK (.int 4)))))) (sRet (q (eL (eLc 5 [4] (uName 4) (iRg (eOp oMod (eUn oInt (eCallM d__law_next 0 (aN))) (eOp oAdd (eVar 1) (eK (.int 1))))) (tT) (eOp oMul (eOp oSub (eOp oMod (eUn oInt (eCallM d__law_next 0 (aN))) (eVar 2)) (eK (.int 3))) (eVar 3)))))))
def d__law_values : List PyData → List PyData → Rm := runM 2 5 b__law_values
def b__law_kept (t : Th) : Sm := sSeq (sSet 1 (q (eK .none))) (sSeq (sTry ["InvalidPlan", "InvalidValues"] 2 1 (sExpr (eAskT t 0))) (sSeq (sIf (tOr (cIsN (eVar 1)) (tNot (tTru (hE (eIsX (eVar 1) (clsT [("InvalidPlan", "place", true), ("InvalidValues", "index", true), ("InvalidText", "line", true)])))))) (sRet (q (eK (.str "told")))) (sNil)) (sRet (q (eIf (tTru (hE (eIsX (eVar 1) (clsT [("InvalidPlan", "place", true), ("InvalidValues", "index", false), ("InvalidText", "line", false)])))) (eLk oRepr (hE (eLst (aC (eK (.str "plan")) (aC (eAttr "place" [("InvalidPlan", "place")] (eVar 1)) (aN)))))) (eLk oRepr (hE (eLst (aC (eK (.str "values")) (aC (eAttr "index" [("InvalidValues", "index")] (eVar 1)) (aN)))))))))))
def d__law_kept : Th → Rs := fun t => runT 3 (b__law_kept t) t
def b__law_right : Sm := sSeq (sSet 1 (q (eCallM d__law_plan 0 (aC (eK (.int 12)) (aN))))) (sSeq (sSet 2 (q (eCallM d__law_values 0 (aC (eK (.int 60)) (aN))))) (sSeq (sSet 3 (q (eLk oRepr (hE (eLst (aC (eVar 1) (aC (eVar 2) (aN)))))))) (sSeq (sSet 4 (q (eLst (aN)))) (sSeq (sFor (uTwo 5 6) (iE (eVar 1)) (sQ (sApp 4 (eOp oAdd (eOp oAdd (eIf (cIsN (eVar 5)) (eK (.str "-")) (eUn oStr (eVar 5))) (eK (.str " "))) (eIf (cIsN (eVar 6)) (eK (.str "-")) (eUn oStr (eVar 6))))))) (sSeq (sSet 7 (q (eJoin (eK (.str "\n")) (hVar 4)))) (sSeq (sIf (cOpH oNe (eLst (aC (eCall d_format_plan (aC (eVar 1) (aN))) (aC (eCall (fun ds => d_format_plan (permL [0] ds)) (aC (eVar 1) (aN))) (aN)))) (hE (eLst (aC (eVar 7) (aC (eVar 7) (aN)))))) (sRet (q (eK (.bool false)))) (sNil)) (sSeq (sPar 8 9 (q (eCall d_parse_plan (aC (eVar 7) (aN)))) (q (eCall (fun ds => d_parse_plan (permL [0] ds)) (aC (eVar 7) (aN))))) (sSeq (sIf (cOpH oNe (eLk oRepr (hDisp [8, 9])) (hE (eLk oRepr (hE (eLst (aC (eVar 1) (aC (eVar 1) (aN)))))))) (sRet (q (eK (.bool false)))) (sNil)) (sSeq (sApp 8 (eK .none)) (sSeq (sIf (cOpH oNe (eCall d_parse_plan (aC (eVar 7) (aN))) (hVar 1)) (sRet (q (eK (.bool false)))) (sNil)) (sSeq (sSet 7 (q (eJoin (eK (.str " ")) (hE (eL (eLc 11 [10] (uName 10) (iE (eVar 2)) (tT) (eUn oStr (eVar 10)))))))) (sSeq (sIf (cOpH oNe (eLst (aC (eCall d_format_values (aC (eVar 2) (aN))) (aC (eCall (fun ds => d_format_values (permL [0] ds)) (aC (eVar 2) (aN))) (aN)))) (hE (eLst (aC (eVar 7) (aC (eVar 7) (aN)))))) (sRet (q (eK (.bool false)))) (sNil)) (sSeq (sPar 8 9 (q (eCall d_parse_values (aC (eVar 7) (aN)))) (q (eCall (fun ds => d_parse_values (permL [0] ds)) (aC (eVar 7) (aN))))) (sSeq (sIf (cOpH oNe (eLk oRepr (hDisp [8, 9])) (hE (eLk oRepr (hE (eLst (aC (eVar 2) (aC (eVar 2) (aN)))))))) (sRet (q (eK (.bool false)))) (sNil)) (sSeq (sApp 8 (eK .none)) (sRet (q (eAnd (eC (cOpH oEq (eCall d_parse_values (aC (eVar 7) (aN))) (hVar 2))) (eC (cOpH oEq (eLk oRepr (hE (eLst (aC (eVar 1) (aC (eVar 2) (aN)))))) (hVar 3)))))))))))))))))))))
def d__law_right : List PyData → List PyData → Rm := runM 1 11 b__law_right
def b_lloop : Sm := sFor (uName 3) (iRg (eK (.int 3))) (sIf (tNot (tTru (hE (eCallM d__law_right 2 (aN))))) (sRet (q (eK (.bool false)))) (sNil))
def b_lrest : Sm := sSeq (sFor (uTwo 4 5) (iE (eLst (aC (eTup (aC (eK .none) (aC (eK .none) (aN)))) (aC (eTup (aC (eTup (aN)) (aC (eK .none) (aN)))) (aC (eTup (aC (eOp oMul (eLst (aC (eK .none) (aN))) (eK (.int 13))) (aC (eK .none) (aN)))) (aC (eTup (aC (eLst (aC (eTup (aC (eK (.int 0)) (aC (eK (.int 1)) (aN)))) (aN))) (aC (eK (.int 0)) (aN)))) (aC (eTup (aC (eLst (aC (eTup (aC (eK (.int 0)) (aC (eK (.int 0)) (aN)))) (aC (eTup (aC (eK (.int 0)) (aC (eK (.bool true)) (aN)))) (aC (eK (.int 5)) (aN))))) (aC (eK (.int 1)) (aN)))) (aN)))))))) (sIf (cOpH oNe (eCallO 8 d__law_kept (eCall d_format_plan (aC (eVar 4) (aN)))) (hE (eLk oRepr (hE (eLst (aC (eK (.str "plan")) (aC (eVar 5) (aN)))))))) (sRet (q (eK (.bool false)))) (sNil))) (sSeq (sFor (uTwo 4 6) (iE (eLst (aC (eTup (aC (eK .none) (aC (eK .none) (aN)))) (aC (eTup (aC (eTup (aC (eK (.int 1)) (aN))) (aC (eK .none) (aN)))) (aC (eTup (aC (eK (.str "1")) (aC (eK .none) (aN)))) (aC (eTup (aC (eLst (aC (eK (.int 1)) (aC (eK (.bool true)) (aN)))) (aC (eK (.int 1)) (aN)))) (aC (eTup (aC (eLst (aC (eK (.str "1")) (aC (eK .none) (aN)))) (aC (eK (.int 0)) (aN)))) (aC (eTup (aC (eOp oMul (eLst (aC (eK (.int 0)) (aN))) (eK (.int 61))) (aC (eK .none) (aN)))) (aN))))))))) (sIf (cOpH oNe (eCallO 8 d__law_kept (eCall d_format_values (aC (eVar 4) (aN)))) (hE (eLk oRepr (hE (eLst (aC (eK (.str "values")) (aC (eVar 6) (aN)))))))) (sRet (q (eK (.bool false)))) (sNil))) (sSeq (sSet 7 (q (eLst (aC (eK (.int 12345678901234567891)) (aC (eUn oNeg (eK (.int 12345678901234567891))) (aN)))))) (sSeq (sIf (tOr (cOpH oNe (eCall d_format_values (aC (eVar 7) (aN))) (hE (eK (.str "12345678901234567891 -12345678901234567891")))) (cOpH oNe (eCall d_parse_values (aC (eCall d_format_values (aC (eVar 7) (aN))) (aN))) (hVar 7))) (sRet (q (eK (.bool false)))) (sNil)) (sRet (q (eAnd (eC (cOpH oEq (eCall d_parse_values (aC (eK (.str "")) (aN))) (hE (eLst (aN))))) (eAnd (eC (cOpH oEq (eCall d_format_values (aC (eLst (aN)) (aN))) (hE (eK (.str ""))))) (eAnd (eC (cOpH oEq (eCall d_parse_plan (aC (eK (.str "")) (aN))) (hE (eLst (aN))))) (eC (cOpH oEq (eCall d_format_plan (aC (eLst (aN)) (aN))) (hE (eK (.str "")))))))))))))
end
def qL_law : Str := ("law" : Str) ++ ".<locals>." ++ "<lambda>"
end G60
namespace G60
open PySem PyProof.Rows L2 DL LamX DI DC
variable [TabL] [MP : Mp]
structure Bt (mg : Str → Option Value) : Prop where
  b_ValueError : mg "ValueError" = none
  b_all : mg "all" = none
  b_bool : mg "bool" = none
  b_enumerate : mg "enumerate" = none
  b_int : mg "int" = none
  b_isinstance : mg "isinstance" = none
  b_len : mg "len" = none
  b_list : mg "list" = none
  b_range : mg "range" = none
  b_repr : mg "repr" = none
  b_str : mg "str" = none
  b_tuple : mg "tuple" = none
structure Cs (mg : Str → Option Value) : Prop where
  c_MOST_PLACES : ∃ t, mg "MOST_PLACES" = some (.int 12 t)
  c_MOST_VALUES : ∃ t, mg "MOST_VALUES" = some (.int 60 t)
  c_NO_ENTRY : ∃ t, mg "NO_ENTRY" = some (.str "-" t)
  c_DIGITS : ∃ t, mg "DIGITS" = some (.str "0123456789" t)
structure Xt (P : Program) (w : World) (K : PySem.W.Frag) (mg : Str → Option Value) (base : Heap) : Prop where
  e_InvalidPlan : ErI P w K mg base 1 "InvalidPlan" (Mp.CA "InvalidPlan") "place"
  e_InvalidValues : ErI P w K mg base 1 "InvalidValues" (Mp.CA "InvalidValues") "index"
  e_InvalidText : ErI P w K mg base 1 "InvalidText" (Mp.CA "InvalidText") "line"
  ob : ObC K
  k_InvalidPlan_ValueError : PySem.W.kitOne K (.ref (Mp.CA "InvalidPlan")) (.type "ValueError") = some true
  k_InvalidValues_ValueError : PySem.W.kitOne K (.ref (Mp.CA "InvalidValues")) (.type "ValueError") = some true
  k_InvalidText_ValueError : PySem.W.kitOne K (.ref (Mp.CA "InvalidText")) (.type "ValueError") = some true
  k_InvalidPlan_InvalidPlan : PySem.W.kitOne K (.ref (Mp.CA "InvalidPlan")) (.ref (Mp.CA "InvalidPlan")) = some true
  k_InvalidPlan_InvalidValues : PySem.W.kitOne K (.ref (Mp.CA "InvalidPlan")) (.ref (Mp.CA "InvalidValues")) = some false
  k_InvalidPlan_InvalidText : PySem.W.kitOne K (.ref (Mp.CA "InvalidPlan")) (.ref (Mp.CA "InvalidText")) = some false
  k_InvalidValues_InvalidPlan : PySem.W.kitOne K (.ref (Mp.CA "InvalidValues")) (.ref (Mp.CA "InvalidPlan")) = some false
  k_InvalidValues_InvalidValues : PySem.W.kitOne K (.ref (Mp.CA "InvalidValues")) (.ref (Mp.CA "InvalidValues")) = some true
  k_InvalidValues_InvalidText : PySem.W.kitOne K (.ref (Mp.CA "InvalidValues")) (.ref (Mp.CA "InvalidText")) = some false
  k_InvalidText_InvalidPlan : PySem.W.kitOne K (.ref (Mp.CA "InvalidText")) (.ref (Mp.CA "InvalidPlan")) = some false
  k_InvalidText_InvalidValues : PySem.W.kitOne K (.ref (Mp.CA "InvalidText")) (.ref (Mp.CA "InvalidValues")) = some false
  k_InvalidText_InvalidText : PySem.W.kitOne K (.ref (Mp.CA "InvalidText")) (.ref (Mp.CA "InvalidText")) = some true
  m_InvalidPlan_InvalidValues_InvalidPlan : PySem.W.exmAny K (.ref (Mp.CA "InvalidPlan")) [.ref (Mp.CA "InvalidPlan"), .ref (Mp.CA "InvalidValues")] = some true
  m_InvalidPlan_InvalidValues_InvalidValues : PySem.W.exmAny K (.ref (Mp.CA "InvalidValues")) [.ref (Mp.CA "InvalidPlan"), .ref (Mp.CA "InvalidValues")] = some true
theorem Xt.fn {P : Program} {w : World} {K : PySem.W.Frag} {mg : Str → Option Value} {base : Heap} (X : Xt P w K mg base) (g1 : Addr) (G1 : Hp) : @Xt (Mp.fn g1 G1) P w K mg base := @Xt.mk (Mp.fn g1 G1) P w K mg base X.e_InvalidPlan X.e_InvalidValues X.e_InvalidText X.ob X.k_InvalidPlan_ValueError X.k_InvalidValues_ValueError X.k_InvalidText_ValueError X.k_InvalidPlan_InvalidPlan X.k_InvalidPlan_InvalidValues X.k_InvalidPlan_InvalidText X.k_InvalidValues_InvalidPlan X.k_InvalidValues_InvalidValues X.k_InvalidValues_InvalidText X.k_InvalidText_InvalidPlan X.k_InvalidText_InvalidValues X.k_InvalidText_InvalidText X.m_InvalidPlan_InvalidValues_InvalidPlan X.m_InvalidPlan_InvalidValues_InvalidValues
theorem t_is_whole {P : Program} {w : World} {K : PySem.W.Frag} {mg : Str → Option Value} {base : Heap} {f : Addr} {fd : FuncData} (Fn : Fun K "is_whole" "is_whole" sis_whole f fd) (B : Bt mg) (C : Cs mg) (X : Xt P w K mg base)  : FnF P w K mg base 1 f fd ["thing"] d_is_whole :=
  fnF_of (k := 0) (m := b_is_whole) (.of Fn) cis_whole (by
    unfold b_is_whole
    exact c_one (c_ret (EF.q (ef_and (ef_isi .int (ef_var 0) B.b_isinstance B.b_int) (ef_one (ef_not (ef_isi .bool (ef_var 0) B.b_isinstance B.b_bool))))) (ex_q))) 1 1
theorem t_is_from_0_to {P : Program} {w : World} {K : PySem.W.Frag} {mg : Str → Option Value} {base : Heap} {f : Addr} {fd : FuncData} (Fn : Fun K "is_from_0_to" "is_from_0_to" sis_from_0_to f fd) (B : Bt mg) (C : Cs mg) (X : Xt P w K mg base) (D_is_whole : FnC P w K mg base "is_whole" 1 d_is_whole) : FnF P w K mg base 2 f fd ["thing", "limit"] d_is_from_0_to :=
  fnF_of (k := 1) (m := b_is_from_0_to) (.of Fn) cis_from_0_to (by
    unfold b_is_from_0_to
    exact c_one (c_ret (EF.q (ef_and (ef_call (D_is_whole.mono) (af_cons (ef_var 0) (af_nil))) (ef_one (CF.ef (cf_ch opI_le opI_le (ef_int) (ef_var 0) (ef_var 1)))))) (ex_q))) 2 2
theorem t_is_entry {P : Program} {w : World} {K : PySem.W.Frag} {mg : Str → Option Value} {base : Heap} {f : Addr} {fd : FuncData} (Fn : Fun K "is_entry" "is_entry" sis_entry f fd) (B : Bt mg) (C : Cs mg) (X : Xt P w K mg base) (D_is_from_0_to : FnC P w K mg base "is_from_0_to" 2 d_is_from_0_to) : FnF P w K mg base 3 f fd ["thing", "places"] d_is_entry :=
  fnF_of (k := 2) (m := b_is_entry) (.of Fn) cis_entry (by
    unfold b_is_entry
    exact c_one (c_ret (EF.q (ef_or (CF.ef (cf_isN (ef_var 0))) (ef_one (ef_call (D_is_from_0_to.mono) (af_cons (ef_var 0) (af_cons (ef_sub (ef_var 1) (ef_int)) (af_nil))))))) (ex_q))) 2 2
theorem t_is_pair_of_entries {P : Program} {w : World} {K : PySem.W.Frag} {mg : Str → Option Value} {base : Heap} {f : Addr} {fd : FuncData} (Fn : Fun K "is_pair_of_entries" "is_pair_of_entries" sis_pair_of_entries f fd) (B : Bt mg) (C : Cs mg) (X : Xt P w K mg base) (D_is_entry : FnC P w K mg base "is_entry" 3 d_is_entry) : FnF P w K mg base 4 f fd ["thing", "places"] d_is_pair_of_entries :=
  fnF_of (k := 3) (m := b_is_pair_of_entries) (.of Fn) cis_pair_of_entries (by
    unfold b_is_pair_of_entries
    exact c_cons (c_if (WF.bf (wf_or (bf_not (bf_tru (hf_ef (ef_isi .tuple (ef_var 0) B.b_isinstance B.b_tuple)))) (wf_or1 (CF.bf (cf_ne (ef_len (lf_var 0) B.b_len) (hf_ef (ef_int))))))) (c_one (c_ret (EF.q (ef_bl)) (ex_q))) (c_nil)) (c_cons (c_two 2 3 (ef_var 0)) (c_one (c_ret (EF.q (ef_and (ef_call (D_is_entry.mono) (af_cons (ef_var 2) (af_cons (ef_var 1) (af_nil)))) (ef_one (ef_call (D_is_entry.mono) (af_cons (ef_var 3) (af_cons (ef_var 1) (af_nil))))))) (ex_q))))) 2 4
theorem t_check_plan {P : Program} {w : World} {K : PySem.W.Frag} {mg : Str → Option Value} {base : Heap} {f : Addr} {fd : FuncData} (Fn : Fun K "check_plan" "check_plan" scheck_plan f fd) (B : Bt mg) (C : Cs mg) (X : Xt P w K mg base) (D_is_pair_of_entries : FnC P w K mg base "is_pair_of_entries" 4 d_is_pair_of_entries) : FnF P w K mg base 5 f fd ["plan"] d_check_plan :=
  fnF_of (k := 4) (m := b_check_plan) (.of Fn) ccheck_plan (by
    unfold b_check_plan
    exact c_cons (c_if (WF.bf (wf_or (bf_not (bf_tru (hf_ef (ef_isi .list (ef_var 0) B.b_isinstance B.b_list)))) (wf_or1 (CF.bf (cf_gt (ef_len (lf_var 0) B.b_len) (ef_globI C.c_MOST_PLACES)))))) (c_one (c_raise X.e_InvalidPlan (by exact Nat.le_of_ble_eq_true rfl) (ef_non))) (c_nil)) (c_one (c_forE (if_enum (ef_var 0) B.b_enumerate) (tf_two 1 2) (c_one (c_if (bf_not (bf_tru (hf_ef (ef_call (D_is_pair_of_entries.mono) (af_cons (ef_var 2) (af_cons (ef_len (lf_var 0) B.b_len) (af_nil))))))) (c_one (c_raise X.e_InvalidPlan (by exact Nat.le_of_ble_eq_true rfl) (ef_var 1))) (c_nil)))))) 1 3
theorem t_check_values {P : Program} {w : World} {K : PySem.W.Frag} {mg : Str → Option Value} {base : Heap} {f : Addr} {fd : FuncData} (Fn : Fun K "check_values" "check_values" scheck_values f fd) (B : Bt mg) (C : Cs mg) (X : Xt P w K mg base) (D_is_whole : FnC P w K mg base "is_whole" 1 d_is_whole) : FnF P w K mg base 3 f fd ["values"] d_check_values :=
  fnF_of (k := 2) (m := b_check_values) (.of Fn) ccheck_values (by
    unfold b_check_values
    exact c_cons (c_if (WF.bf (wf_or (bf_not (bf_tru (hf_ef (ef_isi .list (ef_var 0) B.b_isinstance B.b_list)))) (wf_or1 (CF.bf (cf_gt (ef_len (lf_var 0) B.b_len) (ef_globI C.c_MOST_VALUES)))))) (c_one (c_raise X.e_InvalidValues (by exact Nat.le_of_ble_eq_true rfl) (ef_non))) (c_nil)) (c_one (c_forE (if_enum (ef_var 0) B.b_enumerate) (tf_two 1 2) (c_one (c_if (bf_not (bf_tru (hf_ef (ef_call (D_is_whole.mono) (af_cons (ef_var 2) (af_nil)))))) (c_one (c_raise X.e_InvalidValues (by exact Nat.le_of_ble_eq_true rfl) (ef_var 1))) (c_nil)))))) 1 3
theorem t__word_of_entry {P : Program} {w : World} {K : PySem.W.Frag} {mg : Str → Option Value} {base : Heap} {f : Addr} {fd : FuncData} (Fn : Fun K "_word_of_entry" "_word_of_entry" s_word_of_entry f fd) (B : Bt mg) (C : Cs mg) (X : Xt P w K mg base)  : FnF P w K mg base 1 f fd ["entry"] d__word_of_entry :=
  fnF_of (k := 0) (m := b__word_of_entry) (.of Fn) c_word_of_entry (by
    unfold b__word_of_entry
    exact c_one (c_ret (EF.q (ef_if (CF.bf (cf_isN (ef_var 0))) (ef_globS C.c_NO_ENTRY) (ef_str1 (ef_var 0) B.b_str))) (ex_q))) 1 1
theorem t_format_plan {P : Program} {w : World} {K : PySem.W.Frag} {mg : Str → Option Value} {base : Heap} {f : Addr} {fd : FuncData} (Fn : Fun K "format_plan" "format_plan" sformat_plan f fd) (B : Bt mg) (C : Cs mg) (X : Xt P w K mg base) (D__word_of_entry : FnC P w K mg base "_word_of_entry" 1 d__word_of_entry) (D_check_plan : FnC P w K mg base "check_plan" 5 d_check_plan) : FnF P w K mg base 6 f fd ["plan"] d_format_plan :=
  fnF_of (k := 5) (m := b_format_plan) (.of Fn) cformat_plan (by
    unfold b_format_plan
    exact c_cons (c_expr (ef_call (D_check_plan.mono) (af_cons (ef_var 0) (af_nil))) (ex_call (D_check_plan.mono) (af_cons (ef_var 0) (af_nil)))) (c_one (c_ret (EF.q (ef_join (ef_str) (lf_ef (ef_lc (qf_lc (own := [("left", 1), ("right", 2)]) (if_e (ef_var 0)) (blkOk_by rfl) (tf_two 1 2) (iff_nil) (ef_add (ef_add (ef_call (D__word_of_entry.mono) (af_cons (ef_var 1) (af_nil))) (ef_str)) (ef_call (D__word_of_entry.mono) (af_cons (ef_var 2) (af_nil))))))))) (ex_q)))) 1 3
theorem t__pair_of {P : Program} {w : World} {K : PySem.W.Frag} {mg : Str → Option Value} {base : Heap} {f : Addr} {fd : FuncData} (Fn : Fun K "_pair_of" "_pair_of" s_pair_of f fd) (B : Bt mg) (C : Cs mg) (X : Xt P w K mg base)  : FnF P w K mg base 3 f fd ["line", "number", "entries"] d__pair_of :=
  fnF_of (k := 2) (m := b__pair_of) (.of Fn) c_pair_of (by
    unfold b__pair_of
    exact c_cons (c_set 3 (EF.q (ef_split (ef_var 0) (ef_str))) (ex_q)) (c_cons (c_if (WF.bf (wf_or (CF.bf (cf_ne (ef_len (lf_var 3) B.b_len) (hf_ef (ef_int)))) (wf_or1 (bf_not (bf_tru (hf_ef (ef_all (lf_ef (ef_lc (qf_lc (own := [("word", 4)]) (if_e (ef_var 3)) (blkOk_by rfl) (tf_name 4) (iff_nil) (CF.ef (cf_in (ef_var 4) (hf_var 2)))))) B.b_all))))))) (c_one (c_raise X.e_InvalidText (by exact Nat.le_of_ble_eq_true rfl) (ef_var 1))) (c_nil)) (c_cons (c_two 5 6 (ef_var 3)) (c_one (c_ret (EF.q (ef_tup (af_cons (ef_ix (ef_var 2) (ef_var 5)) (af_cons (ef_ix (ef_var 2) (ef_var 6)) (af_nil))))) (ex_q)))))) 3 7
theorem t_parse_plan {P : Program} {w : World} {K : PySem.W.Frag} {mg : Str → Option Value} {base : Heap} {f : Addr} {fd : FuncData} (Fn : Fun K "parse_plan" "parse_plan" sparse_plan f fd) (B : Bt mg) (C : Cs mg) (X : Xt P w K mg base) (D__pair_of : FnC P w K mg base "_pair_of" 3 d__pair_of) (D__word_of_entry : FnC P w K mg base "_word_of_entry" 1 d__word_of_entry) : FnF P w K mg base 4 f fd ["text"] d_parse_plan :=
  fnF_of (k := 3) (m := b_parse_plan) (.of Fn) cparse_plan (by
    unfold b_parse_plan
    exact c_cons (c_if (bf_not (bf_tru (hf_ef (ef_isi .str (ef_var 0) B.b_isinstance B.b_str)))) (c_one (c_raise X.e_InvalidText (by exact Nat.le_of_ble_eq_true rfl) (ef_non))) (c_nil)) (c_cons (c_set 1 (EF.q (ef_if (bf_tru (hf_var 0)) (ef_split (ef_var 0) (ef_str)) (ef_lst (af_nil)))) (ex_q)) (c_cons (c_if (CF.bf (cf_gt (ef_len (lf_var 1) B.b_len) (ef_globI C.c_MOST_PLACES))) (c_one (c_raise X.e_InvalidText (by exact Nat.le_of_ble_eq_true rfl) (ef_non))) (c_nil)) (c_dc (own := [("place", 2)]) 3 2 (if_rg (ef_len (lf_var 1) B.b_len) B.b_range) (blkOk_by rfl) (ef_call (D__word_of_entry.mono) (af_cons (ef_var 2) (af_nil))) (ef_var 2) (tg_name 2) (ef_globS C.c_NO_ENTRY) (ef_non) (c_one (c_ret (EF.q (ef_lc (qf_lc (own := [("number", 4), ("line", 5)]) (if_enum (ef_var 1) B.b_enumerate) (blkOk_by rfl) (tf_two 4 5) (iff_nil) (ef_call (D__pair_of.mono) (af_cons (ef_var 5) (af_cons (ef_var 4) (af_cons (ef_var 3) (af_nil)))))))) (ex_q))))))) 1 6
theorem t_format_values {P : Program} {w : World} {K : PySem.W.Frag} {mg : Str → Option Value} {base : Heap} {f : Addr} {fd : FuncData} (Fn : Fun K "format_values" "format_values" sformat_values f fd) (B : Bt mg) (C : Cs mg) (X : Xt P w K mg base) (D_check_values : FnC P w K mg base "check_values" 3 d_check_values) : FnF P w K mg base 4 f fd ["values"] d_format_values :=
  fnF_of (k := 3) (m := b_format_values) (.of Fn) cformat_values (by
    unfold b_format_values
    exact c_cons (c_expr (ef_call (D_check_values.mono) (af_cons (ef_var 0) (af_nil))) (ex_call (D_check_values.mono) (af_cons (ef_var 0) (af_nil)))) (c_one (c_ret (EF.q (ef_join (ef_str) (lf_ef (ef_lc (qf_lc (own := [("value", 1)]) (if_e (ef_var 0)) (blkOk_by rfl) (tf_name 1) (iff_nil) (ef_str1 (ef_var 1) B.b_str)))))) (ex_q)))) 1 2
theorem t__is_number {P : Program} {w : World} {K : PySem.W.Frag} {mg : Str → Option Value} {base : Heap} {f : Addr} {fd : FuncData} (Fn : Fun K "_is_number" "_is_number" s_is_number f fd) (B : Bt mg) (C : Cs mg) (X : Xt P w K mg base)  : FnF P w K mg base 1 f fd ["word"] d__is_number :=
  fnF_of (k := 0) (m := b__is_number) (.of Fn) c_is_number (by
    unfold b__is_number
    exact c_cons (c_set 1 (EF.q (ef_remp (ef_var 0) (ef_str))) (ex_q)) (c_cons (c_if (WF.bf (wf_or (bf_not (bf_tru (hf_var 1))) (wf_or1 (bf_not (bf_tru (hf_ef (ef_all (lf_ef (ef_lc (qf_lc (own := [("digit", 2)]) (if_e (ef_var 1)) (blkOk_by rfl) (tf_name 2) (iff_nil) (CF.ef (cf_in (ef_var 2) (hf_ef (ef_globS C.c_DIGITS))))))) B.b_all))))))) (c_one (c_ret (EF.q (ef_bl)) (ex_q))) (c_nil)) (c_one (c_ret (EF.q (ef_or (CF.ef (cf_ne (ef_ix (ef_var 1) (ef_int)) (hf_ef (ef_str)))) (ef_one (CF.ef (cf_eq (ef_var 0) (hf_ef (ef_str))))))) (ex_q))))) 1 3
theorem t_parse_values {P : Program} {w : World} {K : PySem.W.Frag} {mg : Str → Option Value} {base : Heap} {f : Addr} {fd : FuncData} (Fn : Fun K "parse_values" "parse_values" sparse_values f fd) (B : Bt mg) (C : Cs mg) (X : Xt P w K mg base) (D__is_number : FnC P w K mg base "_is_number" 1 d__is_number) : FnF P w K mg base 3 f fd ["text"] d_parse_values :=
  fnF_of (k := 2) (m := b_parse_values) (.of Fn) cparse_values (by
    unfold b_parse_values
    exact c_cons (c_if (WF.bf (wf_or (bf_not (bf_tru (hf_ef (ef_isi .str (ef_var 0) B.b_isinstance B.b_str)))) (wf_or1 (CF.bf (cf_in (ef_str) (hf_var 0)))))) (c_one (c_raise X.e_InvalidText (by exact Nat.le_of_ble_eq_true rfl) (ef_non))) (c_nil)) (c_cons (c_set 1 (EF.q (ef_if (bf_tru (hf_var 0)) (ef_split (ef_var 0) (ef_str)) (ef_lst (af_nil)))) (ex_q)) (c_cons (c_if (WF.bf (wf_or (CF.bf (cf_gt (ef_len (lf_var 1) B.b_len) (ef_globI C.c_MOST_VALUES))) (wf_or1 (bf_not (bf_tru (hf_ef (ef_all (lf_ef (ef_lc (qf_lc (own := [("word", 2)]) (if_e (ef_var 1)) (blkOk_by rfl) (tf_name 2) (iff_nil) (ef_call (D__is_number.mono) (af_cons (ef_var 2) (af_nil)))))) B.b_all))))))) (c_one (c_raise X.e_InvalidText (by exact Nat.le_of_ble_eq_true rfl) (ef_int))) (c_nil)) (c_one (c_ret (EF.q (ef_lc (qf_lc (own := [("word", 2)]) (if_e (ef_var 1)) (blkOk_by rfl) (tf_name 2) (iff_nil) (ef_int1 (ef_var 2) B.b_int)))) (ex_q)))))) 1 3
theorem t__law_draws {P : Program} {w : World} {K : PySem.W.Frag} {mg : Str → Option Value} {base : Heap} {f : Addr} {fd : FuncData} (Fn : Fun K "_law_draws" "_law_draws" s_law_draws f fd) (B : Bt mg) (C : Cs mg) (X : Xt P w K mg base)  : FnF P w K mg base 1 f fd ["_law_cell"] d__law_draws :=
  fnF_of (k := 0) (m := b__law_draws) (.of Fn) c_law_draws (by
    unfold b__law_draws
    exact c_one (c_ret (EF.q (ef_lst (af_cons (ef_mod (ef_int1 (ef_var 0) B.b_int) (ef_pow (ef_pow (ef_pow (ef_int) (ef_int)) (ef_int)) (ef_int))) (af_cons (ef_int) (af_cons (CF.ef (cf_ge (ef_var 0) (ef_pow (ef_int) (ef_int)))) (af_nil)))))) (ex_q))) 1 1
theorem t__law_next {P : Program} {w : World} {K : PySem.W.Frag} {mg : Str → Option Value} {base : Heap} {f : Addr} {fd : FuncData} (Fn : Fun K "_law_next" "_law_next" s_law_next f fd) (B : Bt mg) (C : Cs mg) (X : Xt P w K mg base) (hx : mg "_law_next" = some (.ref f)) (bi : Binds K fd ["_law_draws_here"] [])  : FnM P w K mg base "_law_next" 1 d__law_next :=
  fnM_of (k := 0) (m := b__law_next) (.of Fn) c_law_next (by
    unfold b__law_next
    exact c_cons (c_put 0 (ef_add (ef_ixV 0 (ef_int)) (ef_int)) (ef_int)) (c_cons (c_set 1 (EF.q (ef_ixV 0 (ef_int))) (ex_q)) (c_cons (c_if (bf_tru (hf_ef (ef_ixV 0 (ef_int)))) (c_cons (c_set 2 (EF.q (ef_mod (ef_int1 (ef_ixV 0 (ef_int)) B.b_int) (ef_pow (ef_int) (ef_int)))) (ex_q)) (c_cons (c_put 0 (ef_fdiv (ef_ixV 0 (ef_int)) (ef_pow (ef_int) (ef_int))) (ef_int)) (c_one (c_retV 2)))) (c_nil)) (c_cons (c_set 2 (EF.q (ef_mod (ef_int1 (ef_mul (ef_add (ef_add (ef_mod (ef_int1 (ef_ixV 0 (ef_int)) B.b_int) (ef_int)) (ef_mul (ef_mul (ef_var 1) (ef_var 1)) (ef_int))) (ef_var 1)) (ef_int)) B.b_int) (ef_int))) (ex_q)) (c_cons (c_set 2 (EF.q (ef_mod (ef_int1 (ef_mul (ef_var 2) (ef_var 2)) B.b_int) (ef_int))) (ex_q)) (c_one (c_ret (EF.q (ef_fdiv (ef_mod (ef_int1 (ef_mul (ef_var 2) (ef_add (ef_var 2) (ef_int))) B.b_int) (ef_int)) (ef_int))) (ex_q)))))))) hx bi 1 3
theorem t__law_plan {P : Program} {w : World} {K : PySem.W.Frag} {mg : Str → Option Value} {base : Heap} {f : Addr} {fd : FuncData} (Fn : Fun K "_law_plan" "_law_plan" s_law_plan f fd) (B : Bt mg) (C : Cs mg) (X : Xt P w K mg base) (hx : mg "_law_plan" = some (.ref f)) (bi : Binds K fd ["_law_draws_here", "_law_most"] []) (D__law_next : FnM P w K mg base "_law_next" 1 d__law_next) : FnM P w K mg base "_law_plan" 2 d__law_plan :=
  fnM_of (k := 1) (m := b__law_plan) (.of Fn) c_law_plan (by
    unfold b__law_plan
    exact c_cons (c_set 2 (EF.q (ef_mod (ef_int1 (ef_callM 0 (D__law_next.mono) (af_nil)) B.b_int) (ef_add (ef_var 1) (ef_int)))) (ex_q)) (c_cons (c_set 3 (EF.q (ef_ix (ef_lst (af_cons (ef_int) (af_cons (ef_int) (af_cons (ef_int) (af_cons (ef_pow (ef_int) (ef_int)) (af_nil)))))) (ef_mod (ef_int1 (ef_callM 0 (D__law_next.mono) (af_nil)) B.b_int) (ef_int)))) (ex_q)) (c_cons (c_set 4 (EF.q (ef_lst (af_nil))) (ex_q)) (c_cons (c_forQ (if_rg (ef_var 2) B.b_range) (tf_name 5) (c_cons (c_set 6 (EF.q (ef_lst (af_nil))) (ex_q)) (c_cons (c_forQ (if_rg (ef_int) B.b_range) (tf_name 7) (c_cons (c_set 8 (EF.q (ef_int1 (ef_callM 0 (D__law_next.mono) (af_nil)) B.b_int)) (ex_q)) (c_one (c_app 6 (ef_if (CF.bf (cf_eq (ef_mod (ef_int1 (ef_var 8) B.b_int) (ef_var 3)) (hf_ef (ef_int)))) (ef_non) (ef_mod (ef_int1 (ef_fdiv (ef_var 8) (ef_int)) B.b_int) (ef_var 2))))))) (c_one (c_app 4 (ef_tup (af_cons (ef_ixV 6 (ef_int)) (af_cons (ef_ixV 6 (ef_int)) (af_nil))))))))) (c_one (c_retV 4)))))) hx bi 2 9
theorem t__law_values {P : Program} {w : World} {K : PySem.W.Frag} {mg : Str → Option Value} {base : Heap} {f : Addr} {fd : FuncData} (Fn : Fun K "_law_values" "_law_values" s_law_values f fd) (B : Bt mg) (C : Cs mg) (X : Xt P w K mg base) (hx : mg "_law_values" = some (.ref f)) (bi : Binds K fd ["_law_draws_here", "_law_most"] []) (D__law_next : FnM P w K mg base "_law_next" 1 d__law_next) : FnM P w K mg base "_law_values" 2 d__law_values :=
  fnM_of (k := 1) (m := b__law_values) (.of Fn) c_law_values (by
    unfold b__law_values
    exact c_cons (c_set 2 (EF.q (ef_ix (ef_lst (af_cons (ef_int) (af_cons (ef_int) (af_cons (ef_int) (af_cons (ef_int) (af_nil)))))) (ef_mod (ef_int1 (ef_callM 0 (D__law_next.mono) (af_nil)) B.b_int) (ef_int)))) (ex_q)) (c_cons (c_set 3 (EF.q (ef_ix (ef_lst (af_cons (ef_int) (af_cons (ef_int) (af_cons (ef_int) (af_cons (ef_pow (ef_int) (ef_int)) (af_nil)))))) (ef_mod (ef_int1 (ef_callM 0 (D__law_next.mono) (af_nil)) B.b_int) (ef_int)))) (ex_q)) (c_one (c_ret (EF.q (ef_lc (qf_lc (own := [("_law_k", 4)]) (if_rg (ef_mod (ef_int1 (ef_callM 0 (D__law_next.mono) (af_nil)) B.b_int) (ef_add (ef_var 1) (ef_int))) B.b_range) (blkOk_by rfl) (tf_name 4) (iff_nil) (ef_mul (ef_sub (ef_mod (ef_int1 (ef_callM 0 (D__law_next.mono) (af_nil)) B.b_int) (ef_var 2)) (ef_int)) (ef_var 3))))) (ex_q))))) hx bi 2 5
theorem t__law_kept {P : Program} {w : World} {K : PySem.W.Frag} {mg : Str → Option Value} {base : Heap} {f : Addr} {fd : FuncData} (Fn : Fun K "_law_kept" "_law_kept" s_law_kept f fd) (B : Bt mg) (C : Cs mg) (X : Xt P w K mg base) (hx : mg "_law_kept" = some (.ref f)) (bi : Binds K fd ["_law_ask"] [])  : FnT P w K mg base "_law_kept" 7 d__law_kept :=
  fnT_of (k := 7) (mt := b__law_kept) Fn c_law_kept (fun t g1 G1 => by
    have X := Xt.fn X g1 G1
    letI : Mp := Mp.fn g1 G1
    unfold b__law_kept
    exact c_cons (c_set 1 (EF.q (ef_non)) (ex_q)) (c_cons (c_try 2 1 (c_one (c_expr (ef_ask 0 (by intro j; exact rfl) (by intro j; exact j.1.1.2) (by exact Nat.le_refl _)) (ex_ask 0 (by intro j; exact j.1.1.2) (by exact Nat.le_refl _)))) ((List.forall_mem_cons.mpr ⟨fun j => test2 ⟨rfl, by decide, .inl X.e_InvalidPlan.c.gC⟩ ⟨rfl, by decide, .inl X.e_InvalidValues.c.gC⟩ X.m_InvalidPlan_InvalidValues_InvalidPlan, (List.forall_mem_cons.mpr ⟨fun j => test2 ⟨rfl, by decide, .inl X.e_InvalidPlan.c.gC⟩ ⟨rfl, by decide, .inl X.e_InvalidValues.c.gC⟩ X.m_InvalidPlan_InvalidValues_InvalidValues, (fun _ h => nomatch h)⟩)⟩))) (c_cons (c_if (WF.bf (wf_or (CF.bf (cf_isN (ef_var 1))) (wf_or1 (bf_not (bf_tru (hf_ef (ef_isXB (nm := "ValueError") (ef_var 1) (List.forall_mem_cons.mpr ⟨⟨⟨_, X.e_InvalidPlan.c⟩, X.k_InvalidPlan_ValueError⟩, (List.forall_mem_cons.mpr ⟨⟨⟨_, X.e_InvalidValues.c⟩, X.k_InvalidValues_ValueError⟩, (List.forall_mem_cons.mpr ⟨⟨⟨_, X.e_InvalidText.c⟩, X.k_InvalidText_ValueError⟩, (fun _ h => nomatch h)⟩)⟩)⟩) X.ob B.b_isinstance B.b_ValueError (by decide +kernel)))))))) (c_one (c_ret (EF.q (ef_str)) (ex_q))) (c_nil)) (c_one (c_ret (EF.q (ef_if (bf_tru (hf_ef (ef_isXO (nm := "InvalidPlan") (ef_var 1) (List.forall_mem_cons.mpr ⟨⟨⟨_, X.e_InvalidPlan.c⟩, X.k_InvalidPlan_InvalidPlan⟩, (List.forall_mem_cons.mpr ⟨⟨⟨_, X.e_InvalidValues.c⟩, X.k_InvalidValues_InvalidPlan⟩, (List.forall_mem_cons.mpr ⟨⟨⟨_, X.e_InvalidText.c⟩, X.k_InvalidText_InvalidPlan⟩, (fun _ h => nomatch h)⟩)⟩)⟩) X.ob B.b_isinstance X.e_InvalidPlan.c.gC))) (ef_repr (hf_ef (ef_lst (af_cons (ef_str) (af_cons (ef_attr (ef_var 1) (List.forall_mem_cons.mpr ⟨⟨_, X.e_InvalidPlan.c⟩, (fun _ h => nomatch h)⟩)) (af_nil))))) B.b_repr) (ef_repr (hf_ef (ef_lst (af_cons (ef_str) (af_cons (ef_attr (ef_var 1) (List.forall_mem_cons.mpr ⟨⟨_, X.e_InvalidValues.c⟩, (fun _ h => nomatch h)⟩)) (af_nil))))) B.b_repr))) (ex_q)))))) hx bi
theorem t__law_right {P : Program} {w : World} {K : PySem.W.Frag} {mg : Str → Option Value} {base : Heap} {f : Addr} {fd : FuncData} (Fn : Fun K "_law_right" "_law_right" s_law_right f fd) (B : Bt mg) (C : Cs mg) (X : Xt P w K mg base) (hx : mg "_law_right" = some (.ref f)) (bi : Binds K fd ["_law_draws_here"] []) (K_format_plan_0_plan : FnK P w K mg base "format_plan" 6 0 ["plan"] (fun ds => d_format_plan (permL [0] ds))) (K_format_values_0_values : FnK P w K mg base "format_values" 4 0 ["values"] (fun ds => d_format_values (permL [0] ds))) (K_parse_plan_0_text : FnK P w K mg base "parse_plan" 4 0 ["text"] (fun ds => d_parse_plan (permL [0] ds))) (K_parse_values_0_text : FnK P w K mg base "parse_values" 3 0 ["text"] (fun ds => d_parse_values (permL [0] ds))) (D__law_plan : FnM P w K mg base "_law_plan" 2 d__law_plan) (D__law_values : FnM P w K mg base "_law_values" 2 d__law_values) (D_format_plan : FnC P w K mg base "format_plan" 6 d_format_plan) (D_format_values : FnC P w K mg base "format_values" 4 d_format_values) (D_parse_plan : FnC P w K mg base "parse_plan" 4 d_parse_plan) (D_parse_values : FnC P w K mg base "parse_values" 3 d_parse_values) : FnM P w K mg base "_law_right" 7 d__law_right :=
  fnM_of (k := 6) (m := b__law_right) (.of Fn) c_law_right (by
    unfold b__law_right
    exact c_cons (c_set 1 (EF.q (ef_callM 0 (D__law_plan.mono) (af_cons (ef_int) (af_nil)))) (ex_q)) (c_cons (c_set 2 (EF.q (ef_callM 0 (D__law_values.mono) (af_cons (ef_int) (af_nil)))) (ex_q)) (c_cons (c_set 3 (EF.q (ef_repr (hf_ef (ef_lst (af_cons (ef_var 1) (af_cons (ef_var 2) (af_nil))))) B.b_repr)) (ex_q)) (c_cons (c_set 4 (EF.q (ef_lst (af_nil))) (ex_q)) (c_cons (c_forQ (if_e (ef_var 1)) (tf_two 5 6) (c_one (c_app 4 (ef_add (ef_add (ef_if (CF.bf (cf_isN (ef_var 5))) (ef_str) (ef_str1 (ef_var 5) B.b_str)) (ef_str)) (ef_if (CF.bf (cf_isN (ef_var 6))) (ef_str) (ef_str1 (ef_var 6) B.b_str)))))) (c_cons (c_set 7 (EF.q (ef_join (ef_str) (lf_var 4))) (ex_q)) (c_cons (c_if (CF.bf (cf_ne (ef_lst (af_cons (ef_call (D_format_plan.mono) (af_cons (ef_var 1) (af_nil))) (af_cons (ef_callK0 (K_format_plan_0_plan.mono) (kf_cons (ef_var 1) (kf_nil))) (af_nil)))) (hf_ef (ef_lst (af_cons (ef_var 7) (af_cons (ef_var 7) (af_nil))))))) (c_one (c_ret (EF.q (ef_bl)) (ex_q))) (c_nil)) (c_cons (c_par 8 9 (ef_call (D_parse_plan.mono) (af_cons (ef_var 7) (af_nil))) (ef_callK0 (K_parse_plan_0_text.mono) (kf_cons (ef_var 7) (kf_nil)))) (c_cons (c_if (CF.bf (cf_ne (ef_repr (hf_disp (nm_cons 8 (nm_cons 9 (nm_nil)))) B.b_repr) (hf_ef (ef_repr (hf_ef (ef_lst (af_cons (ef_var 1) (af_cons (ef_var 1) (af_nil))))) B.b_repr)))) (c_one (c_ret (EF.q (ef_bl)) (ex_q))) (c_nil)) (c_cons (c_app 8 (ef_non)) (c_cons (c_if (CF.bf (cf_ne (ef_call (D_parse_plan.mono) (af_cons (ef_var 7) (af_nil))) (hf_var 1))) (c_one (c_ret (EF.q (ef_bl)) (ex_q))) (c_nil)) (c_cons (c_set 7 (EF.q (ef_join (ef_str) (lf_ef (ef_lc (qf_lc (own := [("_law_value", 10)]) (if_e (ef_var 2)) (blkOk_by rfl) (tf_name 10) (iff_nil) (ef_str1 (ef_var 10) B.b_str)))))) (ex_q)) (c_cons (c_if (CF.bf (cf_ne (ef_lst (af_cons (ef_call (D_format_values.mono) (af_cons (ef_var 2) (af_nil))) (af_cons (ef_callK0 (K_format_values_0_values.mono) (kf_cons (ef_var 2) (kf_nil))) (af_nil)))) (hf_ef (ef_lst (af_cons (ef_var 7) (af_cons (ef_var 7) (af_nil))))))) (c_one (c_ret (EF.q (ef_bl)) (ex_q))) (c_nil)) (c_cons (c_par 8 9 (ef_call (D_parse_values.mono) (af_cons (ef_var 7) (af_nil))) (ef_callK0 (K_parse_values_0_text.mono) (kf_cons (ef_var 7) (kf_nil)))) (c_cons (c_if (CF.bf (cf_ne (ef_repr (hf_disp (nm_cons 8 (nm_cons 9 (nm_nil)))) B.b_repr) (hf_ef (ef_repr (hf_ef (ef_lst (af_cons (ef_var 2) (af_cons (ef_var 2) (af_nil))))) B.b_repr)))) (c_one (c_ret (EF.q (ef_bl)) (ex_q))) (c_nil)) (c_cons (c_app 8 (ef_non)) (c_one (c_ret (EF.q (ef_and (CF.ef (cf_eq (ef_call (D_parse_values.mono) (af_cons (ef_var 7) (af_nil))) (hf_var 2))) (ef_one (CF.ef (cf_eq (ef_repr (hf_ef (ef_lst (af_cons (ef_var 1) (af_cons (ef_var 2) (af_nil))))) B.b_repr) (hf_var 3)))))) (ex_q))))))))))))))))))) hx bi 1 11
theorem t_law {P : Program} {w : World} {K : PySem.W.Frag} {mg : Str → Option Value} {base : Heap} {f c Pt : Addr} {kV doc pm ct oc : Value} {an od : Option Addr} {osl : Array (Option Value)} (lk : K.lookup f = some ⟨oc, od, .func (PySem.W.fnOf "law" "law" (defArgs slaw) (defBody slaw) (defScope slaw) .none kV doc pm an (.ref c) ct), osl⟩) (hcd : PySem.W.codeIn K (.ref c) "law" = true) (B : Bt mg) (C : Cs mg) (X : Xt P w K mg base) (TB : TabB base mg c Pt) (hm : (Pt, qL_law) ∈ TabL.T) (hu : ∀ p ∈ TabL.T, p.1 = Pt → p.2 = qL_law) (D__law_draws : FnC P w K mg base "_law_draws" 1 d__law_draws) (D__law_kept : FnT P w K mg base "_law_kept" 7 d__law_kept) (D__law_right : FnM P w K mg base "_law_right" 7 d__law_right) (D_format_plan : FnC P w K mg base "format_plan" 6 d_format_plan) (D_format_values : FnC P w K mg base "format_values" 4 d_format_values) (D_parse_plan : FnC P w K mg base "parse_plan" 4 d_parse_plan) (D_parse_values : FnC P w K mg base "parse_values" 3 d_parse_values) (fr : Int → List PyData) (qe : ∀ c : Int, d__law_draws [.int c] = .ok (.l (fr c))) (qb : ∀ c : Int, ∃ s1, b_lloop ((noS 9 8).set 2 (.ow (fr c))) = .nx s1 ∧ s1[8]? = some .tb) (qr : ∃ s1, b_lrest (noS 9 8) = .rt (.d (.bool true)) s1) : FnG P w K mg base 9 f (PySem.W.fnOf "law" "law" (defArgs slaw) (defBody slaw) (defScope slaw) .none kV doc pm an (.ref c) ct) ["_law_script"] (spLaw K TabL.T) :=
  law_fnC (k := 8) (n := 9) (j := 8) lk hcd claw (fun a ns hl => lj_fresh (kk := 6) (me := eCall d__law_draws (aC (eVar 1) aN)) (mb := b_lloop) (mr := b_lrest) (fr := fr) (n := 9) (j := 8) (ci := 1) (i0 := 2) (hlen := hl) (hn := rfl) (he := ef_call D__law_draws.mono (af_cons (ef_var 1) (af_nil))) (hb := blkOk_by rfl) (ht := tg_name 1) (qe := fun c => by show rC (d__law_draws [.int c]) _ = _; rw [qe]; rfl) (cb := by
    unfold b_lloop
    exact c_one (c_forE (if_rg (ef_int) B.b_range) (tf_name 3) (c_one (c_if (bf_not (bf_tru (hf_ef (ef_callM 2 (D__law_right.mono) (af_nil))))) (c_one (c_ret (EF.q (ef_bl)) (ex_q))) (c_nil))))) (qb := qb) (cr := by
    unfold b_lrest
    exact c_cons (c_forE (if_e (ef_lst (af_cons (ef_tup (af_cons (ef_non) (af_cons (ef_non) (af_nil)))) (af_cons (ef_tup (af_cons (ef_tup (af_nil)) (af_cons (ef_non) (af_nil)))) (af_cons (ef_tup (af_cons (ef_mul (ef_lst (af_cons (ef_non) (af_nil))) (ef_int)) (af_cons (ef_non) (af_nil)))) (af_cons (ef_tup (af_cons (ef_lst (af_cons (ef_tup (af_cons (ef_int) (af_cons (ef_int) (af_nil)))) (af_nil))) (af_cons (ef_int) (af_nil)))) (af_cons (ef_tup (af_cons (ef_lst (af_cons (ef_tup (af_cons (ef_int) (af_cons (ef_int) (af_nil)))) (af_cons (ef_tup (af_cons (ef_int) (af_cons (ef_bl) (af_nil)))) (af_cons (ef_int) (af_nil))))) (af_cons (ef_int) (af_nil)))) (af_nil)))))))) (tf_two 4 5) (c_one (c_if (CF.bf (cf_ne (ef_lam (k := 6) (q := qL_law) 8 D__law_kept (by exact Nat.le_of_ble_eq_true rfl) (fun j => j.2) (fun _ => rfl) TB hm hu (ef_call (D_format_plan.mono) (af_cons (ef_var 4) (af_nil))) (ex_call (D_format_plan.mono) (af_cons (ef_var 4) (af_nil))) (lamS_by (by show lamSB (defScope slaw) _ = true; decide +kernel))) (hf_ef (ef_repr (hf_ef (ef_lst (af_cons (ef_str) (af_cons (ef_var 5) (af_nil))))) B.b_repr)))) (c_one (c_ret (EF.q (ef_bl)) (ex_q))) (c_nil)))) (c_cons (c_forE (if_e (ef_lst (af_cons (ef_tup (af_cons (ef_non) (af_cons (ef_non) (af_nil)))) (af_cons (ef_tup (af_cons (ef_tup (af_cons (ef_int) (af_nil))) (af_cons (ef_non) (af_nil)))) (af_cons (ef_tup (af_cons (ef_str) (af_cons (ef_non) (af_nil)))) (af_cons (ef_tup (af_cons (ef_lst (af_cons (ef_int) (af_cons (ef_bl) (af_nil)))) (af_cons (ef_int) (af_nil)))) (af_cons (ef_tup (af_cons (ef_lst (af_cons (ef_str) (af_cons (ef_non) (af_nil)))) (af_cons (ef_int) (af_nil)))) (af_cons (ef_tup (af_cons (ef_mul (ef_lst (af_cons (ef_int) (af_nil))) (ef_int)) (af_cons (ef_non) (af_nil)))) (af_nil))))))))) (tf_two 4 6) (c_one (c_if (CF.bf (cf_ne (ef_lam (k := 6) (q := qL_law) 8 D__law_kept (by exact Nat.le_of_ble_eq_true rfl) (fun j => j.2) (fun _ => rfl) TB hm hu (ef_call (D_format_values.mono) (af_cons (ef_var 4) (af_nil))) (ex_call (D_format_values.mono) (af_cons (ef_var 4) (af_nil))) (lamS_by (by show lamSB (defScope slaw) _ = true; decide +kernel))) (hf_ef (ef_repr (hf_ef (ef_lst (af_cons (ef_str) (af_cons (ef_var 6) (af_nil))))) B.b_repr)))) (c_one (c_ret (EF.q (ef_bl)) (ex_q))) (c_nil)))) (c_cons (c_set 7 (EF.q (ef_lst (af_cons (ef_int) (af_cons (ef_neg (ef_int)) (af_nil))))) (ex_q)) (c_cons (c_if (WF.bf (wf_or (CF.bf (cf_ne (ef_call (D_format_values.mono) (af_cons (ef_var 7) (af_nil))) (hf_ef (ef_str)))) (wf_or1 (CF.bf (cf_ne (ef_call (D_parse_values.mono) (af_cons (ef_call (D_format_values.mono) (af_cons (ef_var 7) (af_nil))) (af_nil))) (hf_var 7)))))) (c_one (c_ret (EF.q (ef_bl)) (ex_q))) (c_nil)) (c_one (c_ret (EF.q (ef_and (CF.ef (cf_eq (ef_call (D_parse_values.mono) (af_cons (ef_str) (af_nil))) (hf_ef (ef_lst (af_nil))))) (ef_and (CF.ef (cf_eq (ef_call (D_format_values.mono) (af_cons (ef_lst (af_nil)) (af_nil))) (hf_ef (ef_str)))) (ef_and (CF.ef (cf_eq (ef_call (D_parse_plan.mono) (af_cons (ef_str) (af_nil))) (hf_ef (ef_lst (af_nil))))) (ef_one (CF.ef (cf_eq (ef_call (D_format_plan.mono) (af_cons (ef_lst (af_nil)) (af_nil))) (hf_ef (ef_str))))))))) (ex_q))))))) (qr := qr))
end G60
namespace G60
open PySem PyProof.Rows DL LamX DI DC DM MT KT
local macro_rules | `(tactic| walk_at "ev") => `(tactic| simp only [runD, runM, startC, startCM, sSeq, sIf, sRet, sRetV, sSet, sSetL, sExpr, sRaise, sFor, sNil, sTwo, sStar, sPar, sPut, sApp, sAug, sPass, sCont, sBrk, sWhile, sQ, q, Re.q, Re.k, Re.kd, Re.da, Re.bd, rO, eK, eVar, hVar, hDisp, hNames, hE, eOp, eUn, eLk, cOp, cOpH, cOpV, cCh, cIsN, cNotN, vN, isN_n, isN_i, isN_b, isN_s, isN_l, isN_t, isN_d, List.isEmpty_cons, List.isEmpty_nil, eC, DI.tTru, truD, DI.tNot, DI.tAnd, DI.tOr, eAnd, eOr, eNot, eIf, aN, aC, eLst, eTup, eDict0, eCall, rC, eSl, oS, oN, oCut, iE, iRg_app, DI.iEnum, vC, uName, uTwo, oIsi, isiD, oLen, oLt, oLe, oGt, oGe, oAdd_ii, and_self, and_true, true_and, Int.toNat_natCast, decide_true, decide_false, Int.reduceAdd, Int.reduceSub, Bool.false_or, Bool.true_or, Bool.or_true, oSub, oInt, oList, eL, eIxV, oIxL, eIx_app, tT, eLRg, eMaxD, sWp, eCallM, eCallK, List.map_cons, List.map_nil, List.cons_append, List.nil_append, List.length_cons, List.length_nil, Nat.reduceAdd, Nat.reduceSub, List.reduceReplicate, set_z, set_s, get_z, get_s, ite_t, ite_f, if_true, if_false, reduceIte, Option.map_some, Option.map_none, Bool.not_true, Bool.not_false, Bool.false_eq_true, wp_eq, wpA_nil, wpA_cons, List.contains_cons, List.contains_nil, Bool.or_false, Nat.reduceBEq, Int.reduceNeg, Int.cast_ofNat_Int, atI_0, atI_1, atI_2, ix3_0, ix3_1, encL_len, intsL_len, natsL_len, List.length_map])
local macro_rules | `(tactic| walk_at "ev*") => `(tactic| simp only [runD, runM, startC, startCM, sSeq, sIf, sRet, sRetV, sSet, sSetL, sExpr, sRaise, sFor, sNil, sTwo, sStar, sPar, sPut, sApp, sAug, sPass, sCont, sBrk, sWhile, sQ, q, Re.q, Re.k, Re.kd, Re.da, Re.bd, rO, eK, eVar, hVar, hDisp, hNames, hE, eOp, eUn, eLk, cOp, cOpH, cOpV, cCh, cIsN, cNotN, vN, isN_n, isN_i, isN_b, isN_s, isN_l, isN_t, isN_d, List.isEmpty_cons, List.isEmpty_nil, eC, DI.tTru, truD, DI.tNot, DI.tAnd, DI.tOr, eAnd, eOr, eNot, eIf, aN, aC, eLst, eTup, eDict0, eCall, rC, eSl, oS, oN, oCut, iE, iRg_app, DI.iEnum, vC, uName, uTwo, oIsi, isiD, oLen, oLt, oLe, oGt, oGe, oAdd_ii, and_self, and_true, true_and, Int.toNat_natCast, decide_true, decide_false, Int.reduceAdd, Int.reduceSub, Bool.false_or, Bool.true_or, Bool.or_true, oSub, oInt, oList, eL, eIxV, oIxL, eIx_app, tT, eLRg, eMaxD, sWp, eCallM, eCallK, List.map_cons, List.map_nil, List.cons_append, List.nil_append, List.length_cons, List.length_nil, Nat.reduceAdd, Nat.reduceSub, List.reduceReplicate, set_z, set_s, get_z, get_s, ite_t, ite_f, if_true, if_false, reduceIte, Option.map_some, Option.map_none, Bool.not_true, Bool.not_false, Bool.false_eq_true, wp_eq, wpA_nil, wpA_cons, List.contains_cons, List.contains_nil, Bool.or_false, Nat.reduceBEq, Int.reduceNeg, Int.cast_ofNat_Int, atI_0, atI_1, atI_2, ix3_0, ix3_1, encL_len, intsL_len, natsL_len, List.length_map, *])
local macro_rules | `(tactic| walk_at "ev st") => `(tactic| (apply sq_nx; focus (walk_at "ev*"; exact rfl)))
local macro_rules | `(tactic| walk_at "ev end") => `(tactic| (walk_at "ev*"; try exact rfl))
theorem strsOf_map : ∀ ws : List Str, strsOf (ws.map PyData.str) = some ws
  | [] => rfl
  | x :: ws => by
    show (strsOf (ws.map PyData.str)).map (x :: ·) = _
    rw [strsOf_map ws]
    rfl
theorem boolsOf_map : ∀ ws : List Bool, boolsOf (ws.map PyData.bool) = some ws
  | [] => rfl
  | x :: ws => by
    show (boolsOf (ws.map PyData.bool)).map (x :: ·) = _
    rw [boolsOf_map ws]
    rfl
theorem str_int {n : Int} (h : n.natAbs < 10 ^ 30) : oStr (.int n) = some (.d (.str (tI n))) := by
  show gI _ _ = _
  unfold gI
  rw [if_pos (Nat.lt_trans (log2_lt (k := 100) (by omega) (by decide)) (by decide))]
  rfl
theorem word {e : Option Nat} (h : small e) : d__word_of_entry [encE e] = .ok (.d (.str (wE e))) := by
  cases e with
  | none =>
    rw [show wE none = ((("-" : String)) : Str) from dash_is.symm]
    rfl
  | some n =>
    have hn := h n rfl
    have e1 := str_int (n := (n : Int)) (by omega)
    have e2 : encE (some n) = .int (n : Int) := rfl
    rw [e2]
    apply runD_rt (hl := by rfl)
    unfold b__word_of_entry
    walk_at "ev*"
    rfl
theorem format_plan {pl : Plan} (ok : OkP pl) : d_format_plan [encP pl] = .ok (.d (.str (txP pl))) := by
  have e1 := check_plan_ok ok
  have hlen : (encL pl).length ≤ 100000 := by rw [encL_len]; have := ok.len; omega
  have lc : eLc 3 [1, 2] (uTwo 1 2) (iE (eVar 0)) (tT) (eOp oAdd (eOp oAdd (eCall d__word_of_entry (aC (eVar 1) (aN))) (eK (.str " "))) (eCall d__word_of_entry (aC (eVar 2) (aN)))) [.va (encP pl), .no, .no] = .ok ((pl.map lnT).map PyData.str) [.va (encP pl), .no, .no] := by
    refine eLc_of (its := encL pl) (s1 := [.va (encP pl), .no, .no]) (by clear e1; walk_at "ev*") ?_ rfl hlen
    have e : wipeC [1, 2] [.va (encP pl), .no, .no] = [.va (encP pl), .no, .no] := by walk_at "ev"
    rw [e, List.map_map]
    refine lcL_pureM encT (fun t => PyData.str (lnT t)) fun t ht => ?_
    obtain ⟨s1, s2⟩ := okP_small ok ht
    have w1 := word s1
    have w2 := word s2
    have l1 := wE_len s1
    have l2 := wE_len s2
    have g1 : oAdd (.str (wE t.1)) (.str " ") = some (.d (.str (wE t.1 ++ (" " : Str)))) := by
      show gI _ _ = _
      unfold gI
      rw [if_pos (by show _ + 1 ≤ _; omega)]
    have g2 : oAdd (.str (wE t.1 ++ (" " : Str))) (.str (wE t.2)) = some (.d (.str (lnT t))) := by
      show gI _ _ = _
      unfold gI
      rw [if_pos (by rw [app_len]; show _ + 1 + _ ≤ _; omega)]
      rfl
    have u : uTwo 1 2 (encT t) [.va (encP pl), .no, .no] = some [.va (encP pl), .va (encE t.1), .va (encE t.2)] := rfl
    clear s1 s2 l1 l2 ht e1 e hlen ok
    refine ⟨_, u, rfl, ⟨_, ?_, .inl rfl⟩, ?_⟩ <;> clear u <;> walk_at "ev*"
  have hj : oJoin (.str "\n") (.list ((pl.map lnT).map PyData.str)) = some (.d (.str (txP pl))) := by
    show (strsOf _).bind _ = _
    rw [strsOf_map]
    show gI _ _ = _
    unfold gI
    have q := sum_len (ws := pl.map lnT) (b := 63) fun x hx => by
      obtain ⟨t, ht, rfl⟩ := List.mem_map.mp hx
      exact lnT_len (okP_small ok ht).1 (okP_small ok ht).2
    rw [List.length_map] at q
    have := ok.len
    rw [if_pos (by rw [List.length_map]; show _ + _ * 1 ≤ _; omega)]
    rfl
  clear hlen ok
  apply runD_rt (hl := by rfl)
  unfold b_format_plan
  walk_at "ev st"
  simp only [sRet, q, eJoin]
  walk_at "ev*"
  rfl
end G60
namespace G60
open PySem PyProof.Rows DL LamX DI DC DM MT KT
local macro_rules | `(tactic| walk_at "ev") => `(tactic| simp only [runD, runM, startC, startCM, sSeq, sIf, sRet, sRetV, sSet, sSetL, sExpr, sRaise, sFor, sNil, sTwo, sStar, sPar, sPut, sApp, sAug, sPass, sCont, sBrk, sWhile, sQ, q, Re.q, Re.k, Re.kd, Re.da, Re.bd, rO, eK, eVar, hVar, hDisp, hNames, hE, eOp, eUn, eLk, cOp, cOpH, cOpV, cCh, cIsN, cNotN, vN, isN_n, isN_i, isN_b, isN_s, isN_l, isN_t, isN_d, List.isEmpty_cons, List.isEmpty_nil, eC, DI.tTru, truD, DI.tNot, DI.tAnd, DI.tOr, eAnd, eOr, eNot, eIf, aN, aC, eLst, eTup, eDict0, eCall, rC, eSl, oS, oN, oCut, iE, iRg_app, DI.iEnum, vC, uName, uTwo, oIsi, isiD, oLen, oLt, oLe, oGt, oGe, oAdd_ii, and_self, and_true, true_and, Int.toNat_natCast, decide_true, decide_false, Int.reduceAdd, Int.reduceSub, Bool.false_or, Bool.true_or, Bool.or_true, oSub, oInt, oList, eL, eIxV, oIxL, eIx_app, tT, eLRg, eMaxD, sWp, eCallM, eCallK, List.map_cons, List.map_nil, List.cons_append, List.nil_append, List.length_cons, List.length_nil, Nat.reduceAdd, Nat.reduceSub, List.reduceReplicate, set_z, set_s, get_z, get_s, ite_t, ite_f, if_true, if_false, reduceIte, Option.map_some, Option.map_none, Bool.not_true, Bool.not_false, Bool.false_eq_true, wp_eq, wpA_nil, wpA_cons, List.contains_cons, List.contains_nil, Bool.or_false, Nat.reduceBEq, Int.reduceNeg, Int.cast_ofNat_Int, atI_0, atI_1, atI_2, ix3_0, ix3_1, encL_len, intsL_len, natsL_len, List.length_map])
local macro_rules | `(tactic| walk_at "ev*") => `(tactic| simp only [runD, runM, startC, startCM, sSeq, sIf, sRet, sRetV, sSet, sSetL, sExpr, sRaise, sFor, sNil, sTwo, sStar, sPar, sPut, sApp, sAug, sPass, sCont, sBrk, sWhile, sQ, q, Re.q, Re.k, Re.kd, Re.da, Re.bd, rO, eK, eVar, hVar, hDisp, hNames, hE, eOp, eUn, eLk, cOp, cOpH, cOpV, cCh, cIsN, cNotN, vN, isN_n, isN_i, isN_b, isN_s, isN_l, isN_t, isN_d, List.isEmpty_cons, List.isEmpty_nil, eC, DI.tTru, truD, DI.tNot, DI.tAnd, DI.tOr, eAnd, eOr, eNot, eIf, aN, aC, eLst, eTup, eDict0, eCall, rC, eSl, oS, oN, oCut, iE, iRg_app, DI.iEnum, vC, uName, uTwo, oIsi, isiD, oLen, oLt, oLe, oGt, oGe, oAdd_ii, and_self, and_true, true_and, Int.toNat_natCast, decide_true, decide_false, Int.reduceAdd, Int.reduceSub, Bool.false_or, Bool.true_or, Bool.or_true, oSub, oInt, oList, eL, eIxV, oIxL, eIx_app, tT, eLRg, eMaxD, sWp, eCallM, eCallK, List.map_cons, List.map_nil, List.cons_append, List.nil_append, List.length_cons, List.length_nil, Nat.reduceAdd, Nat.reduceSub, List.reduceReplicate, set_z, set_s, get_z, get_s, ite_t, ite_f, if_true, if_false, reduceIte, Option.map_some, Option.map_none, Bool.not_true, Bool.not_false, Bool.false_eq_true, wp_eq, wpA_nil, wpA_cons, List.contains_cons, List.contains_nil, Bool.or_false, Nat.reduceBEq, Int.reduceNeg, Int.cast_ofNat_Int, atI_0, atI_1, atI_2, ix3_0, ix3_1, encL_len, intsL_len, natsL_len, List.length_map, *])
local macro_rules | `(tactic| walk_at "ev st") => `(tactic| (apply sq_nx; focus (walk_at "ev*"; exact rfl)))
local macro_rules | `(tactic| walk_at "ev end") => `(tactic| (walk_at "ev*"; try exact rfl))
theorem kvOf_vs : ∀ l : List (Str × Option Int), kvOf (vsD l) = some l
  | [] => rfl
  | (k, some n) :: l => by
    show (kvOf (vsD l)).map ((k, some n) :: ·) = _
    rw [kvOf_vs l]
    rfl
  | (k, none) :: l => by
    show (kvOf (vsD l)).map ((k, none) :: ·) = _
    rw [kvOf_vs l]
    rfl
theorem entL_ne {n : Nat} : (entL n).isEmpty = false := by
  unfold entL
  cases (List.range n).map fun (i : Nat) => (wE (some i), some (i : Int)) <;> rfl
theorem in_ent {n : Nat} {e : Option Nat} (hn : n ≤ 1000) (h : ∀ k, e = some k → k < n) : oIn (.str (wE e)) (.dict (vsD (entL n))) = some true := by
  show (kvOf _).bind _ = _
  rw [kvOf_vs]
  show (if (entL n).isEmpty = true then none else _) = _
  rw [entL_ne]
  show some ((entL n).find? fun q => decide (q.1 = wE e)).isSome = _
  rw [find_ent hn h]
  rfl
theorem ix_ent {n : Nat} {e : Option Nat} (hn : n ≤ 1000) (h : ∀ k, e = some k → k < n) : oIx (.dict (vsD (entL n))) (.str (wE e)) = some (.d (encE e)) := by
  show (kvOf _).bind _ = _
  rw [kvOf_vs]
  show ((entL n).find? fun q => decide (q.1 = wE e)).map _ = _
  rw [find_ent hn h]
  show some (Vl.d (oD (oI e))) = _
  rw [oD_oI]
theorem split_line (t : Option Nat × Option Nat) (h1 : small t.1) (h2 : small t.2) : oSplit (.str (lnT t)) (.str " ") = some (.l [.str (wE t.1), .str (wE t.2)]) := by
  show gI _ _ = _
  unfold gI
  have := lnT_len h1 h2
  rw [if_pos ⟨by decide +kernel, by omega⟩, lnT_split]
  rfl
theorem pair_of {t : Option Nat × Option Nat} {n : Nat} {i : PyData} (hn : n ≤ 12) (h1 : ∀ k, t.1 = some k → k < n) (h2 : ∀ k, t.2 = some k → k < n) : d__pair_of [.str (lnT t), i, .dict (vsD (entL n))] = .ok (.d (encT t)) := by
  have s1 : small t.1 := fun k hk => by have := h1 k hk; omega
  have s2 : small t.2 := fun k hk => by have := h2 k hk; omega
  have e1 := split_line t s1 s2
  have i1 := in_ent (by omega) h1
  have i2 := in_ent (by omega) h2
  have x1 := ix_ent (by omega) h1
  have x2 := ix_ent (by omega) h2
  have et : encT t = .tuple [encE t.1, encE t.2] := rfl
  rw [et]
  generalize wE t.1 = w1 at e1 i1 x1
  generalize wE t.2 = w2 at e1 i2 x2
  generalize encE t.1 = r1 at x1
  generalize encE t.2 = r2 at x2
  generalize lnT t = ln at e1
  generalize (PyData.dict (vsD (entL n))) = D at i1 i2 x1 x2
  clear s1 s2 h1 h2 hn et
  have lc : eLc 7 [4] (uName 4) (iE (eVar 3)) (tT) (eC (cOpH oIn (eVar 4) (hVar 2))) [.va (.str ln), .va i, .va D, .ow [.str w1, .str w2], .no, .no, .no] = .ok [.bool true, .bool true] [.va (.str ln), .va i, .va D, .va (.list [.str w1, .str w2]), .no, .no, .no] := by
    refine eLc_of (its := [.str w1, .str w2]) (s1 := [.va (.str ln), .va i, .va D, .va (.list [.str w1, .str w2]), .no, .no, .no]) (by walk_at "ev*") ?_ rfl (by show 2 ≤ 100000; decide)
    have e : wipeC [4] [.va (.str ln), .va i, .va D, .va (.list [.str w1, .str w2]), .no, .no, .no] = [.va (.str ln), .va i, .va D, .va (.list [.str w1, .str w2]), .no, .no, .no] := by walk_at "ev"
    rw [e]
    have main := lcL_pureM (W := [4]) (u := uName 4) (t := tT) (e := eC (cOpH oIn (eVar 4) (hVar 2))) (s := [.va (.str ln), .va i, .va D, .va (.list [.str w1, .str w2]), .no, .no, .no]) (fun d : PyData => d) (fun _ => .bool true) (xs := [.str w1, .str w2]) fun p hp => by
      simp only [List.mem_cons, List.not_mem_nil, or_false] at hp
      clear e e1 x1 x2
      refine ⟨[.va (.str ln), .va i, .va D, .va (.list [.str w1, .str w2]), .va p, .no, .no], rfl, rfl, ⟨_, ?_, .inl rfl⟩, ?_⟩
      · rcases hp with rfl | rfl <;> walk_at "ev*"
      · clear i1 i2 hp
        walk_at "ev"
    rw [List.map_id'] at main
    exact main
  have al : oAll (.list [.bool true, .bool true]) = some (.d (.bool true)) := rfl
  have n2 : oNe (.int 2) (.int 2) = some false := rfl
  clear i1 i2
  apply runD_rt (hl := by rfl)
  unfold b__pair_of
  walk_at "ev st"
  walk_at "ev st"
  walk_at "ev st"
  walk_at "ev end"
end G60
namespace G60
open PySem PyProof.Rows DL LamX DI DC DM MT KT TL
local macro_rules | `(tactic| walk_at "ev") => `(tactic| simp only [runD, runM, startC, startCM, sSeq, sIf, sRet, sRetV, sSet, sSetL, sExpr, sRaise, sFor, sNil, sTwo, sStar, sPar, sPut, sApp, sAug, sPass, sCont, sBrk, sWhile, sQ, q, Re.q, Re.k, Re.kd, Re.da, Re.bd, rO, eK, eVar, hVar, hDisp, hNames, hE, eOp, eUn, eLk, cOp, cOpH, cOpV, cCh, cIsN, cNotN, vN, isN_n, isN_i, isN_b, isN_s, isN_l, isN_t, isN_d, List.isEmpty_cons, List.isEmpty_nil, eC, DI.tTru, truD, DI.tNot, DI.tAnd, DI.tOr, eAnd, eOr, eNot, eIf, aN, aC, eLst, eTup, eDict0, eCall, rC, eSl, oS, oN, oCut, iE, iRg_app, DI.iEnum, vC, uName, uTwo, oIsi, isiD, oLen, oLt, oLe, oGt, oGe, oAdd_ii, and_self, and_true, true_and, Int.toNat_natCast, decide_true, decide_false, Int.reduceAdd, Int.reduceSub, Bool.false_or, Bool.true_or, Bool.or_true, oSub, oInt, oList, eL, eIxV, oIxL, eIx_app, tT, eLRg, eMaxD, sWp, eCallM, eCallK, List.map_cons, List.map_nil, List.cons_append, List.nil_append, List.length_cons, List.length_nil, Nat.reduceAdd, Nat.reduceSub, List.reduceReplicate, set_z, set_s, get_z, get_s, ite_t, ite_f, if_true, if_false, reduceIte, Option.map_some, Option.map_none, Bool.not_true, Bool.not_false, Bool.false_eq_true, wp_eq, wpA_nil, wpA_cons, List.contains_cons, List.contains_nil, Bool.or_false, Nat.reduceBEq, Int.reduceNeg, Int.cast_ofNat_Int, atI_0, atI_1, atI_2, ix3_0, ix3_1, encL_len, intsL_len, natsL_len, List.length_map])
local macro_rules | `(tactic| walk_at "ev*") => `(tactic| simp only [runD, runM, startC, startCM, sSeq, sIf, sRet, sRetV, sSet, sSetL, sExpr, sRaise, sFor, sNil, sTwo, sStar, sPar, sPut, sApp, sAug, sPass, sCont, sBrk, sWhile, sQ, q, Re.q, Re.k, Re.kd, Re.da, Re.bd, rO, eK, eVar, hVar, hDisp, hNames, hE, eOp, eUn, eLk, cOp, cOpH, cOpV, cCh, cIsN, cNotN, vN, isN_n, isN_i, isN_b, isN_s, isN_l, isN_t, isN_d, List.isEmpty_cons, List.isEmpty_nil, eC, DI.tTru, truD, DI.tNot, DI.tAnd, DI.tOr, eAnd, eOr, eNot, eIf, aN, aC, eLst, eTup, eDict0, eCall, rC, eSl, oS, oN, oCut, iE, iRg_app, DI.iEnum, vC, uName, uTwo, oIsi, isiD, oLen, oLt, oLe, oGt, oGe, oAdd_ii, and_self, and_true, true_and, Int.toNat_natCast, decide_true, decide_false, Int.reduceAdd, Int.reduceSub, Bool.false_or, Bool.true_or, Bool.or_true, oSub, oInt, oList, eL, eIxV, oIxL, eIx_app, tT, eLRg, eMaxD, sWp, eCallM, eCallK, List.map_cons, List.map_nil, List.cons_append, List.nil_append, List.length_cons, List.length_nil, Nat.reduceAdd, Nat.reduceSub, List.reduceReplicate, set_z, set_s, get_z, get_s, ite_t, ite_f, if_true, if_false, reduceIte, Option.map_some, Option.map_none, Bool.not_true, Bool.not_false, Bool.false_eq_true, wp_eq, wpA_nil, wpA_cons, List.contains_cons, List.contains_nil, Bool.or_false, Nat.reduceBEq, Int.reduceNeg, Int.cast_ofNat_Int, atI_0, atI_1, atI_2, ix3_0, ix3_1, encL_len, intsL_len, natsL_len, List.length_map, *])
local macro_rules | `(tactic| walk_at "ev st") => `(tactic| (apply sq_nx; focus (walk_at "ev*"; exact rfl)))
local macro_rules | `(tactic| walk_at "ev end") => `(tactic| (walk_at "ev*"; try exact rfl))
theorem kF_word {i : Nat} (h : i < 1000) : kF d__word_of_entry (.int (i : Int)) = keyD (.int (i : Int)) := by
  have e := word (e := some i) (fun n hn => by cases hn; exact h)
  have e2 : encE (some i) = .int (i : Int) := rfl
  rw [e2] at e
  unfold kF
  rw [e]
  rfl
theorem okF_word {i : Nat} (h : i < 1000) : okF d__word_of_entry (.int (i : Int)) = true := by
  have e := word (e := some i) (fun n hn => by cases hn; exact h)
  have e2 : encE (some i) = .int (i : Int) := rfl
  rw [e2] at e
  unfold okF
  rw [e]
theorem kF_all {n : Nat} (h : n ≤ 1000) : ((List.range n).map fun (i : Nat) => PyData.int (i : Int)).map (kF d__word_of_entry) = ((List.range n).map fun (i : Nat) => PyData.int (i : Int)).map keyD := by
  rw [List.map_map, List.map_map]
  apply List.map_congr_left
  intro i hi
  exact kF_word (by have := List.mem_range.mp hi; omega)
theorem kv_all {n : Nat} (h : n ≤ 1000) : (((List.range n).map fun (i : Nat) => PyData.int (i : Int)).map fun d => (kF d__word_of_entry d, wF d)) ++ [(("-" : Str), none)] = entL n := by
  rw [show ((("-" : String)) : Str) = dash from dash_is, ← ents]
  congr 1
  rw [List.map_map, List.map_map]
  apply List.map_congr_left
  intro i hi
  show (kF d__word_of_entry (.int (i : Int)), wF (.int (i : Int))) = (keyD (.int (i : Int)), valD (.int (i : Int)))
  rw [kF_word (by have := List.mem_range.mp hi; omega)]
  rfl
theorem dc_state {lines : List PyData} {c0 c4 c5 : Ce} {b : Sm} (h : lines.length ≤ 12) : sDcF d__word_of_entry 6 3 2 [2] (iRg (eLk oLen (hVar 1))) "-" none b [c0, .ow lines, .no, .no, c4, c5] = b [c0, .ow lines, .no, .va (.dict (vsD (entL lines.length))), c4, c5] := by
  have r := rg_ok (n := lines.length) (by omega)
  have it : iRg (eLk oLen (hVar 1)) [c0, .ow lines, .no, .no, c4, c5] = .ok ((List.range lines.length).map fun (i : Nat) => PyData.int (i : Int)) [c0, .ow lines, .no, .no, c4, c5] := by
    clear h
    walk_at "ev*"
  unfold sDcF
  rw [if_pos (show ([c0, .ow lines, .no, .no, c4, c5] : Sx).length = 6 from rfl), it]
  dsimp only
  have c1 : ((List.range lines.length).map fun (i : Nat) => PyData.int (i : Int)).all (okF d__word_of_entry) = true := by
    rw [List.all_eq_true]
    intro d hd
    obtain ⟨i, hi, rfl⟩ := List.mem_map.mp hd
    exact okF_word (by have := List.mem_range.mp hi; omega)
  have c2 : (((List.range lines.length).map fun (i : Nat) => PyData.int (i : Int)).map (kF d__word_of_entry)).Nodup := by
    rw [kF_all (by omega)]
    exact keys_nd (by omega)
  have c3 : (("-" : String) : Str) ∉ ((List.range lines.length).map fun (i : Nat) => PyData.int (i : Int)).map (kF d__word_of_entry) := by
    rw [kF_all (by omega), show ((("-" : String)) : Str) = dash from dash_is]
    exact keys_dash
  rw [if_pos ⟨rfl, by rw [List.length_map, List.length_range]; omega, c1, c2, c3⟩, kv_all (by omega)]
  rfl
theorem txP_pos {pl : Plan} (h : pl ≠ []) : 0 < (txP pl).length := by
  cases pl with
  | nil => exact absurd rfl h
  | cons t pl =>
    have e : tl (txP (t :: pl)) ≠ [] := by
      unfold txP
      rw [tl_txj]
      exact joinL_pos (lnT_pos t)
    exact Nat.pos_of_ne_zero fun z => e (List.length_eq_zero_iff.mp (by
      have : (tl (txP (t :: pl))).length = (txP (t :: pl)).length := by simp [tl, Str.length]
      rw [this]
      exact z))
theorem parse_plan {pl : Plan} (ok : OkP pl) : d_parse_plan [.str (txP pl)] = .ok (.l (encL pl)) := by
  have hl : pl.length ≤ 12 := ok.len
  have ln := txP_len ok
  -- the lines
  obtain ⟨k, tr, sp⟩ : ∃ k, gI ((txP pl).length ≤ 100000) (some (decide (0 < (txP pl).length))) = some k ∧ (if k = true then oSplit (.str (txP pl)) (.str "\n") = some (.l ((pl.map lnT).map PyData.str)) else (pl.map lnT).map PyData.str = []) := by
    by_cases h : pl = []
    · subst h
      refine ⟨false, ?_, rfl⟩
      decide +kernel
    · refine ⟨true, ?_, ?_⟩
      · unfold gI
        rw [if_pos (by omega), decide_eq_true (txP_pos h)]
      · show gI _ _ = _
        unfold gI
        rw [if_pos ⟨by decide +kernel, by omega⟩, txP_split h]
  have len : ((pl.map lnT).map PyData.str).length = pl.length := by rw [List.length_map, List.length_map]
  have en : enumD ((pl.map lnT).map PyData.str) = pl.zipIdx.map fun x => PyData.tuple [.int (x.2 : Int), .str (lnT x.1)] := by
    unfold enumD
    rw [List.mapIdx_eq_zipIdx_map, List.map_map, List.zipIdx_map, List.map_map]
    rfl
  have lc : eLc 6 [4, 5] (uTwo 4 5) (DI.iEnum (eVar 1)) (tT) (eCall d__pair_of (aC (eVar 5) (aC (eVar 4) (aC (eVar 3) (aN))))) [.va (.str (txP pl)), .ow ((pl.map lnT).map PyData.str), .no, .va (.dict (vsD (entL pl.length))), .no, .no] = .ok (encL pl) [.va (.str (txP pl)), .va (.list ((pl.map lnT).map PyData.str)), .no, .va (.dict (vsD (entL pl.length))), .no, .no] := by
    refine eLc_of (its := enumD ((pl.map lnT).map PyData.str)) (s1 := [.va (.str (txP pl)), .va (.list ((pl.map lnT).map PyData.str)), .no, .va (.dict (vsD (entL pl.length))), .no, .no]) (by clear sp tr en len; walk_at "ev*") ?_ rfl (by rw [en, List.length_map, List.length_zipIdx]; omega)
    have e : wipeC [4, 5] [.va (.str (txP pl)), .va (.list ((pl.map lnT).map PyData.str)), .no, .va (.dict (vsD (entL pl.length))), .no, .no] = [.va (.str (txP pl)), .va (.list ((pl.map lnT).map PyData.str)), .no, .va (.dict (vsD (entL pl.length))), .no, .no] := by walk_at "ev"
    rw [e, en]
    have main := lcL_pureM (W := [4, 5]) (u := uTwo 4 5) (t := tT) (e := eCall d__pair_of (aC (eVar 5) (aC (eVar 4) (aC (eVar 3) (aN))))) (s := [.va (.str (txP pl)), .va (.list ((pl.map lnT).map PyData.str)), .no, .va (.dict (vsD (entL pl.length))), .no, .no]) (fun x : (Option Nat × Option Nat) × Nat => PyData.tuple [.int (x.2 : Int), .str (lnT x.1)]) (fun x => encT x.1) (xs := pl.zipIdx) fun x hx => by
      have hm : x.1 ∈ pl := List.fst_mem_of_mem_zipIdx hx
      obtain ⟨o1, o2⟩ := ok.ent _ hm
      have pr := pair_of (t := x.1) (n := pl.length) (i := .int (x.2 : Int)) hl o1 o2
      generalize (PyData.list ((pl.map lnT).map PyData.str)) = LL
      generalize (PyData.dict (vsD (entL pl.length))) = DD at pr ⊢
      generalize txP pl = TT
      clear e en sp tr ln hx hm o1 o2 len ok hl
      refine ⟨[.va (.str TT), .va LL, .no, .va DD, .va (.int (x.2 : Int)), .va (.str (lnT x.1))], rfl, rfl, ⟨_, ?_, .inl rfl⟩, ?_⟩ <;> walk_at "ev*"
    rw [main]
    congr 1
    unfold encL
    rw [show (fun x : (Option Nat × Option Nat) × Nat => encT x.1) = encT ∘ Prod.fst from rfl, ← List.map_map, List.zipIdx_map_fst]
  have dc := fun b => dc_state (c0 := .va (.str (txP pl))) (c4 := .no) (c5 := .no) (b := b) (lines := (pl.map lnT).map PyData.str) (by rw [len]; exact hl)
  rw [len] at dc
  have gt : decide ((12 : Int) < (pl.length : Int)) = false := decide_eq_false (by omega)
  have st2 : sSet 1 (q (eIf (DI.tTru (hVar 0)) (eOp oSplit (eVar 0) (eK (.str "\n"))) (eLst (aN)))) [.va (.str (txP pl)), .no, .no, .no, .no, .no] = .nx [.va (.str (txP pl)), .ow ((pl.map lnT).map PyData.str), .no, .no, .no, .no] := by
    clear lc dc en
    cases k with
    | true =>
      simp only [if_true] at sp
      walk_at "ev*"
    | false =>
      simp only [Bool.false_eq_true, if_false] at sp
      rw [sp]
      clear sp len
      walk_at "ev*"
  generalize ((pl.map lnT).map PyData.str) = LS at lc dc st2 len
  clear en sp tr ok ln
  apply runD_rt (hl := by rfl)
  unfold b_parse_plan
  apply sq_nx (s1 := [.va (.str (txP pl)), .no, .no, .no, .no, .no])
  · clear lc dc st2
    walk_at "ev*"
  refine sq_nx st2 ?_
  apply sq_nx (s1 := [.va (.str (txP pl)), .ow LS, .no, .no, .no, .no])
  · clear lc dc st2
    walk_at "ev*"
  rw [dc]
  walk_at "ev end"
end G60
namespace G60
open PySem PyProof.Rows DL LamX DI DC DM MT KT TL
local macro_rules | `(tactic| walk_at "ev") => `(tactic| simp only [runD, runM, startC, startCM, sSeq, sIf, sRet, sRetV, sSet, sSetL, sExpr, sRaise, sFor, sNil, sTwo, sStar, sPar, sPut, sApp, sAug, sPass, sCont, sBrk, sWhile, sQ, q, Re.q, Re.k, Re.kd, Re.da, Re.bd, rO, eK, eVar, hVar, hDisp, hNames, hE, eOp, eUn, eLk, cOp, cOpH, cOpV, cCh, cIsN, cNotN, vN, isN_n, isN_i, isN_b, isN_s, isN_l, isN_t, isN_d, List.isEmpty_cons, List.isEmpty_nil, eC, DI.tTru, truD, DI.tNot, DI.tAnd, DI.tOr, eAnd, eOr, eNot, eIf, aN, aC, eLst, eTup, eDict0, eCall, rC, eSl, oS, oN, oCut, iE, iRg_app, DI.iEnum, vC, uName, uTwo, oIsi, isiD, oLen, oLt, oLe, oGt, oGe, oAdd_ii, and_self, and_true, true_and, Int.toNat_natCast, decide_true, decide_false, Int.reduceAdd, Int.reduceSub, Bool.false_or, Bool.true_or, Bool.or_true, oSub, oInt, oList, eL, eIxV, oIxL, eIx_app, tT, eLRg, eMaxD, sWp, eCallM, eCallK, List.map_cons, List.map_nil, List.cons_append, List.nil_append, List.length_cons, List.length_nil, Nat.reduceAdd, Nat.reduceSub, List.reduceReplicate, set_z, set_s, get_z, get_s, ite_t, ite_f, if_true, if_false, reduceIte, Option.map_some, Option.map_none, Bool.not_true, Bool.not_false, Bool.false_eq_true, wp_eq, wpA_nil, wpA_cons, List.contains_cons, List.contains_nil, Bool.or_false, Nat.reduceBEq, Int.reduceNeg, Int.cast_ofNat_Int, atI_0, atI_1, atI_2, ix3_0, ix3_1, encL_len, intsL_len, natsL_len, List.length_map])
local macro_rules | `(tactic| walk_at "ev*") => `(tactic| simp only [runD, runM, startC, startCM, sSeq, sIf, sRet, sRetV, sSet, sSetL, sExpr, sRaise, sFor, sNil, sTwo, sStar, sPar, sPut, sApp, sAug, sPass, sCont, sBrk, sWhile, sQ, q, Re.q, Re.k, Re.kd, Re.da, Re.bd, rO, eK, eVar, hVar, hDisp, hNames, hE, eOp, eUn, eLk, cOp, cOpH, cOpV, cCh, cIsN, cNotN, vN, isN_n, isN_i, isN_b, isN_s, isN_l, isN_t, isN_d, List.isEmpty_cons, List.isEmpty_nil, eC, DI.tTru, truD, DI.tNot, DI.tAnd, DI.tOr, eAnd, eOr, eNot, eIf, aN, aC, eLst, eTup, eDict0, eCall, rC, eSl, oS, oN, oCut, iE, iRg_app, DI.iEnum, vC, uName, uTwo, oIsi, isiD, oLen, oLt, oLe, oGt, oGe, oAdd_ii, and_self, and_true, true_and, Int.toNat_natCast, decide_true, decide_false, Int.reduceAdd, Int.reduceSub, Bool.false_or, Bool.true_or, Bool.or_true, oSub, oInt, oList, eL, eIxV, oIxL, eIx_app, tT, eLRg, eMaxD, sWp, eCallM, eCallK, List.map_cons, List.map_nil, List.cons_append, List.nil_append, List.length_cons, List.length_nil, Nat.reduceAdd, Nat.reduceSub, List.reduceReplicate, set_z, set_s, get_z, get_s, ite_t, ite_f, if_true, if_false, reduceIte, Option.map_some, Option.map_none, Bool.not_true, Bool.not_false, Bool.false_eq_true, wp_eq, wpA_nil, wpA_cons, List.contains_cons, List.contains_nil, Bool.or_false, Nat.reduceBEq, Int.reduceNeg, Int.cast_ofNat_Int, atI_0, atI_1, atI_2, ix3_0, ix3_1, encL_len, intsL_len, natsL_len, List.length_map, *])
local macro_rules | `(tactic| walk_at "ev st") => `(tactic| (apply sq_nx; focus (walk_at "ev*"; exact rfl)))
local macro_rules | `(tactic| walk_at "ev end") => `(tactic| (walk_at "ev*"; try exact rfl))
theorem str_of_tl {x y : Str} (h : x.cps.toList = y.cps.toList) : x = y := by
  cases x; cases y
  simp only at h
  congr
  exact Array.toList_inj.mp h
theorem is_number {n : Int} (hn : n.natAbs < 10 ^ 30) : d__is_number [.str (tI n)] = .ok (.d (.bool true)) := by
  have ln : (tI n).length ≤ 31 := tI_len hn
  have num := isNum_tI n
  have rp := remp_tl (tI n)
  have lr := rmD_len (tl (tI n))
  have ltl : (tl (tI n)).length = (tI n).length := by simp [tl, Str.length]
  generalize hx : tI n = x at *
  generalize hy : Txt.removeprefix x dash = y at *
  have op : oRemp (.str x) (.str "-") = some (.d (.str y)) := by
    show gI _ _ = _
    unfold gI
    rw [if_pos (by omega), show ((("-" : String)) : Str) = dash from dash_is, hy]
  unfold isNumL at num
  simp only [Bool.and_eq_true, Bool.or_eq_true, Bool.not_eq_true', decide_eq_true_eq, decide_eq_false_iff_not] at num
  obtain ⟨⟨n1, n2⟩, n3⟩ := num
  rw [← rp] at n1 n2 n3 lr
  have ly : y.length = (tl y).length := by simp [tl, Str.length]
  obtain ⟨c, r, hc⟩ : ∃ c r, tl y = c :: r := by
    cases h : tl y with
    | nil => rw [h] at n1; cases n1
    | cons c r => exact ⟨c, r, rfl⟩
  have ylen : y.length ≤ 31 := by omega
  have ypos : 0 < y.length := by rw [ly, hc]; exact Nat.zero_lt_succ _
  have tr : gI (y.length ≤ 100000) (some (decide (0 < y.length))) = some true := by
    unfold gI
    rw [if_pos (by omega), decide_eq_true ypos]
  have lc : eLc 3 [2] (uName 2) (iE (eVar 1)) (tT) (eC (cOpH oIn (eVar 2) (hE (eK (.str "0123456789"))))) [.va (.str x), .va (.str y), .no] = .ok ((tl y).map fun _ => PyData.bool true) [.va (.str x), .va (.str y), .no] := by
    refine eLc_of (its := signsD y) (s1 := [.va (.str x), .va (.str y), .no]) (by clear tr op n1 n2 n3 hx hy; walk_at "ev*") ?_ rfl (by
      have : (signsD y).length = (tl y).length := by unfold signsD; rw [List.length_map]
      omega)
    have e : wipeC [2] [.va (.str x), .va (.str y), .no] = [.va (.str x), .va (.str y), .no] := by walk_at "ev"
    rw [e]
    refine lcL_pureM (fun c : Nat => PyData.str ⟨#[c]⟩) (fun _ => PyData.bool true) (xs := tl y) fun c hc2 => ?_
    have dg : oIn (.str ⟨#[c]⟩) (.str "0123456789") = some true := by
      show some (decide (c ∈ (("0123456789" : String) : Str).cps.toList)) = _
      rw [digits_mem c, List.all_eq_true.mp n2 c hc2]
    clear tr op n1 n2 n3 hx hy e rp lr ltl ln
    refine ⟨[.va (.str x), .va (.str y), .va (.str ⟨#[c]⟩)], rfl, rfl, ⟨_, ?_, .inl rfl⟩, ?_⟩ <;> walk_at "ev*"
  have al : oAll (.list ((tl y).map fun _ => PyData.bool true)) = some (.d (.bool true)) := by
    have : ((tl y).map fun _ => PyData.bool true) = ((tl y).map fun _ => true).map PyData.bool := by rw [List.map_map]; rfl
    rw [this]
    show (boolsOf _).map _ = _
    rw [boolsOf_map]
    show some (Vl.d (.bool _)) = _
    congr 3
    rw [List.all_eq_true]
    intro b hb
    obtain ⟨_, _, rfl⟩ := List.mem_map.mp hb
    rfl
  have ix : oIx (.str y) (.int 0) = some (.d (.str ⟨#[c]⟩)) := by
    show gI _ _ = _
    unfold gI
    rw [if_pos (by omega)]
    show (L2.atI (tl y) 0).map _ = _
    rw [hc, atI_0]
    rfl
  have q1 : oNe (.str ⟨#[c]⟩) (.str "0") = some (!decide ((⟨#[c]⟩ : Str) = "0")) := oNe_ss
  have q2 : oEq (.str x) (.str "0") = some (decide (x = "0")) := oEq_ss
  have z0 : (("0" : String) : Str) = ⟨#[48]⟩ := by decide +kernel
  have fin : (!decide ((⟨#[c]⟩ : Str) = "0")) = true ∨ decide (x = (("0" : String) : Str)) = true := by
    rcases n3 with n3 | n3
    · left
      rw [hc] at n3
      rw [decide_eq_false (fun e => ?_)]
      · rfl
      · rw [z0] at e
        have : c = 48 := by injection e with e; injection e with e; injection e
        exact n3 (by rw [this]; rfl)
    · right
      rw [decide_eq_true]
      rw [z0]
      exact str_of_tl n3
  generalize (!decide ((⟨#[c]⟩ : Str) = "0")) = k1 at q1 fin
  generalize decide (x = (("0" : String) : Str)) = k2 at q2 fin
  clear n1 n2 n3 hx hy rp lr ltl ln ypos ylen ly hc z0
  rcases fin with rfl | rfl
  · apply runD_rt (hl := by rfl)
    unfold b__is_number
    walk_at "ev st"
    walk_at "ev st"
    walk_at "ev end"
  · cases k1
    · apply runD_rt (hl := by rfl)
      unfold b__is_number
      walk_at "ev st"
      walk_at "ev st"
      walk_at "ev end"
    · apply runD_rt (hl := by rfl)
      unfold b__is_number
      walk_at "ev st"
      walk_at "ev st"
      walk_at "ev end"
theorem format_values {ns : List Int} (ok : numOk ns) : d_format_values [intsD ns] = .ok (.d (.str (txV ns))) := by
  have e1 := check_values_ok ok.1
  have hlen : (intsL ns).length ≤ 100000 := by rw [intsL_len]; have := ok.1; omega
  have lc : eLc 2 [1] (uName 1) (iE (eVar 0)) (tT) (eUn oStr (eVar 1)) [.va (intsD ns), .no] = .ok ((ns.map tI).map PyData.str) [.va (intsD ns), .no] := by
    refine eLc_of (its := intsL ns) (s1 := [.va (intsD ns), .no]) (by clear e1; walk_at "ev*") ?_ rfl hlen
    have e : wipeC [1] [.va (intsD ns), .no] = [.va (intsD ns), .no] := by walk_at "ev"
    rw [e, List.map_map]
    refine lcL_pureM PyData.int (fun n => PyData.str (tI n)) fun n hn => ?_
    have w1 := str_int (ok.2 n hn)
    clear e1 e hlen hn ok
    refine ⟨[.va (intsD ns), .va (.int n)], rfl, rfl, ⟨_, ?_, .inl rfl⟩, ?_⟩ <;> walk_at "ev*"
  have hj : oJoin (.str " ") (.list ((ns.map tI).map PyData.str)) = some (.d (.str (txV ns))) := by
    show (strsOf _).bind _ = _
    rw [strsOf_map]
    show gI _ _ = _
    unfold gI
    have q := joinLen ok
    rw [if_pos (Nat.le_trans q (by decide))]
    rfl
  clear hlen ok
  apply runD_rt (hl := by rfl)
  unfold b_format_values
  walk_at "ev st"
  simp only [sRet, q, eJoin]
  walk_at "ev*"
  rfl
end G60
namespace G60
open PySem PyProof.Rows DL LamX DI DC DM MT KT TL
local macro_rules | `(tactic| walk_at "ev") => `(tactic| simp only [runD, runM, startC, startCM, sSeq, sIf, sRet, sRetV, sSet, sSetL, sExpr, sRaise, sFor, sNil, sTwo, sStar, sPar, sPut, sApp, sAug, sPass, sCont, sBrk, sWhile, sQ, q, Re.q, Re.k, Re.kd, Re.da, Re.bd, rO, eK, eVar, hVar, hDisp, hNames, hE, eOp, eUn, eLk, cOp, cOpH, cOpV, cCh, cIsN, cNotN, vN, isN_n, isN_i, isN_b, isN_s, isN_l, isN_t, isN_d, List.isEmpty_cons, List.isEmpty_nil, eC, DI.tTru, truD, DI.tNot, DI.tAnd, DI.tOr, eAnd, eOr, eNot, eIf, aN, aC, eLst, eTup, eDict0, eCall, rC, eSl, oS, oN, oCut, iE, iRg_app, DI.iEnum, vC, uName, uTwo, oIsi, isiD, oLen, oLt, oLe, oGt, oGe, oAdd_ii, and_self, and_true, true_and, Int.toNat_natCast, decide_true, decide_false, Int.reduceAdd, Int.reduceSub, Bool.false_or, Bool.true_or, Bool.or_true, oSub, oInt, oList, eL, eIxV, oIxL, eIx_app, tT, eLRg, eMaxD, sWp, eCallM, eCallK, List.map_cons, List.map_nil, List.cons_append, List.nil_append, List.length_cons, List.length_nil, Nat.reduceAdd, Nat.reduceSub, List.reduceReplicate, set_z, set_s, get_z, get_s, ite_t, ite_f, if_true, if_false, reduceIte, Option.map_some, Option.map_none, Bool.not_true, Bool.not_false, Bool.false_eq_true, wp_eq, wpA_nil, wpA_cons, List.contains_cons, List.contains_nil, Bool.or_false, Nat.reduceBEq, Int.reduceNeg, Int.cast_ofNat_Int, atI_0, atI_1, atI_2, ix3_0, ix3_1, encL_len, intsL_len, natsL_len, List.length_map])
local macro_rules | `(tactic| walk_at "ev*") => `(tactic| simp only [runD, runM, startC, startCM, sSeq, sIf, sRet, sRetV, sSet, sSetL, sExpr, sRaise, sFor, sNil, sTwo, sStar, sPar, sPut, sApp, sAug, sPass, sCont, sBrk, sWhile, sQ, q, Re.q, Re.k, Re.kd, Re.da, Re.bd, rO, eK, eVar, hVar, hDisp, hNames, hE, eOp, eUn, eLk, cOp, cOpH, cOpV, cCh, cIsN, cNotN, vN, isN_n, isN_i, isN_b, isN_s, isN_l, isN_t, isN_d, List.isEmpty_cons, List.isEmpty_nil, eC, DI.tTru, truD, DI.tNot, DI.tAnd, DI.tOr, eAnd, eOr, eNot, eIf, aN, aC, eLst, eTup, eDict0, eCall, rC, eSl, oS, oN, oCut, iE, iRg_app, DI.iEnum, vC, uName, uTwo, oIsi, isiD, oLen, oLt, oLe, oGt, oGe, oAdd_ii, and_self, and_true, true_and, Int.toNat_natCast, decide_true, decide_false, Int.reduceAdd, Int.reduceSub, Bool.false_or, Bool.true_or, Bool.or_true, oSub, oInt, oList, eL, eIxV, oIxL, eIx_app, tT, eLRg, eMaxD, sWp, eCallM, eCallK, List.map_cons, List.map_nil, List.cons_append, List.nil_append, List.length_cons, List.length_nil, Nat.reduceAdd, Nat.reduceSub, List.reduceReplicate, set_z, set_s, get_z, get_s, ite_t, ite_f, if_true, if_false, reduceIte, Option.map_some, Option.map_none, Bool.not_true, Bool.not_false, Bool.false_eq_true, wp_eq, wpA_nil, wpA_cons, List.contains_cons, List.contains_nil, Bool.or_false, Nat.reduceBEq, Int.reduceNeg, Int.cast_ofNat_Int, atI_0, atI_1, atI_2, ix3_0, ix3_1, encL_len, intsL_len, natsL_len, List.length_map, *])
local macro_rules | `(tactic| walk_at "ev st") => `(tactic| (apply sq_nx; focus (walk_at "ev*"; exact rfl)))
local macro_rules | `(tactic| walk_at "ev end") => `(tactic| (walk_at "ev*"; try exact rfl))
theorem txV_pos {ns : List Int} (h : ns ≠ []) : 0 < (txV ns).length := by
  cases ns with
  | nil => exact absurd rfl h
  | cons n ns =>
    have e : tl (txV (n :: ns)) ≠ [] := by
      unfold txV
      rw [tl_txj]
      exact joinL_pos (tI_pos n)
    exact Nat.pos_of_ne_zero fun z => e (List.length_eq_zero_iff.mp (by
      have : (tl (txV (n :: ns))).length = (txV (n :: ns)).length := by simp [tl, Str.length]
      rw [this]
      exact z))
theorem parse_values {ns : List Int} (ok : numOk ns) : d_parse_values [.str (txV ns)] = .ok (.l (intsL ns)) := by
  have hl : ns.length ≤ 60 := ok.1
  have ln := txV_len ok
  have nl : oIn (.str "\n") (.str (txV ns)) = some false := by
    have e : (("\n" : String) : Str) = ⟨#[10]⟩ := nl_is
    rw [e]
    show some (decide ((10 : Nat) ∈ tl (txV ns))) = _
    rw [decide_eq_false (txV_line ns)]
  obtain ⟨k, tr, sp⟩ : ∃ k, gI ((txV ns).length ≤ 100000) (some (decide (0 < (txV ns).length))) = some k ∧ (if k = true then oSplit (.str (txV ns)) (.str " ") = some (.l ((ns.map tI).map PyData.str)) else (ns.map tI).map PyData.str = []) := by
    by_cases h : ns = []
    · subst h
      refine ⟨false, ?_, rfl⟩
      decide +kernel
    · refine ⟨true, ?_, ?_⟩
      · unfold gI
        rw [if_pos (by omega), decide_eq_true (txV_pos h)]
      · show gI _ _ = _
        unfold gI
        rw [if_pos ⟨by decide +kernel, by omega⟩, txV_split h]
  have len : ((ns.map tI).map PyData.str).length = ns.length := by rw [List.length_map, List.length_map]
  have mm : (ns.map tI).map PyData.str = ns.map fun n => PyData.str (tI n) := by rw [List.map_map]; rfl
  have lc1 : eLc 3 [2] (uName 2) (iE (eVar 1)) (tT) (eCall d__is_number (aC (eVar 2) (aN))) [.va (.str (txV ns)), .ow ((ns.map tI).map PyData.str), .no] = .ok (ns.map fun _ => PyData.bool true) [.va (.str (txV ns)), .va (.list ((ns.map tI).map PyData.str)), .no] := by
    refine eLc_of (its := (ns.map tI).map PyData.str) (s1 := [.va (.str (txV ns)), .va (.list ((ns.map tI).map PyData.str)), .no]) (by clear sp tr nl len mm; walk_at "ev*") ?_ rfl (by rw [len]; omega)
    have e : wipeC [2] [.va (.str (txV ns)), .va (.list ((ns.map tI).map PyData.str)), .no] = [.va (.str (txV ns)), .va (.list ((ns.map tI).map PyData.str)), .no] := by walk_at "ev"
    rw [e]
    generalize hL : (PyData.list ((ns.map tI).map PyData.str)) = LL
    rw [mm]
    refine lcL_pureM (fun n : Int => PyData.str (tI n)) (fun _ => PyData.bool true) fun n hn => ?_
    have w1 := is_number (ok.2 n hn)
    clear e hn sp tr nl len mm ok ln hl hL
    generalize txV ns = T
    refine ⟨[.va (.str T), .va LL, .va (.str (tI n))], rfl, rfl, ⟨_, ?_, .inl rfl⟩, ?_⟩ <;> walk_at "ev*"
  have lc2 : eLc 3 [2] (uName 2) (iE (eVar 1)) (tT) (eUn oInt (eVar 2)) [.va (.str (txV ns)), .va (.list ((ns.map tI).map PyData.str)), .no] = .ok (intsL ns) [.va (.str (txV ns)), .va (.list ((ns.map tI).map PyData.str)), .no] := by
    refine eLc_of (its := (ns.map tI).map PyData.str) (s1 := [.va (.str (txV ns)), .va (.list ((ns.map tI).map PyData.str)), .no]) (by clear sp tr nl len mm lc1; walk_at "ev*") ?_ rfl (by rw [len]; omega)
    have e : wipeC [2] [.va (.str (txV ns)), .va (.list ((ns.map tI).map PyData.str)), .no] = [.va (.str (txV ns)), .va (.list ((ns.map tI).map PyData.str)), .no] := by walk_at "ev"
    rw [e]
    generalize hL : (PyData.list ((ns.map tI).map PyData.str)) = LL
    rw [mm]
    refine lcL_pureM (fun n : Int => PyData.str (tI n)) PyData.int fun n hn => ?_
    have w1 : oInt (.str (tI n)) = some (.d (.int n)) := by
      show gI _ _ = _
      unfold gI
      have := tI_len (ok.2 n hn)
      rw [if_pos (by omega), tI_reads (ok.2 n hn)]
      rfl
    clear e hn sp tr nl len mm ok ln hl hL lc1
    generalize txV ns = T
    refine ⟨[.va (.str T), .va LL, .va (.str (tI n))], rfl, rfl, ⟨_, ?_, .inl rfl⟩, ?_⟩ <;> simp only [eUn, eVar, get_s, get_z, Re.da, rO, w1, wp_eq, wpA_nil, wpA_cons, List.contains_cons, List.contains_nil, Bool.or_false, Nat.reduceBEq, Nat.reduceAdd, Bool.false_eq_true, if_false, if_true, reduceIte]
  have al : oAll (.list (ns.map fun _ => PyData.bool true)) = some (.d (.bool true)) := by
    have : (ns.map fun _ => PyData.bool true) = (ns.map fun _ => true).map PyData.bool := by rw [List.map_map]; rfl
    rw [this]
    show (boolsOf _).map _ = _
    rw [boolsOf_map]
    show some (Vl.d (.bool _)) = _
    congr 3
    rw [List.all_eq_true]
    intro b hb
    obtain ⟨_, _, rfl⟩ := List.mem_map.mp hb
    rfl
  have gt : decide ((60 : Int) < (ns.length : Int)) = false := decide_eq_false (by omega)
  have st2 : sSet 1 (q (eIf (DI.tTru (hVar 0)) (eOp oSplit (eVar 0) (eK (.str " "))) (eLst (aN)))) [.va (.str (txV ns)), .no, .no] = .nx [.va (.str (txV ns)), .ow ((ns.map tI).map PyData.str), .no] := by
    clear lc1 lc2 al nl mm
    cases k with
    | true =>
      simp only [if_true] at sp
      walk_at "ev*"
    | false =>
      simp only [Bool.false_eq_true, if_false] at sp
      rw [sp]
      clear sp len
      walk_at "ev*"
  generalize ((ns.map tI).map PyData.str) = LS at lc1 lc2 st2 len
  generalize (ns.map fun _ => PyData.bool true) = BS at lc1 al
  clear sp tr ok ln mm hl
  apply runD_rt (hl := by rfl)
  unfold b_parse_values
  apply sq_nx (s1 := [.va (.str (txV ns)), .no, .no])
  · clear lc1 lc2 st2
    walk_at "ev*"
  refine sq_nx st2 ?_
  apply sq_nx (s1 := [.va (.str (txV ns)), .va (.list LS), .no])
  · clear lc2 st2
    walk_at "ev*"
  walk_at "ev end"
end G60
namespace G60
open PySem PyProof.Rows DL LamX DI DC DM MT KT TL
local macro_rules | `(tactic| walk_at "ev") => `(tactic| simp only [runD, runM, startC, startCM, sSeq, sIf, sRet, sRetV, sSet, sSetL, sExpr, sRaise, sFor, sNil, sTwo, sStar, sPar, sPut, sApp, sAug, sPass, sCont, sBrk, sWhile, sQ, q, Re.q, Re.k, Re.kd, Re.da, Re.bd, rO, eK, eVar, hVar, hDisp, hNames, hE, eOp, eUn, eLk, cOp, cOpH, cOpV, cCh, cIsN, cNotN, vN, isN_n, isN_i, isN_b, isN_s, isN_l, isN_t, isN_d, List.isEmpty_cons, List.isEmpty_nil, eC, DI.tTru, truD, DI.tNot, DI.tAnd, DI.tOr, eAnd, eOr, eNot, eIf, aN, aC, eLst, eTup, eDict0, eCall, rC, eSl, oS, oN, oCut, iE, iRg_app, DI.iEnum, vC, uName, uTwo, oIsi, isiD, oLen, oLt, oLe, oGt, oGe, oAdd_ii, and_self, and_true, true_and, Int.toNat_natCast, decide_true, decide_false, Int.reduceAdd, Int.reduceSub, Bool.false_or, Bool.true_or, Bool.or_true, oSub, oInt, oList, eL, eIxV, oIxL, eIx_app, tT, eLRg, eMaxD, sWp, eCallM, eCallK, List.map_cons, List.map_nil, List.cons_append, List.nil_append, List.length_cons, List.length_nil, Nat.reduceAdd, Nat.reduceSub, List.reduceReplicate, set_z, set_s, get_z, get_s, ite_t, ite_f, if_true, if_false, reduceIte, Option.map_some, Option.map_none, Bool.not_true, Bool.not_false, Bool.false_eq_true, wp_eq, wpA_nil, wpA_cons, List.contains_cons, List.contains_nil, Bool.or_false, Nat.reduceBEq, Int.reduceNeg, Int.cast_ofNat_Int, atI_0, atI_1, atI_2, ix3_0, ix3_1, encL_len, intsL_len, natsL_len, List.length_map])
local macro_rules | `(tactic| walk_at "ev*") => `(tactic| simp only [runD, runM, startC, startCM, sSeq, sIf, sRet, sRetV, sSet, sSetL, sExpr, sRaise, sFor, sNil, sTwo, sStar, sPar, sPut, sApp, sAug, sPass, sCont, sBrk, sWhile, sQ, q, Re.q, Re.k, Re.kd, Re.da, Re.bd, rO, eK, eVar, hVar, hDisp, hNames, hE, eOp, eUn, eLk, cOp, cOpH, cOpV, cCh, cIsN, cNotN, vN, isN_n, isN_i, isN_b, isN_s, isN_l, isN_t, isN_d, List.isEmpty_cons, List.isEmpty_nil, eC, DI.tTru, truD, DI.tNot, DI.tAnd, DI.tOr, eAnd, eOr, eNot, eIf, aN, aC, eLst, eTup, eDict0, eCall, rC, eSl, oS, oN, oCut, iE, iRg_app, DI.iEnum, vC, uName, uTwo, oIsi, isiD, oLen, oLt, oLe, oGt, oGe, oAdd_ii, and_self, and_true, true_and, Int.toNat_natCast, decide_true, decide_false, Int.reduceAdd, Int.reduceSub, Bool.false_or, Bool.true_or, Bool.or_true, oSub, oInt, oList, eL, eIxV, oIxL, eIx_app, tT, eLRg, eMaxD, sWp, eCallM, eCallK, List.map_cons, List.map_nil, List.cons_append, List.nil_append, List.length_cons, List.length_nil, Nat.reduceAdd, Nat.reduceSub, List.reduceReplicate, set_z, set_s, get_z, get_s, ite_t, ite_f, if_true, if_false, reduceIte, Option.map_some, Option.map_none, Bool.not_true, Bool.not_false, Bool.false_eq_true, wp_eq, wpA_nil, wpA_cons, List.contains_cons, List.contains_nil, Bool.or_false, Nat.reduceBEq, Int.reduceNeg, Int.cast_ofNat_Int, atI_0, atI_1, atI_2, ix3_0, ix3_1, encL_len, intsL_len, natsL_len, List.length_map, *])
local macro_rules | `(tactic| walk_at "ev st") => `(tactic| (apply sq_nx; focus (walk_at "ev*"; exact rfl)))
local macro_rules | `(tactic| walk_at "ev end") => `(tactic| (walk_at "ev*"; try exact rfl))
def okN (n : Nat) (e : Option Nat) : Prop := ∀ m, e = some m → m < n
theorem pick_step {ls two : List PyData} {size : Nat} {nn : Int} {n : Nat} {a b c d e : Ce} (h : DrOk n ls) (hn : n ≤ 1000000) (hs : 0 < size) (hnn : 0 < nn) (ht : two.length < 10) : ∃ ls' x v, sQ (sSeq (sSet 8 (q (eUn oInt (eCallM d__law_next 0 (aN))))) (sApp 6 (eIf (cOpH oEq (eOp oMod (eUn oInt (eVar 8)) (eVar 3)) (hE (eK (.int 0)))) (eK .none) (eOp oMod (eUn oInt (eOp oDiv (eVar 8) (eK (.int 64)))) (eVar 2))))) [.ow ls, a, .va (.int (size : Int)), .va (.int nn), b, c, .ow two, d, e] =
    .nx [.ow ls', a, .va (.int (size : Int)), .va (.int nn), b, c, .ow (two ++ [encE x]), d, .va (.int v)] ∧ DrOk (n + 1) ls' ∧ okN size x := by
  obtain ⟨v, ls', e1, e2, h0, h1⟩ := next_ok h hn
  have m1 := oMod_i (m := v) hnn
  have m2 := oDiv_i (m := v) (n := 64) (by decide) (by decide)
  have m3 := oMod_i (m := v / 64) (n := (size : Int)) (by omega)
  have hl : two.length < 100000 := by omega
  have m4 : oEq (.int (v % nn)) (.int 0) = some (decide (v % nn = 0)) := rfl
  clear h hn ht
  by_cases g : v % nn = 0
  · refine ⟨ls', none, v, ?_, e2, fun m e => (nomatch e)⟩
    rw [decide_eq_true g] at m4
    clear g
    walk_at "ev*"
    rfl
  · have hlt : v / 64 % (size : Int) = ((v / 64 % (size : Int)).toNat : Int) := by
      rw [Int.toNat_of_nonneg (Int.emod_nonneg _ (by omega))]
    refine ⟨ls', some (v / 64 % (size : Int)).toNat, v, ?_, e2, fun m e => ?_⟩
    · rw [decide_eq_false g] at m4
      have ee : encE (some (v / 64 % (size : Int)).toNat) = .int (v / 64 % (size : Int)) := by
        show PyData.int _ = _
        rw [← hlt]
      rw [ee]
      clear g ee hlt
      walk_at "ev*"
    · cases e
      have := Int.emod_lt_of_pos (v / 64) (show (0 : Int) < (size : Int) by omega)
      omega
theorem four {w : Int} {a b c d : Int} : ∃ x, oIx (.list [.int a, .int b, .int c, .int d]) (.int (w % 4)) = some (.d (.int x)) ∧ (x = a ∨ x = b ∨ x = c ∨ x = d) := by
  have h1 := Int.emod_nonneg w (show (4 : Int) ≠ 0 by decide)
  have h2 := Int.emod_lt_of_pos w (show (0 : Int) < 4 by decide)
  generalize w % 4 = r at h1 h2
  have : r = 0 ∨ r = 1 ∨ r = 2 ∨ r = 3 := by omega
  rcases this with rfl | rfl | rfl | rfl
  · exact ⟨a, rfl, .inl rfl⟩
  · exact ⟨b, rfl, .inr (.inl rfl)⟩
  · exact ⟨c, rfl, .inr (.inr (.inl rfl))⟩
  · exact ⟨d, rfl, .inr (.inr (.inr rfl))⟩
theorem law_plan {n : Nat} {ls : List PyData} (h : DrOk n ls) (hn : n ≤ 900000) : ∃ pl ls', d__law_plan ls [.int 12] = .ok (.l (encL pl)) ls' ∧ DrOk (n + 26) ls' ∧ OkP pl := by
  obtain ⟨v, ls1, a1, a2, a3, a4⟩ := next_ok h
  obtain ⟨w, ls2, b1, b2, b3, b4⟩ := next_ok a2
  have m1 := oMod_i (m := v) (n := 13) (by decide)
  have m2 := oMod_i (m := w) (n := 4) (by decide)
  obtain ⟨nn, m3, m4⟩ := four (w := w) (a := 2) (b := 4) (c := 8) (d := 1000000)
  have hnn : 0 < nn := by omega
  have p6 := pow6
  have hs1 := Int.emod_nonneg v (show (13 : Int) ≠ 0 by decide)
  have hs2 := Int.emod_lt_of_pos v (show (0 : Int) < 13 by decide)
  obtain ⟨size, hsz⟩ : ∃ size : Nat, v % 13 = (size : Int) := ⟨(v % 13).toNat, by omega⟩
  have hsize : size ≤ 12 := by omega
  rw [hsz] at m1
  have r2 : ∀ s, iRgD (.int 2) s = .ok [.int 0, .int 1] s := rg_ok (n := 2) (by decide)
  have r1 := rg_ok (n := size) (by omega)
  have F := forL_inv (u := uName 5) (b := sQ (sSeq (sSet 6 (q (eLst (aN)))) (sSeq (sFor (uName 7) (iRg (eK (.int 2))) (sQ (sSeq (sSet 8 (q (eUn oInt (eCallM d__law_next 0 (aN))))) (sApp 6 (eIf (cOpH oEq (eOp oMod (eUn oInt (eVar 8)) (eVar 3)) (hE (eK (.int 0)))) (eK .none) (eOp oMod (eUn oInt (eOp oDiv (eVar 8) (eK (.int 64)))) (eVar 2))))))) (sApp 4 (eTup (aC (eIxV 6 (eK (.int 0))) (aC (eIxV 6 (eK (.int 1))) (aN)))))))) (its := (List.range size).map fun (i : Nat) => PyData.int (i : Int)) (i := 0) (s := [.ow ls2, .va (.int 12), .va (.int (size : Int)), .va (.int nn), .ow [], .no, .no, .no, .no])
    (fun i s => ∃ ls pl c5 c6 c7 c8, s = [.ow ls, .va (.int 12), .va (.int (size : Int)), .va (.int nn), .ow (encL pl), c5, c6, c7, c8] ∧ DrOk (n + 1 + 1 + 2 * i) ls ∧ pl.length = i ∧ ∀ t ∈ pl, okN size t.1 ∧ okN size t.2) ⟨ls2, [], _, _, _, _, rfl, b2, rfl, fun _ q => nomatch q⟩ (by
      rintro j d s hd ⟨ls, pl, c5, c6, c7, c8, rfl, g1, g2, g3⟩
      have hj : j < size := by
        have := (List.getElem?_eq_some_iff.mp hd).1
        simpa using this
      rw [Nat.zero_add] at g1 g2
      obtain ⟨ls3, x, v1, e1, e2, e3⟩ := pick_step (a := .va (.int 12)) (two := []) (size := size) (b := .ow (encL pl)) (c := .va d) (d := .va (.int 0)) (e := c8) g1 (by omega) (by omega) hnn (by decide)
      obtain ⟨ls4, y, v2, f1, f2, f3⟩ := pick_step (a := .va (.int 12)) (two := [encE x]) (size := size) (b := .ow (encL pl)) (c := .va d) (d := .va (.int 1)) (e := .va (.int v1)) e2 (by omega) (by omega) hnn (by show 1 < 10; decide)
      have e4 : encL (pl ++ [(x, y)]) = encL pl ++ [.tuple [encE x, encE y]] := by
        unfold encL
        rw [List.map_append]
        rfl
      have e5 : pl.length < 100000 := by omega
      refine ⟨_, [.ow ls4, .va (.int 12), .va (.int (size : Int)), .va (.int nn), .ow (encL (pl ++ [(x, y)])), .va d, .ow [encE x, encE y], .va (.int 1), .va (.int v2)], rfl, .inl ?_, ls4, pl ++ [(x, y)], _, _, _, _, rfl, f2.up (by omega), by rw [List.length_append, g2, List.length_singleton, Nat.zero_add], fun t ht => ?_⟩
      · rw [e4]
        clear e4 e2 e3 f2 f3 g1 g2 g3 hd m1 m2 m3 m4 a1 a2 b1 b2 h hn p6 r1 hsz hs1 hs2 a3 a4 b3 b4 hnn
        have lp : forL (uName 7) (sQ (sSeq (sSet 8 (q (eUn oInt (eCallM d__law_next 0 (aN))))) (sApp 6 (eIf (cOpH oEq (eOp oMod (eUn oInt (eVar 8)) (eVar 3)) (hE (eK (.int 0)))) (eK .none) (eOp oMod (eUn oInt (eOp oDiv (eVar 8) (eK (.int 64)))) (eVar 2)))))) [.int 0, .int 1] [.ow ls, .va (.int 12), .va (.int (size : Int)), .va (.int nn), .ow (encL pl), .va d, .ow [], c7, c8] = .nx [.ow ls4, .va (.int 12), .va (.int (size : Int)), .va (.int nn), .ow (encL pl), .va d, .ow [encE x, encE y], .va (.int 1), .va (.int v2)] :=
          (forL_nx rfl e1).trans ((forL_nx rfl f1).trans forL_nil)
        clear e1 f1
        walk_at "ev*"
      · rcases List.mem_append.mp ht with ht | ht
        · exact g3 t ht
        · rw [List.mem_singleton.mp ht]
          exact ⟨e3, f3⟩)
  obtain ⟨s', lp, ls9, pl, c5, c6, c7, c8, rfl, g1, g2, g3⟩ := F
  rw [List.length_map, List.length_range, Nat.zero_add] at g2
  rw [List.length_map, List.length_range, Nat.zero_add] at g1
  refine ⟨pl, ls9, ?_, g1.up (by omega), ⟨by omega, fun t ht => ?_⟩⟩
  · clear h hn a2 a3 a4 b2 b3 b4 m4 hnn hs1 hs2 hsize r2 g1 g2 g3 hsz
    apply runM_rt (hl := rfl)
    unfold b__law_plan
    walk_at "ev st"
    walk_at "ev st"
    walk_at "ev st"
    walk_at "ev st"
    walk_at "ev end"
  · unfold okE
    rw [g2]
    exact g3 t ht
theorem law_values {n : Nat} {ls : List PyData} (h : DrOk n ls) (hn : n ≤ 900000) : ∃ ns ls', d__law_values ls [.int 60] = .ok (.l (intsL ns)) ls' ∧ DrOk (n + 63) ls' ∧ ns.length ≤ 60 ∧ sml ns := by
  obtain ⟨v, ls1, a1, a2, a3, a4⟩ := next_ok h
  obtain ⟨w, ls2, b1, b2, b3, b4⟩ := next_ok a2
  obtain ⟨z, ls3, c1, c2, c3, c4⟩ := next_ok b2
  have m1 := oMod_i (m := v) (n := 4) (by decide)
  have m2 := oMod_i (m := w) (n := 4) (by decide)
  have m3 := oMod_i (m := z) (n := 61) (by decide)
  obtain ⟨kinds, i1, i2⟩ := four (w := v) (a := 2) (b := 4) (c := 9) (d := 60)
  obtain ⟨far, i3, i4⟩ := four (w := w) (a := 1) (b := 1) (c := 1) (d := 10 ^ 18)
  have hk : 0 < kinds ∧ kinds ≤ 60 := by omega
  have hf : 0 < far ∧ far ≤ 10 ^ 18 := by omega
  have p18 := pow18
  have hs1 := Int.emod_nonneg z (show (61 : Int) ≠ 0 by decide)
  have hs2 := Int.emod_lt_of_pos z (show (0 : Int) < 61 by decide)
  obtain ⟨size, hsz⟩ : ∃ size : Nat, z % 61 = (size : Int) := ⟨(z % 61).toNat, by omega⟩
  have hsize : size ≤ 60 := by omega
  rw [hsz] at m3
  have r1 := rg_ok (n := size) (by omega)
  obtain ⟨rs, s', lp, ls9, ns, rfl, g1, g2, g3, g4⟩ := lcL_inv (W := [4]) (u := uName 4) (t := tT) (e := eOp oMul (eOp oSub (eOp oMod (eUn oInt (eCallM d__law_next 0 (aN))) (eVar 2)) (eK (.int 3))) (eVar 3)) (its := (List.range size).map fun (i : Nat) => PyData.int (i : Int)) (i := 0) (s := [.ow ls3, .va (.int 60), .va (.int kinds), .va (.int far), .no]) (acc := [])
    (fun i s acc => ∃ ls ns, s = [.ow ls, .va (.int 60), .va (.int kinds), .va (.int far), .no] ∧ DrOk (n + 1 + 1 + 1 + i) ls ∧ acc = intsL ns ∧ ns.length = i ∧ sml ns) ⟨ls3, [], rfl, c2, rfl, rfl, fun _ q => nomatch q⟩ (by
      rintro j d s acc hd ⟨ls, ns, rfl, g1, rfl, g3, g4⟩
      have hj : j < size := by
        have := (List.getElem?_eq_some_iff.mp hd).1
        simpa using this
      rw [Nat.zero_add] at g1 g3
      obtain ⟨y, ls4, e1, e2, e3, e4⟩ := next_ok g1
      have k1 := oMod_i (m := y) hk.1
      have y1 := Int.emod_nonneg y (show kinds ≠ 0 by omega)
      have y2 := Int.emod_lt_of_pos y hk.1
      have k2 := oMul_i (m := y % kinds - 3) (n := far) (natAbs_lt (by omega) (by omega)) (natAbs_lt (by omega) (by omega))
      have hb : ((y % kinds - 3) * far).natAbs < 10 ^ 29 := by
        rw [Int.natAbs_mul]
        have q1 : (y % kinds - 3).natAbs ≤ 60 := by omega
        have q2 : far.natAbs ≤ 10 ^ 18 := by omega
        have := Nat.mul_le_mul q1 q2
        omega
      refine ⟨_, [.ow ls, .va (.int 60), .va (.int kinds), .va (.int far), .va d], .d (.int ((y % kinds - 3) * far)), _, [.ow ls4, .va (.int 60), .va (.int kinds), .va (.int far), .va d], rfl, rfl, ?_, .inl rfl, ls4, ns ++ [(y % kinds - 3) * far], ?_, e2.up (by omega), ?_, by rw [List.length_append, g3, List.length_singleton, Nat.zero_add], fun x hx => ?_⟩
      · clear g1 g3 g4 hd hb y1 y2 e2 e3 e4 a2 b2 c2 hk hf i2 i4 hs1 hs2 h hn
        walk_at "ev*"
      · walk_at "ev"
      · unfold intsL
        rw [List.map_append]
        rfl
      · rcases List.mem_append.mp hx with hx | hx
        · exact g4 x hx
        · rw [List.mem_singleton.mp hx]
          exact hb)
  rw [List.nil_append] at g2
  subst g2
  rw [List.length_map, List.length_range, Nat.zero_add] at g3
  rw [List.length_map, List.length_range, Nat.zero_add] at g1
  refine ⟨ns, ls9, ?_, g1.up (by omega), by omega, g4⟩
  have lc : eLc 5 [4] (uName 4) (iRg (eOp oMod (eUn oInt (eCallM d__law_next 0 (aN))) (eOp oAdd (eVar 1) (eK (.int 1))))) (tT) (eOp oMul (eOp oSub (eOp oMod (eUn oInt (eCallM d__law_next 0 (aN))) (eVar 2)) (eK (.int 3))) (eVar 3)) [.ow ls2, .va (.int 60), .va (.int kinds), .va (.int far), .no] = .ok (intsL ns) [.ow ls9, .va (.int 60), .va (.int kinds), .va (.int far), .no] := by
    refine eLc_of (its := (List.range size).map fun (i : Nat) => PyData.int (i : Int)) (s1 := [.ow ls3, .va (.int 60), .va (.int kinds), .va (.int far), .no]) ?_ ?_ rfl (by rw [List.length_map, List.length_range]; omega)
    · clear lp a2 b2 c2 hk hf i2 i4 hs1 hs2 h hn hsize g1 g3 g4
      walk_at "ev*"
    · have e : wipeC [4] [.ow ls3, .va (.int 60), .va (.int kinds), .va (.int far), .no] = [.ow ls3, .va (.int 60), .va (.int kinds), .va (.int far), .no] := by walk_at "ev"
      rw [e]
      exact lp
  clear lp a2 b2 c2 hk hf i2 i4 hs1 hs2 h hn hsize g1 g3 g4 r1 m3 c1 hsz
  apply runM_rt (hl := rfl)
  unfold b__law_values
  walk_at "ev st"
  walk_at "ev st"
  walk_at "ev end"
theorem str_word {n : Nat} (h : n < 1000) : oStr (.int (n : Int)) = some (.d (.str (wE (some n)))) := str_int (by omega)
theorem dash_w : (("-" : String) : Str) = wE none := dash_is
theorem line_loop {a0 a1 a2 a3 a7 a8 a9 a10 : Ce} : ∀ {pl : Plan} {ws : List PyData} {c5 c6 : Ce}, (∀ t ∈ pl, small t.1 ∧ small t.2) → ws.length + pl.length ≤ 100 →
    ∃ d5 d6, forL (uTwo 5 6) (sQ (sApp 4 (eOp oAdd (eOp oAdd (eIf (cIsN (eVar 5)) (eK (.str "-")) (eUn oStr (eVar 5))) (eK (.str " "))) (eIf (cIsN (eVar 6)) (eK (.str "-")) (eUn oStr (eVar 6)))))) (encL pl) [a0, a1, a2, a3, .ow ws, c5, c6, a7, a8, a9, a10] = .nx [a0, a1, a2, a3, .ow (ws ++ (pl.map lnT).map PyData.str), d5, d6, a7, a8, a9, a10]
  | [], ws, c5, c6, _, _ => ⟨c5, c6, by rw [List.map_nil, List.map_nil, List.append_nil]; rfl⟩
  | (a, b) :: pl, ws, c5, c6, h, hn => by
    obtain ⟨s1, s2⟩ := h (a, b) (List.mem_cons_self ..)
    simp only at s1 s2
    have l1 := wE_len s1
    have l2 := wE_len s2
    obtain ⟨d5, d6, ih⟩ := line_loop (a0 := a0) (a1 := a1) (a2 := a2) (a3 := a3) (a7 := a7) (a8 := a8) (a9 := a9) (a10 := a10) (pl := pl) (ws := ws ++ [.str (lnT (a, b))]) (c5 := .va (encE a)) (c6 := .va (encE b)) (fun t ht => h t (List.mem_cons_of_mem _ ht)) (by rw [List.length_append]; simp only [List.length_cons, List.length_nil] at hn ⊢; omega)
    refine ⟨d5, d6, ?_⟩
    rw [List.map_cons, List.map_cons, show ws ++ PyData.str (lnT (a, b)) :: (pl.map lnT).map PyData.str = ws ++ [.str (lnT (a, b))] ++ (pl.map lnT).map PyData.str by simp, ← ih]
    have u : uTwo 5 6 (encT (a, b)) [a0, a1, a2, a3, .ow ws, c5, c6, a7, a8, a9, a10] = some [a0, a1, a2, a3, .ow ws, .va (encE a), .va (encE b), a7, a8, a9, a10] := rfl
    refine forL_nx u ?_
    have g1 : oAdd (.str (wE a)) (.str " ") = some (.d (.str (wE a ++ (" " : Str)))) := by
      show gI _ _ = _
      unfold gI
      rw [if_pos (by show _ + 1 ≤ _; omega)]
    have g2 : oAdd (.str (wE a ++ (" " : Str))) (.str (wE b)) = some (.d (.str (lnT (a, b)))) := by
      show gI _ _ = _
      unfold gI
      rw [if_pos (by rw [app_len]; show _ + 1 + _ ≤ _; omega)]
      rfl
    have hw : ws.length < 100000 := by simp only [List.length_cons] at hn; omega
    have main : ∀ (b : Sm) (s s' : Sx), b s = .nx s' → sQ b s = .nx s' := fun b s s' h => by unfold sQ; rw [h]
    apply main
    clear main ih u l1 l2 hn h
    have dw := dash_w
    cases a with
    | none =>
      rw [← dw] at g1 g2
      have en : encE none = .none := rfl
      cases b with
      | none =>
        rw [← dw] at g2
        clear dw s1 s2
        walk_at "ev*"
      | some n =>
        have w2 := str_word (s2 n rfl)
        have e2 : encE (some n) = .int (n : Int) := rfl
        clear dw s1 s2
        walk_at "ev*"
    | some m =>
      have w1 := str_word (s1 m rfl)
      have e1 : encE (some m) = .int (m : Int) := rfl
      have en : encE none = .none := rfl
      cases b with
      | none =>
        rw [← dw] at g2
        clear dw s1 s2
        walk_at "ev*"
      | some n =>
        have w2 := str_word (s2 n rfl)
        have e2 : encE (some n) = .int (n : Int) := rfl
        clear dw s1 s2
        walk_at "ev*"
end G60
namespace G60
open PySem PyProof.Rows DL LamX DI DC DM MT KT TL
local macro_rules | `(tactic| walk_at "ev") => `(tactic| simp only [runD, runM, startC, startCM, sSeq, sIf, sRet, sRetV, sSet, sSetL, sExpr, sRaise, sFor, sNil, sTwo, sStar, sPar, sPut, sApp, sAug, sPass, sCont, sBrk, sWhile, sQ, q, Re.q, Re.k, Re.kd, Re.da, Re.bd, rO, eK, eVar, hVar, hDisp, hNames, hE, eOp, eUn, eLk, cOp, cOpH, cOpV, cCh, cIsN, cNotN, vN, isN_n, isN_i, isN_b, isN_s, isN_l, isN_t, isN_d, List.isEmpty_cons, List.isEmpty_nil, eC, DI.tTru, truD, DI.tNot, DI.tAnd, DI.tOr, eAnd, eOr, eNot, eIf, aN, aC, eLst, eTup, eJoin, eDict0, eCall, rC, eSl, oS, oN, oCut, iE, iRg_app, DI.iEnum, vC, uName, uTwo, oIsi, isiD, oLen, oLt, oLe, oGt, oGe, oAdd_ii, and_self, and_true, true_and, Int.toNat_natCast, decide_true, decide_false, Int.reduceAdd, Int.reduceSub, Bool.false_or, Bool.true_or, Bool.or_true, oSub, oInt, oList, eL, eIxV, oIxL, eIx_app, tT, eLRg, eMaxD, sWp, eCallM, eCallK, List.map_cons, List.map_nil, List.cons_append, List.nil_append, List.length_cons, List.length_nil, Nat.reduceAdd, Nat.reduceSub, List.reduceReplicate, set_z, set_s, get_z, get_s, ite_t, ite_f, if_true, if_false, reduceIte, Option.map_some, Option.map_none, Bool.not_true, Bool.not_false, Bool.false_eq_true, wp_eq, wpA_nil, wpA_cons, List.contains_cons, List.contains_nil, Bool.or_false, Nat.reduceBEq, Int.reduceNeg, Int.cast_ofNat_Int, atI_0, atI_1, atI_2, ix3_0, ix3_1, encL_len, intsL_len, natsL_len, List.length_map])
local macro_rules | `(tactic| walk_at "ev*") => `(tactic| simp only [runD, runM, startC, startCM, sSeq, sIf, sRet, sRetV, sSet, sSetL, sExpr, sRaise, sFor, sNil, sTwo, sStar, sPar, sPut, sApp, sAug, sPass, sCont, sBrk, sWhile, sQ, q, Re.q, Re.k, Re.kd, Re.da, Re.bd, rO, eK, eVar, hVar, hDisp, hNames, hE, eOp, eUn, eLk, cOp, cOpH, cOpV, cCh, cIsN, cNotN, vN, isN_n, isN_i, isN_b, isN_s, isN_l, isN_t, isN_d, List.isEmpty_cons, List.isEmpty_nil, eC, DI.tTru, truD, DI.tNot, DI.tAnd, DI.tOr, eAnd, eOr, eNot, eIf, aN, aC, eLst, eTup, eJoin, eDict0, eCall, rC, eSl, oS, oN, oCut, iE, iRg_app, DI.iEnum, vC, uName, uTwo, oIsi, isiD, oLen, oLt, oLe, oGt, oGe, oAdd_ii, and_self, and_true, true_and, Int.toNat_natCast, decide_true, decide_false, Int.reduceAdd, Int.reduceSub, Bool.false_or, Bool.true_or, Bool.or_true, oSub, oInt, oList, eL, eIxV, oIxL, eIx_app, tT, eLRg, eMaxD, sWp, eCallM, eCallK, List.map_cons, List.map_nil, List.cons_append, List.nil_append, List.length_cons, List.length_nil, Nat.reduceAdd, Nat.reduceSub, List.reduceReplicate, set_z, set_s, get_z, get_s, ite_t, ite_f, if_true, if_false, reduceIte, Option.map_some, Option.map_none, Bool.not_true, Bool.not_false, Bool.false_eq_true, wp_eq, wpA_nil, wpA_cons, List.contains_cons, List.contains_nil, Bool.or_false, Nat.reduceBEq, Int.reduceNeg, Int.cast_ofNat_Int, atI_0, atI_1, atI_2, ix3_0, ix3_1, encL_len, intsL_len, natsL_len, List.length_map, *])
local macro_rules | `(tactic| walk_at "ev st") => `(tactic| (apply sq_nx; focus (walk_at "ev*"; exact rfl)))
local macro_rules | `(tactic| walk_at "ev end") => `(tactic| (walk_at "ev*"; try exact rfl))
theorem join_plan {pl : Plan} (ok : OkP pl) : oJoin (.str "\n") (.list ((pl.map lnT).map PyData.str)) = some (.d (.str (txP pl))) := by
  show (strsOf _).bind _ = _
  rw [strsOf_map]
  show gI _ _ = _
  unfold gI
  have q := sum_len (ws := pl.map lnT) (b := 63) fun x hx => by
    obtain ⟨t, ht, rfl⟩ := List.mem_map.mp hx
    exact lnT_len (okP_small ok ht).1 (okP_small ok ht).2
  rw [List.length_map] at q
  have := ok.len
  rw [if_pos (by rw [List.length_map]; show _ + _ * 1 ≤ _; omega)]
  rfl
theorem join_vals {ns : List Int} (ok : numOk ns) : oJoin (.str " ") (.list ((ns.map tI).map PyData.str)) = some (.d (.str (txV ns))) := by
  show (strsOf _).bind _ = _
  rw [strsOf_map]
  show gI _ _ = _
  unfold gI
  have q := joinLen ok
  rw [if_pos (Nat.le_trans q (by decide))]
  rfl
theorem ne_two {x : Str} (h : low x) : oNe (.list [.str x, .str x]) (.list [.str x, .str x]) = some false := by
  show (oEqD _ _).map _ = _
  unfold oEqD gI
  rw [if_pos ⟨shaped_two h h, shaped_two h h⟩]
  simp [PyData.eqv, PyData.eqvAll]
theorem eqv_encL : ∀ pl : Plan, PyData.eqvAll (encL pl) (encL pl) = true
  | [] => rfl
  | (a, b) :: pl => by
    have ih := eqv_encL pl
    unfold encL at ih ⊢
    rw [List.map_cons]
    cases a <;> cases b <;> simp [PyData.eqvAll, PyData.eqv, encT, encE, ih]
theorem ne_plan {pl : Plan} (ok : OkP pl) : oNe (encP pl) (encP pl) = some false := by
  unfold oNe
  rw [oEq_list (ds_plan ok) (by decide) (ds_plan ok) (by decide)]
  simp only [PyData.eqv, eqv_encL]
  rfl
theorem permL_0 {a : PyData} : permL [0] [a] = [a] := rfl
theorem law_right {n : Nat} {ls : List PyData} (h : DrOk n ls) (hn : n ≤ 800000) : ∃ ls', d__law_right ls [] = .ok (.d (.bool true)) ls' ∧ DrOk (n + 100) ls' := by
  obtain ⟨pl, ls1, p1, p2, ok⟩ := law_plan h (by omega)
  obtain ⟨vs, ls2, v1, v2, hl, hs⟩ := law_values p2 (by omega)
  have nk : numOk vs := ⟨hl, fun x hx => by have := hs x hx; omega⟩
  have dp := ds_plan ok
  have dv := ds_ints hs hl
  have rk := ((Ds.list (Ds.cons (dp.up (Nat.le_refl _) (Nat.le_refl _)) (Ds.cons (dv.up (Nat.le_refl _) (by decide)) Ds.nil))).up (w' := 20000) (k' := 3) (by decide) (Nat.le_refl _)).repr (by decide) (by decide) rfl
  have rp := ((Ds.list (Ds.cons dp (Ds.cons dp Ds.nil))).up (w' := 20000) (k' := 3) (by decide) (Nat.le_refl _)).repr (by decide) (by decide) rfl
  have rv := ((Ds.list (Ds.cons dv (Ds.cons dv Ds.nil))).up (w' := 20000) (k' := 3) (by decide) (by decide)).repr (by decide) (by decide) rfl
  generalize (PyData.list [encP pl, intsD vs]).shown = R at rk
  generalize (PyData.list [encP pl, encP pl]).shown = RP at rp
  generalize (PyData.list [intsD vs, intsD vs]).shown = RV at rv
  obtain ⟨d5, d6, lp⟩ := line_loop (a0 := .ow ls2) (a1 := .va (encP pl)) (a2 := .va (intsD vs)) (a3 := .va (.str R)) (a7 := .no) (a8 := .no) (a9 := .no) (a10 := .no) (pl := pl) (ws := []) (c5 := .no) (c6 := .no) (fun t ht => okP_small ok ht) (by have := ok.len; simp only [List.length_nil]; omega)
  rw [List.nil_append] at lp
  have j1 := join_plan ok
  have f1 := format_plan ok
  have f2 := parse_plan ok
  have f3 := format_values nk
  have f4 := parse_values nk
  have n1 := ne_two (low_txP pl)
  have n2 := ne_two (low_txV vs)
  have n3 := ne_plan ok
  have n4 : oEq (intsD vs) (intsD vs) = some true := by rw [oEq_ints hs hs hl hl, decide_eq_true rfl]
  have q1 : oNe (.str RP) (.str RP) = some false := by rw [oNe_ss, decide_eq_true rfl]; rfl
  have q2 : oNe (.str RV) (.str RV) = some false := by rw [oNe_ss, decide_eq_true rfl]; rfl
  have q3 : oEq (.str R) (.str R) = some true := by rw [oEq_ss, decide_eq_true rfl]
  have la : pl.length < 100000 := by have := ok.len; omega
  have lb : vs.length < 100000 := by omega
  have j2 := join_vals nk
  have hlen : (intsL vs).length ≤ 100000 := by rw [intsL_len]; omega
  have lc : ∀ C4 c7 c8 c9, eLc 11 [10] (uName 10) (iE (eVar 2)) (tT) (eUn oStr (eVar 10)) [.ow ls2, .va (encP pl), .va (intsD vs), .va (.str R), C4, d5, d6, c7, c8, c9, .no] = .ok ((vs.map tI).map PyData.str) [.ow ls2, .va (encP pl), .va (intsD vs), .va (.str R), C4, d5, d6, c7, c8, c9, .no] := fun C4 c7 c8 c9 => by
    refine eLc_of (its := intsL vs) (s1 := [.ow ls2, .va (encP pl), .va (intsD vs), .va (.str R), C4, d5, d6, c7, c8, c9, .no]) (by clear lp j1 f1 f2 f3 f4 n1 n2 n3 n4 q1 q2 q3 rk rp rv p1 v1 j2; walk_at "ev*") ?_ rfl hlen
    have e : wipeC [10] [.ow ls2, .va (encP pl), .va (intsD vs), .va (.str R), C4, d5, d6, c7, c8, c9, .no] = [.ow ls2, .va (encP pl), .va (intsD vs), .va (.str R), C4, d5, d6, c7, c8, c9, .no] := by walk_at "ev"
    rw [e, List.map_map]
    refine lcL_pureM PyData.int (fun n => PyData.str (tI n)) fun n hn => ?_
    have w1 := str_int (nk.2 n hn)
    clear lp j1 f1 f2 f3 f4 n1 n2 n3 n4 q1 q2 q3 rk rp rv p1 v1 e hlen hn j2
    refine ⟨[.ow ls2, .va (encP pl), .va (intsD vs), .va (.str R), C4, d5, d6, c7, c8, c9, .va (.int n)], rfl, rfl, ⟨_, ?_, .inl rfl⟩, ?_⟩ <;> walk_at "ev*"
  refine ⟨ls2, ?_, v2.up (by omega)⟩
  have pe := @permL_0
  clear ok hs hl h p2 v2 dp dv nk hlen
  generalize txP pl = TP at *
  generalize txV vs = TV at *
  generalize ((vs.map tI).map PyData.str) = VS at *
  apply runM_rt (hl := by rfl)
  unfold b__law_right
  walk_at "ev st"
  walk_at "ev st"
  walk_at "ev st"
  walk_at "ev st"
  walk_at "ev st"
  walk_at "ev st"
  walk_at "ev st"
  walk_at "ev st"
  walk_at "ev st"
  walk_at "ev st"
  walk_at "ev st"
  walk_at "ev st"
  walk_at "ev st"
  walk_at "ev st"
  walk_at "ev st"
  walk_at "ev st"
  walk_at "ev end"
end G60
namespace G60
open PySem PyProof.Rows DL LamX DI DC DM MT KT TL
local macro_rules | `(tactic| walk_at "ev") => `(tactic| simp only [runD, runM, startC, startCM, sSeq, sIf, sRet, sRetV, sSet, sSetL, sExpr, sRaise, sFor, sNil, sTwo, sStar, sPar, sPut, sApp, sAug, sPass, sCont, sBrk, sWhile, sQ, q, Re.q, Re.k, Re.kd, Re.da, Re.bd, rO, eK, eVar, hVar, hDisp, hNames, hE, eOp, eUn, eLk, cOp, cOpH, cOpV, cCh, cIsN, cNotN, vN, isN_n, isN_i, isN_b, isN_s, isN_l, isN_t, isN_d, List.isEmpty_cons, List.isEmpty_nil, eC, DI.tTru, truD, DI.tNot, DI.tAnd, DI.tOr, eAnd, eOr, eNot, eIf, aN, aC, eLst, eTup, eJoin, eDict0, eCall, rC, eSl, oS, oN, oCut, iE, iRg_app, DI.iEnum, vC, uName, uTwo, oIsi, isiD, oLen, oLt, oLe, oGt, oGe, oAdd_ii, and_self, and_true, true_and, Int.toNat_natCast, decide_true, decide_false, Int.reduceAdd, Int.reduceSub, Bool.false_or, Bool.true_or, Bool.or_true, oSub, oInt, oList, eL, eIxV, oIxL, eIx_app, tT, eLRg, eMaxD, sWp, eCallM, eCallK, List.map_cons, List.map_nil, List.cons_append, List.nil_append, List.length_cons, List.length_nil, Nat.reduceAdd, Nat.reduceSub, List.reduceReplicate, set_z, set_s, get_z, get_s, ite_t, ite_f, if_true, if_false, reduceIte, Option.map_some, Option.map_none, Bool.not_true, Bool.not_false, Bool.false_eq_true, wp_eq, wpA_nil, wpA_cons, List.contains_cons, List.contains_nil, Bool.or_false, Nat.reduceBEq, Int.reduceNeg, Int.cast_ofNat_Int, atI_0, atI_1, atI_2, ix3_0, ix3_1, encL_len, intsL_len, natsL_len, List.length_map])
local macro_rules | `(tactic| walk_at "ev*") => `(tactic| simp only [runD, runM, startC, startCM, sSeq, sIf, sRet, sRetV, sSet, sSetL, sExpr, sRaise, sFor, sNil, sTwo, sStar, sPar, sPut, sApp, sAug, sPass, sCont, sBrk, sWhile, sQ, q, Re.q, Re.k, Re.kd, Re.da, Re.bd, rO, eK, eVar, hVar, hDisp, hNames, hE, eOp, eUn, eLk, cOp, cOpH, cOpV, cCh, cIsN, cNotN, vN, isN_n, isN_i, isN_b, isN_s, isN_l, isN_t, isN_d, List.isEmpty_cons, List.isEmpty_nil, eC, DI.tTru, truD, DI.tNot, DI.tAnd, DI.tOr, eAnd, eOr, eNot, eIf, aN, aC, eLst, eTup, eJoin, eDict0, eCall, rC, eSl, oS, oN, oCut, iE, iRg_app, DI.iEnum, vC, uName, uTwo, oIsi, isiD, oLen, oLt, oLe, oGt, oGe, oAdd_ii, and_self, and_true, true_and, Int.toNat_natCast, decide_true, decide_false, Int.reduceAdd, Int.reduceSub, Bool.false_or, Bool.true_or, Bool.or_true, oSub, oInt, oList, eL, eIxV, oIxL, eIx_app, tT, eLRg, eMaxD, sWp, eCallM, eCallK, List.map_cons, List.map_nil, List.cons_append, List.nil_append, List.length_cons, List.length_nil, Nat.reduceAdd, Nat.reduceSub, List.reduceReplicate, set_z, set_s, get_z, get_s, ite_t, ite_f, if_true, if_false, reduceIte, Option.map_some, Option.map_none, Bool.not_true, Bool.not_false, Bool.false_eq_true, wp_eq, wpA_nil, wpA_cons, List.contains_cons, List.contains_nil, Bool.or_false, Nat.reduceBEq, Int.reduceNeg, Int.cast_ofNat_Int, atI_0, atI_1, atI_2, ix3_0, ix3_1, encL_len, intsL_len, natsL_len, List.length_map, *])
local macro_rules | `(tactic| walk_at "ev st") => `(tactic| (apply sq_nx; focus (walk_at "ev*"; exact rfl)))
local macro_rules | `(tactic| walk_at "ev end") => `(tactic| (walk_at "ev*"; try exact rfl))
theorem runT_rt {n : Nat} {b : Sm} {t : Th} {v : Vl} {s : Sx} (h : b (.fn t :: List.replicate (n - 1) .no) = .rt v s) : runT n b t = .ok v := by
  unfold runT
  rw [h]
theorem callO_er {i : Nat} {φ : Th → Rs} {m : Em} {s s' : Sx} {x : Xr} {v : PyData} (hs : s[i]? = some .tb) (h : m (s.map hidC) = .er x s') (hk : φ (.er x) = .ok (.d v)) : eCallO i φ m s = .ok (.d v) s := by
  unfold eCallO
  rw [hs]
  simp only [thk, h, hk]
theorem rep_flat {d : PyData} (h : flatB d = true) : oRepr d = some (.d (.str d.shown)) := by
  unfold oRepr gI
  rw [h, Bool.or_true]
  rfl
theorem ds_strV {k : Nat} : Ds 200 k (.str "values") := ⟨by decide +kernel, Nat.zero_le _, by decide +kernel, by decide +kernel, by decide +kernel⟩
theorem ds_strPl {k : Nat} : Ds 200 k (.str "plan") := ⟨by decide +kernel, Nat.zero_le _, by decide +kernel, by decide +kernel, by decide +kernel⟩
theorem rep_two {s : Str} {d : PyData} {w k : Nat} (hs : Ds 200 k (.str s)) (h : Ds w k d) (hk : k ≤ 50) (hw : w ≤ 10000) : ∃ r, oRepr (.list [.str s, d]) = some (.d (.str r)) :=
  ⟨_, ((Ds.list (Ds.cons hs (Ds.cons h Ds.nil))).up (w' := 20000) (by omega) (Nat.le_refl _)).repr (by omega) (by decide) rfl⟩
theorem hid_va {d : PyData} : hidC (.va d) = .va d := rfl
theorem okE_b {pl : Plan} {e : Option Nat} (h : (e.all fun n => decide (n < pl.length)) = true) : okE pl e := fun n hn => by
  rw [hn] at h
  exact of_decide_eq_true h

theorem kept_vals {d : PyData} {r : Str} (h : oRepr (.list [.str "values", d]) = some (.d (.str r))) : d__law_kept (.er (eVals d)) = .ok (.d (.str r)) := by
  have a1 : ∀ a c, eIsX (eVar 1) (clsT [("InvalidPlan", "place", true), ("InvalidValues", "index", true), ("InvalidText", "line", true)]) [a, .er (eVals d), c] = .ok (.d (.bool true)) [a, .er (eVals d), c] := fun _ _ => rfl
  have a2 : ∀ a c, eIsX (eVar 1) (clsT [("InvalidPlan", "place", true), ("InvalidValues", "index", false), ("InvalidText", "line", false)]) [a, .er (eVals d), c] = .ok (.d (.bool false)) [a, .er (eVals d), c] := fun _ _ => rfl
  have a3 : ∀ a c, eAttr "index" [("InvalidValues", "index")] (eVar 1) [a, .er (eVals d), c] = .ok (.d d) [a, .er (eVals d), c] := fun _ _ => rfl
  have t1 : sTry ["InvalidPlan", "InvalidValues"] 2 1 (sExpr (eAskT (.er (eVals d)) 0)) [.fn (.er (eVals d)), .va .none, .no] = .nx [.fn (.er (eVals d)), .er (eVals d), .no] := rfl
  apply runT_rt
  unfold b__law_kept
  walk_at "ev st"
  walk_at "ev st"
  walk_at "ev st"
  walk_at "ev end"
theorem kept_plan {d : PyData} {r : Str} (h : oRepr (.list [.str "plan", d]) = some (.d (.str r))) : d__law_kept (.er (ePlan d)) = .ok (.d (.str r)) := by
  have a1 : ∀ a c, eIsX (eVar 1) (clsT [("InvalidPlan", "place", true), ("InvalidValues", "index", true), ("InvalidText", "line", true)]) [a, .er (ePlan d), c] = .ok (.d (.bool true)) [a, .er (ePlan d), c] := fun _ _ => rfl
  have a2 : ∀ a c, eIsX (eVar 1) (clsT [("InvalidPlan", "place", true), ("InvalidValues", "index", false), ("InvalidText", "line", false)]) [a, .er (ePlan d), c] = .ok (.d (.bool true)) [a, .er (ePlan d), c] := fun _ _ => rfl
  have a3 : ∀ a c, eAttr "place" [("InvalidPlan", "place")] (eVar 1) [a, .er (ePlan d), c] = .ok (.d d) [a, .er (ePlan d), c] := fun _ _ => rfl
  have t1 : sTry ["InvalidPlan", "InvalidValues"] 2 1 (sExpr (eAskT (.er (ePlan d)) 0)) [.fn (.er (ePlan d)), .va .none, .no] = .nx [.fn (.er (ePlan d)), .er (ePlan d), .no] := rfl
  apply runT_rt
  unfold b__law_kept
  walk_at "ev st"
  walk_at "ev st"
  walk_at "ev st"
  walk_at "ev end"
theorem format_plan_er {bad i : PyData} (h : d_check_plan [bad] = .er (ePlan i)) : d_format_plan [bad] = .er (ePlan i) := by
  apply runD_er (hl := by rfl)
  unfold b_format_plan
  apply sq_er
  walk_at "ev end"
theorem format_values_er {bad i : PyData} (h : d_check_values [bad] = .er (eVals i)) : d_format_values [bad] = .er (eVals i) := by
  apply runD_er (hl := by rfl)
  unfold b_format_values
  apply sq_er
  walk_at "ev end"
def BadP (t : PyData) : Prop := ∃ bad idx, t = .tuple [bad, idx] ∧ d_check_plan [bad] = .er (ePlan idx) ∧ ∃ r, oRepr (.list [.str "plan", idx]) = some (.d (.str r))
def BadW (t : PyData) : Prop := ∃ bad idx, t = .tuple [bad, idx] ∧ d_check_values [bad] = .er (eVals idx) ∧ ∃ r, oRepr (.list [.str "values", idx]) = some (.d (.str r))
theorem rep_pn : ∃ r, oRepr (.list [.str "plan", .none]) = some (.d (.str r)) := rep_two (k := 0) (w := 0) ds_strPl Ds.none (by decide) (by decide)
theorem rep_pi {n : Int} (h : n.natAbs < 100) : ∃ r, oRepr (.list [.str "plan", .int n]) = some (.d (.str r)) := rep_two (k := 0) ds_strPl (Ds.int (by omega)) (by decide) (by decide)
theorem rep_vn : ∃ r, oRepr (.list [.str "values", .none]) = some (.d (.str r)) := rep_two (k := 0) (w := 0) ds_strV Ds.none (by decide) (by decide)
theorem rep_vi {n : Int} (h : n.natAbs < 100) : ∃ r, oRepr (.list [.str "values", .int n]) = some (.d (.str r)) := rep_two (k := 0) ds_strV (Ds.int (by omega)) (by decide) (by decide)
theorem plans_bad {t : PyData} (h : t ∈ [.tuple [.none, .none], .tuple [.tuple [], .none], .tuple [.list (List.replicate 13 [PyData.none]).flatten, .none], .tuple [.list [.tuple [.int 0, .int 1]], .int 0], .tuple [.list [.tuple [.int 0, .int 0], .tuple [.int 0, .bool true], .int 5], .int 1]]) : BadP t := by
  simp only [List.mem_cons, List.not_mem_nil, or_false] at h
  rcases h with rfl | rfl | rfl | rfl | rfl
  · exact ⟨_, _, rfl, check_plan_no noDs_none (fun _ e => nomatch e), rep_pn⟩
  · exact ⟨_, _, rfl, check_plan_no noDs_tuple (fun _ e => nomatch e), rep_pn⟩
  · refine ⟨_, _, rfl, ?_, rep_pn⟩
    rw [check_plan_list (fun d hd => ?_), if_pos (by decide)]
    obtain ⟨l, hl, hd⟩ := List.mem_flatten.mp hd
    rw [(List.mem_replicate.mp hl).2] at hd
    rw [List.mem_singleton.mp hd]
    exact ⟨noDs_none, fun a b e => nomatch e⟩
  · refine ⟨_, _, rfl, ?_, rep_pi (by decide)⟩
    rw [check_plan_list (fun d hd => ?_), if_neg (by decide)]
    · rfl
    · rw [List.mem_singleton.mp hd]
      exact ⟨noDs_tuple, fun a b e => by cases e; exact ⟨noDs_int, noDs_int⟩⟩
  · refine ⟨_, _, rfl, ?_, rep_pi (by decide)⟩
    rw [check_plan_list (fun d hd => ?_), if_neg (by decide)]
    · rfl
    · rcases List.mem_cons.mp hd with hd | hd
      · rw [hd]
        exact ⟨noDs_tuple, fun a b e => by cases e; exact ⟨noDs_int, noDs_int⟩⟩
      · rcases List.mem_cons.mp hd with hd | hd
        · rw [hd]
          exact ⟨noDs_tuple, fun a b e => by cases e; exact ⟨noDs_int, noDs_bool⟩⟩
        · rw [List.mem_singleton.mp hd]
          exact ⟨noDs_int, fun a b e => nomatch e⟩
theorem values_bad {t : PyData} (h : t ∈ [.tuple [.none, .none], .tuple [.tuple [.int 1], .none], .tuple [.str "1", .none], .tuple [.list [.int 1, .bool true], .int 1], .tuple [.list [.str "1", .none], .int 0], .tuple [.list (List.replicate 61 [PyData.int 0]).flatten, .none]]) : BadW t := by
  simp only [List.mem_cons, List.not_mem_nil, or_false] at h
  rcases h with rfl | rfl | rfl | rfl | rfl | rfl
  · exact ⟨_, _, rfl, check_values_no noDs_none (fun _ e => nomatch e), rep_vn⟩
  · exact ⟨_, _, rfl, check_values_no noDs_tuple (fun _ e => nomatch e), rep_vn⟩
  · exact ⟨_, _, rfl, check_values_no noDs_str (fun _ e => nomatch e), rep_vn⟩
  · refine ⟨_, _, rfl, ?_, rep_vi (by decide)⟩
    rw [check_values_list (fun d hd => ?_), if_neg (by decide)]
    · rfl
    · rcases List.mem_cons.mp hd with hd | hd
      · rw [hd]; exact noDs_int
      · rw [List.mem_singleton.mp hd]; exact noDs_bool
  · refine ⟨_, _, rfl, ?_, rep_vi (by decide)⟩
    rw [check_values_list (fun d hd => ?_), if_neg (by decide)]
    · rfl
    · rcases List.mem_cons.mp hd with hd | hd
      · rw [hd]; exact noDs_str
      · rw [List.mem_singleton.mp hd]; exact noDs_none
  · refine ⟨_, _, rfl, ?_, rep_vn⟩
    rw [check_values_list (fun d hd => ?_), if_pos (by decide)]
    obtain ⟨l, hl, hd⟩ := List.mem_flatten.mp hd
    rw [(List.mem_replicate.mp hl).2] at hd
    rw [List.mem_singleton.mp hd]
    exact noDs_int
theorem plan_turn {bad idx : PyData} {a0 a1 a2 a3 a6 a7 : Ce} (h : d_check_plan [bad] = .er (ePlan idx)) (hr : ∃ r, oRepr (.list [.str "plan", idx]) = some (.d (.str r))) :
    sIf (cOpH oNe (eCallO 8 d__law_kept (eCall d_format_plan (aC (eVar 4) (aN)))) (hE (eLk oRepr (hE (eLst (aC (eK (.str "plan")) (aC (eVar 5) (aN)))))))) (sRet (q (eK (.bool false)))) (sNil) [a0, a1, a2, a3, .va bad, .va idx, a6, a7, .tb] = .nx [a0, a1, a2, a3, .va bad, .va idx, a6, a7, .tb] := by
  obtain ⟨r, h2⟩ := hr
  have hk := kept_plan h2
  have e1 := format_plan_er h
  have hv := @hid_va
  have k1 : eCallO 8 d__law_kept (eCall d_format_plan (aC (eVar 4) (aN))) [a0, a1, a2, a3, .va bad, .va idx, a6, a7, .tb] = .ok (.d (.str r)) [a0, a1, a2, a3, .va bad, .va idx, a6, a7, .tb] := callO_er rfl (by walk_at "ev end") hk
  have q1 : oNe (.str r) (.str r) = some false := by rw [oNe_ss, decide_eq_true rfl]; rfl
  clear hk e1 hv h
  walk_at "ev*"
theorem vals_turn {bad idx : PyData} {a0 a1 a2 a3 a5 a7 : Ce} (h : d_check_values [bad] = .er (eVals idx)) (hr : ∃ r, oRepr (.list [.str "values", idx]) = some (.d (.str r))) :
    sIf (cOpH oNe (eCallO 8 d__law_kept (eCall d_format_values (aC (eVar 4) (aN)))) (hE (eLk oRepr (hE (eLst (aC (eK (.str "values")) (aC (eVar 6) (aN)))))))) (sRet (q (eK (.bool false)))) (sNil) [a0, a1, a2, a3, .va bad, a5, .va idx, a7, .tb] = .nx [a0, a1, a2, a3, .va bad, a5, .va idx, a7, .tb] := by
  obtain ⟨r, h2⟩ := hr
  have hk := kept_vals h2
  have e1 := format_values_er h
  have hv := @hid_va
  have k1 : eCallO 8 d__law_kept (eCall d_format_values (aC (eVar 4) (aN))) [a0, a1, a2, a3, .va bad, a5, .va idx, a7, .tb] = .ok (.d (.str r)) [a0, a1, a2, a3, .va bad, a5, .va idx, a7, .tb] := callO_er rfl (by walk_at "ev end") hk
  have q1 : oNe (.str r) (.str r) = some false := by rw [oNe_ss, decide_eq_true rfl]; rfl
  clear hk e1 hv h
  walk_at "ev*"
end G60
namespace G60
open PySem PyProof.Rows DL LamX DI DC DM MT KT TL
local macro_rules | `(tactic| walk_at "ev") => `(tactic| simp only [runD, runM, startC, startCM, sSeq, sIf, sRet, sRetV, sSet, sSetL, sExpr, sRaise, sFor, sNil, sTwo, sStar, sPar, sPut, sApp, sAug, sPass, sCont, sBrk, sWhile, sQ, q, Re.q, Re.k, Re.kd, Re.da, Re.bd, rO, eK, eVar, hVar, hDisp, hNames, hE, eOp, eUn, eLk, cOp, cOpH, cOpV, cCh, cIsN, cNotN, vN, isN_n, isN_i, isN_b, isN_s, isN_l, isN_t, isN_d, List.isEmpty_cons, List.isEmpty_nil, eC, DI.tTru, truD, DI.tNot, DI.tAnd, DI.tOr, eAnd, eOr, eNot, eIf, aN, aC, eLst, eTup, eJoin, eDict0, eCall, rC, eSl, oS, oN, oCut, iE, iRg_app, DI.iEnum, vC, uName, uTwo, oIsi, isiD, oLen, oLt, oLe, oGt, oGe, oAdd_ii, and_self, and_true, true_and, Int.toNat_natCast, decide_true, decide_false, Int.reduceAdd, Int.reduceSub, Bool.false_or, Bool.true_or, Bool.or_true, oSub, oInt, oList, eL, eIxV, oIxL, eIx_app, tT, eLRg, eMaxD, sWp, eCallM, eCallK, List.map_cons, List.map_nil, List.cons_append, List.nil_append, List.length_cons, List.length_nil, Nat.reduceAdd, Nat.reduceSub, List.reduceReplicate, set_z, set_s, get_z, get_s, ite_t, ite_f, if_true, if_false, reduceIte, Option.map_some, Option.map_none, Bool.not_true, Bool.not_false, Bool.false_eq_true, wp_eq, wpA_nil, wpA_cons, List.contains_cons, List.contains_nil, Bool.or_false, Nat.reduceBEq, Int.reduceNeg, Int.cast_ofNat_Int, atI_0, atI_1, atI_2, ix3_0, ix3_1, encL_len, intsL_len, natsL_len, List.length_map])
local macro_rules | `(tactic| walk_at "ev*") => `(tactic| simp only [runD, runM, startC, startCM, sSeq, sIf, sRet, sRetV, sSet, sSetL, sExpr, sRaise, sFor, sNil, sTwo, sStar, sPar, sPut, sApp, sAug, sPass, sCont, sBrk, sWhile, sQ, q, Re.q, Re.k, Re.kd, Re.da, Re.bd, rO, eK, eVar, hVar, hDisp, hNames, hE, eOp, eUn, eLk, cOp, cOpH, cOpV, cCh, cIsN, cNotN, vN, isN_n, isN_i, isN_b, isN_s, isN_l, isN_t, isN_d, List.isEmpty_cons, List.isEmpty_nil, eC, DI.tTru, truD, DI.tNot, DI.tAnd, DI.tOr, eAnd, eOr, eNot, eIf, aN, aC, eLst, eTup, eJoin, eDict0, eCall, rC, eSl, oS, oN, oCut, iE, iRg_app, DI.iEnum, vC, uName, uTwo, oIsi, isiD, oLen, oLt, oLe, oGt, oGe, oAdd_ii, and_self, and_true, true_and, Int.toNat_natCast, decide_true, decide_false, Int.reduceAdd, Int.reduceSub, Bool.false_or, Bool.true_or, Bool.or_true, oSub, oInt, oList, eL, eIxV, oIxL, eIx_app, tT, eLRg, eMaxD, sWp, eCallM, eCallK, List.map_cons, List.map_nil, List.cons_append, List.nil_append, List.length_cons, List.length_nil, Nat.reduceAdd, Nat.reduceSub, List.reduceReplicate, set_z, set_s, get_z, get_s, ite_t, ite_f, if_true, if_false, reduceIte, Option.map_some, Option.map_none, Bool.not_true, Bool.not_false, Bool.false_eq_true, wp_eq, wpA_nil, wpA_cons, List.contains_cons, List.contains_nil, Bool.or_false, Nat.reduceBEq, Int.reduceNeg, Int.cast_ofNat_Int, atI_0, atI_1, atI_2, ix3_0, ix3_1, encL_len, intsL_len, natsL_len, List.length_map, *])
local macro_rules | `(tactic| walk_at "ev st") => `(tactic| (apply sq_nx; focus (walk_at "ev*"; exact rfl)))
local macro_rules | `(tactic| walk_at "ev end") => `(tactic| (walk_at "ev*"; try exact rfl))
theorem qb {ls : List PyData} (h : DrOk 0 ls) : ∃ s1, b_lloop ((noS 9 8).set 2 (.ow ls)) = .nx s1 ∧ s1[8]? = some .tb := by
  have e0 : (noS 9 8).set 2 (.ow ls) = [.no, .no, .ow ls, .no, .no, .no, .no, .no, .tb] := rfl
  rw [e0]
  obtain ⟨l1, a1, a2⟩ := law_right h (by omega)
  obtain ⟨l2, b1, b2⟩ := law_right a2 (by omega)
  obtain ⟨l3, c1, c2⟩ := law_right b2 (by omega)
  have r3 : ∀ s, iRgD (.int 3) s = .ok [.int 0, .int 1, .int 2] s := rg_ok (n := 3) (by decide)
  refine ⟨[.no, .no, .ow l3, .va (.int 2), .no, .no, .no, .no, .tb], ?_, rfl⟩
  have t : ∀ (ls ls' : List PyData) (c : Ce), d__law_right ls [] = .ok (.d (.bool true)) ls' → sIf (DI.tNot (DI.tTru (hE (eCallM d__law_right 2 (aN))))) (sRet (q (eK (.bool false)))) (sNil) [.no, .no, .ow ls, c, .no, .no, .no, .no, .tb] = .nx [.no, .no, .ow ls', c, .no, .no, .no, .no, .tb] := fun ls ls' c h => by
    clear a1 b1 c1 r3
    walk_at "ev*"
  have lp : forL (uName 3) (sIf (DI.tNot (DI.tTru (hE (eCallM d__law_right 2 (aN))))) (sRet (q (eK (.bool false)))) (sNil)) [.int 0, .int 1, .int 2] [.no, .no, .ow ls, .no, .no, .no, .no, .no, .tb] = .nx [.no, .no, .ow l3, .va (.int 2), .no, .no, .no, .no, .tb] :=
    (forL_nx rfl (t _ _ _ a1)).trans ((forL_nx rfl (t _ _ _ b1)).trans ((forL_nx rfl (t _ _ _ c1)).trans forL_nil))
  clear a1 b1 c1 t a2 b2 c2 h e0
  unfold b_lloop
  walk_at "ev*"
theorem qr : ∃ s1, b_lrest (noS 9 8) = .rt (.d (.bool true)) s1 := by
  have e0 : noS 9 8 = [.no, .no, .no, .no, .no, .no, .no, .no, .tb] := rfl
  rw [e0]
  clear e0
  obtain ⟨s5', s5, c4, c5, rfl⟩ := forL_inv (u := uTwo 4 5) (b := sIf (cOpH oNe (eCallO 8 d__law_kept (eCall d_format_plan (aC (eVar 4) (aN)))) (hE (eLk oRepr (hE (eLst (aC (eK (.str "plan")) (aC (eVar 5) (aN)))))))) (sRet (q (eK (.bool false)))) (sNil))
    (its := [.tuple [.none, .none], .tuple [.tuple [], .none], .tuple [.list (List.replicate 13 [PyData.none]).flatten, .none], .tuple [.list [.tuple [.int 0, .int 1]], .int 0], .tuple [.list [.tuple [.int 0, .int 0], .tuple [.int 0, .bool true], .int 5], .int 1]]) (i := 0) (s := [.no, .no, .no, .no, .no, .no, .no, .no, .tb]) (fun _ s => ∃ c4 c5, s = [.no, .no, .no, .no, c4, c5, .no, .no, .tb]) ⟨_, _, rfl⟩ (by
      rintro j d s hd ⟨c4, c5, rfl⟩
      obtain ⟨bad, idx, rfl, h1, h2⟩ := plans_bad (List.mem_of_getElem? hd)
      exact ⟨_, _, rfl, .inl (plan_turn (a0 := .no) (a1 := .no) (a2 := .no) (a3 := .no) (a6 := .no) (a7 := .no) h1 h2), _, _, rfl⟩)
  obtain ⟨s6', s6, d4, d6, rfl⟩ := forL_inv (u := uTwo 4 6) (b := sIf (cOpH oNe (eCallO 8 d__law_kept (eCall d_format_values (aC (eVar 4) (aN)))) (hE (eLk oRepr (hE (eLst (aC (eK (.str "values")) (aC (eVar 6) (aN)))))))) (sRet (q (eK (.bool false)))) (sNil))
    (its := [.tuple [.none, .none], .tuple [.tuple [.int 1], .none], .tuple [.str "1", .none], .tuple [.list [.int 1, .bool true], .int 1], .tuple [.list [.str "1", .none], .int 0], .tuple [.list (List.replicate 61 [PyData.int 0]).flatten, .none]]) (i := 0) (s := [.no, .no, .no, .no, c4, c5, .no, .no, .tb]) (fun _ s => ∃ c4 c6, s = [.no, .no, .no, .no, c4, c5, c6, .no, .tb]) ⟨_, _, rfl⟩ (by
      rintro j d s hd ⟨c4, c6, rfl⟩
      obtain ⟨bad, idx, rfl, h1, h2⟩ := values_bad (List.mem_of_getElem? hd)
      exact ⟨_, _, rfl, .inl (vals_turn (a0 := .no) (a1 := .no) (a2 := .no) (a3 := .no) (a5 := c5) (a7 := .no) h1 h2), _, _, rfl⟩)
  have z1 : oMul (.list [.none]) (.int 13) = some (.l (List.replicate 13 [PyData.none]).flatten) := rfl
  have z2 : oMul (.list [.int 0]) (.int 61) = some (.l (List.replicate 61 [PyData.int 0]).flatten) := rfl
  generalize (List.replicate 13 [PyData.none]).flatten = N at z1 s5
  generalize (List.replicate 61 [PyData.int 0]).flatten = Z at z2 s6
  have nk : numOk [12345678901234567891, -12345678901234567891] := ⟨by decide, by decide⟩
  have f1 : d_format_values [.list [.int 12345678901234567891, .int (-12345678901234567891)]] = .ok (.d (.str (txV [12345678901234567891, -12345678901234567891]))) := format_values nk
  have f2 : d_parse_values [.str (txV [12345678901234567891, -12345678901234567891])] = .ok (.l [.int 12345678901234567891, .int (-12345678901234567891)]) := parse_values nk
  have tx : txV [12345678901234567891, -12345678901234567891] = (("12345678901234567891 -12345678901234567891" : String) : Str) := by decide +kernel
  have n1 : oNe (.str (txV [12345678901234567891, -12345678901234567891])) (.str "12345678901234567891 -12345678901234567891") = some false := by
    rw [oNe_ss, decide_eq_true tx]
    rfl
  have n2 : oNe (.list [.int 12345678901234567891, .int (-12345678901234567891)]) (.list [.int 12345678901234567891, .int (-12345678901234567891)]) = some false := by
    have := oNe_ints (ns := [12345678901234567891, -12345678901234567891]) (ms := [12345678901234567891, -12345678901234567891]) (by unfold sml; decide) (by unfold sml; decide) (by decide) (by decide)
    exact this
  have ng : oNeg (.int 12345678901234567891) = some (.d (.int (-12345678901234567891))) := rfl
  clear tx nk
  generalize txV [12345678901234567891, -12345678901234567891] = T at f1 f2 n1
  have t0 : txV [] = (("" : String) : Str) := rfl
  have p0 : txP [] = (("" : String) : Str) := rfl
  have g1 : d_parse_values [.str ""] = .ok (.l []) := by
    have := parse_values (ns := []) ⟨by decide, fun _ h => nomatch h⟩
    rw [t0] at this
    exact this
  have g2 : d_format_values [.list []] = .ok (.d (.str "")) := by
    have := format_values (ns := []) ⟨by decide, fun _ h => nomatch h⟩
    rw [t0] at this
    exact this
  have g3 : d_parse_plan [.str ""] = .ok (.l []) := by
    have := parse_plan (pl := []) ⟨by decide, fun t ht => nomatch ht⟩
    rw [p0] at this
    exact this
  have g4 : d_format_plan [.list []] = .ok (.d (.str "")) := by
    have := format_plan (pl := []) ⟨by decide, fun t ht => nomatch ht⟩
    rw [p0] at this
    exact this
  have q1 : oEq (.list []) (.list []) = some true := rfl
  have q2 : oEq (.str "") (.str "") = some true := by rw [oEq_ss, decide_eq_true rfl]
  clear t0 p0
  apply Exists.intro
  unfold b_lrest
  walk_at "ev st"
  walk_at "ev st"
  walk_at "ev st"
  walk_at "ev st"
  walk_at "ev end"
end G60
namespace G60
open PySem PyProof.Rows L2 DL LamX DI DC
/-! ### the errors' own start -/
def initOf (i : Nat) : Stmt := match top i with
  | .ClassDef (body := b :: _) .. => b
  | s => s
abbrev sIInvalidPlan : Stmt := initOf 1
theorem cIInvalidPlan : FnScope ["self", "place"] ["self", "place"] (defScope sIInvalidPlan) := ⟨rfl, rfl, rfl, by decide +kernel, rfl, by decide +kernel, by decide +kernel⟩
theorem okI_InvalidPlan [TabL] {P : Program} {w : World} {K : PySem.W.Frag} {mg : Str → Option Value} {base : Heap} {f C : Addr} {fd : FuncData} {qual : Str} (Fn : Fun K "__init__" qual sIInvalidPlan f fd) (T : OexC K C) (no : PySem.W.findIn K (.ref C) "place" = some none) (ve : mg "ValueError" = none) (vV : PySem.W.findCls K (.type "ValueError") (.type "type") "__init__" = some (.val (.builtin "ValueError.__init__"))) :
    FnOk P w K mg base CX0 1 f fd ["self", "place"] (spI C "place") := by
  refine Fn.ok cIInvalidPlan (fun vs H Q E ⟨a, v, h, _⟩ => by rw [h]; rfl) fun cdv A outer s H vs Q E hr h => ?_
  obtain ⟨a, v, rfl, h1, h2⟩ := h
  refine ⟨_, pss_cons (ps_expr (pe_veinit (by rfl) ve vV (pa_cons (pe_var (i := 0) rfl (.inl rfl) (by decide) (by decide)) (pa_cons pe_str pa_nil)))) (pss_cons (ps_ost (pe_var (i := 0) rfl (.inl rfl) (by decide) (by decide)) (pe_var (i := 1) rfl (.inl rfl) (by decide) (by decide))) pss_nil), ?_⟩
  refine ⟨.ref a, rfl, ⟨a, C, _, rfl, by simp, T, h1, ⟨v, rfl, .ref a, rfl, a, C, rfl, T, no, .inl ⟨h1, fun dx n ne => h2 dx n ne⟩⟩⟩⟩
abbrev sIInvalidValues : Stmt := initOf 2
theorem cIInvalidValues : FnScope ["self", "index"] ["self", "index"] (defScope sIInvalidValues) := ⟨rfl, rfl, rfl, by decide +kernel, rfl, by decide +kernel, by decide +kernel⟩
theorem okI_InvalidValues [TabL] {P : Program} {w : World} {K : PySem.W.Frag} {mg : Str → Option Value} {base : Heap} {f C : Addr} {fd : FuncData} {qual : Str} (Fn : Fun K "__init__" qual sIInvalidValues f fd) (T : OexC K C) (no : PySem.W.findIn K (.ref C) "index" = some none) (ve : mg "ValueError" = none) (vV : PySem.W.findCls K (.type "ValueError") (.type "type") "__init__" = some (.val (.builtin "ValueError.__init__"))) :
    FnOk P w K mg base CX0 1 f fd ["self", "index"] (spI C "index") := by
  refine Fn.ok cIInvalidValues (fun vs H Q E ⟨a, v, h, _⟩ => by rw [h]; rfl) fun cdv A outer s H vs Q E hr h => ?_
  obtain ⟨a, v, rfl, h1, h2⟩ := h
  refine ⟨_, pss_cons (ps_expr (pe_veinit (by rfl) ve vV (pa_cons (pe_var (i := 0) rfl (.inl rfl) (by decide) (by decide)) (pa_cons pe_str pa_nil)))) (pss_cons (ps_ost (pe_var (i := 0) rfl (.inl rfl) (by decide) (by decide)) (pe_var (i := 1) rfl (.inl rfl) (by decide) (by decide))) pss_nil), ?_⟩
  refine ⟨.ref a, rfl, ⟨a, C, _, rfl, by simp, T, h1, ⟨v, rfl, .ref a, rfl, a, C, rfl, T, no, .inl ⟨h1, fun dx n ne => h2 dx n ne⟩⟩⟩⟩
abbrev sIInvalidText : Stmt := initOf 3
theorem cIInvalidText : FnScope ["self", "line"] ["self", "line"] (defScope sIInvalidText) := ⟨rfl, rfl, rfl, by decide +kernel, rfl, by decide +kernel, by decide +kernel⟩
theorem okI_InvalidText [TabL] {P : Program} {w : World} {K : PySem.W.Frag} {mg : Str → Option Value} {base : Heap} {f C : Addr} {fd : FuncData} {qual : Str} (Fn : Fun K "__init__" qual sIInvalidText f fd) (T : OexC K C) (no : PySem.W.findIn K (.ref C) "line" = some none) (ve : mg "ValueError" = none) (vV : PySem.W.findCls K (.type "ValueError") (.type "type") "__init__" = some (.val (.builtin "ValueError.__init__"))) :
    FnOk P w K mg base CX0 1 f fd ["self", "line"] (spI C "line") := by
  refine Fn.ok cIInvalidText (fun vs H Q E ⟨a, v, h, _⟩ => by rw [h]; rfl) fun cdv A outer s H vs Q E hr h => ?_
  obtain ⟨a, v, rfl, h1, h2⟩ := h
  refine ⟨_, pss_cons (ps_expr (pe_veinit (by rfl) ve vV (pa_cons (pe_var (i := 0) rfl (.inl rfl) (by decide) (by decide)) (pa_cons pe_str pa_nil)))) (pss_cons (ps_ost (pe_var (i := 0) rfl (.inl rfl) (by decide) (by decide)) (pe_var (i := 1) rfl (.inl rfl) (by decide) (by decide))) pss_nil), ?_⟩
  refine ⟨.ref a, rfl, ⟨a, C, _, rfl, by simp, T, h1, ⟨v, rfl, .ref a, rfl, a, C, rfl, T, no, .inl ⟨h1, fun dx n ne => h2 dx n ne⟩⟩⟩⟩
theorem all_mk {l : PySem.W.OpenLaw} {w : World} {K : PySem.W.Frag} {h : Heap} {mg : Str → Option Value} {fa TC19 TP19 : Addr} {te19 : Value} {tdd19 : Option Addr} {tvs19 : Array Value} {tsl19 : Array (Option Value)} {q : Program} (X : K.In h) (G : h.Ns mainGlobals mg) (hfa : mg "law" = some (.ref fa)) (htf : TabF q K mg h)
    {f0 f1 f2 f3 f4 f5 f6 f7 f8 f9 f10 f11 f12 f13 f14 f15 f16 f17 f18 f19 : Addr}
    {od0 an0 od1 an1 od2 an2 od3 an3 od4 an4 od5 an5 od6 an6 od7 an7 od8 an8 od9 an9 od10 an10 od11 an11 od12 an12 od13 an13 od14 an14 od15 an15 od16 an16 od17 an17 od18 an18 od19 an19 : Option Addr} {sl0 sl1 sl2 sl3 sl4 sl5 sl6 sl7 sl8 sl9 sl10 sl11 sl12 sl13 sl14 sl15 sl16 sl17 sl18 sl19 : Array (Option Value)}
    {oc0 kV0 dc0 pm0 cd0 ct0 oc1 kV1 dc1 pm1 cd1 ct1 oc2 kV2 dc2 pm2 cd2 ct2 oc3 kV3 dc3 pm3 cd3 ct3 oc4 kV4 dc4 pm4 cd4 ct4 oc5 kV5 dc5 pm5 cd5 ct5 oc6 kV6 dc6 pm6 cd6 ct6 oc7 kV7 dc7 pm7 cd7 ct7 oc8 kV8 dc8 pm8 cd8 ct8 oc9 kV9 dc9 pm9 cd9 ct9 oc10 kV10 dc10 pm10 cd10 ct10 oc11 kV11 dc11 pm11 cd11 ct11 oc12 kV12 dc12 pm12 cd12 ct12 oc13 kV13 dc13 pm13 cd13 ct13 oc14 kV14 dc14 pm14 cd14 ct14 oc15 kV15 dc15 pm15 cd15 ct15 oc16 kV16 dc16 pm16 cd16 ct16 oc17 kV17 dc17 pm17 cd17 ct17 oc18 kV18 dc18 pm18 cd18 ct18 oc19 kV19 dc19 pm19 ct19 : Value}
    {u0 u1 u2 u3 : Tok}
    {EC0 EI0 EN0 : Addr} {enm0 eq0 : Str} {ebs0 : List Value} {esn0 : List Str} {esu0 : List Value} {eab0 : Bool} {eco0 : Option Bool} {edd0 : Option Addr} {em00 em10 em20 em30 em50 : Option Value} {eod0 ean0 : Option Addr} {esl0 : Array (Option Value)} {eoc0 ekV0 edc0 epm0 ecd0 ect0 : Value}
    {EC1 EI1 EN1 : Addr} {enm1 eq1 : Str} {ebs1 : List Value} {esn1 : List Str} {esu1 : List Value} {eab1 : Bool} {eco1 : Option Bool} {edd1 : Option Addr} {em01 em11 em21 em31 em51 : Option Value} {eod1 ean1 : Option Addr} {esl1 : Array (Option Value)} {eoc1 ekV1 edc1 epm1 ecd1 ect1 : Value}
    {EC2 EI2 EN2 : Addr} {enm2 eq2 : Str} {ebs2 : List Value} {esn2 : List Str} {esu2 : List Value} {eab2 : Bool} {eco2 : Option Bool} {edd2 : Option Addr} {em02 em12 em22 em32 em52 : Option Value} {eod2 ean2 : Option Addr} {esl2 : Array (Option Value)} {eoc2 ekV2 edc2 epm2 ecd2 ect2 : Value}
    (a0 : PySem.W.nsIn K mainGlobals "is_whole" = some (some (.ref f0)))
    (l0 : K.lookup f0 = some ⟨oc0, od0, .func (PySem.W.fnOf "is_whole" "is_whole" (defArgs sis_whole) (defBody sis_whole) (defScope sis_whole) .none kV0 dc0 pm0 an0 cd0 ct0), sl0⟩)
    (c0 : PySem.W.codeIn K cd0 "is_whole" = true)
    (k0 : PySem.W.keepIn K (.ref f0) = true)
    (a1 : PySem.W.nsIn K mainGlobals "is_from_0_to" = some (some (.ref f1)))
    (l1 : K.lookup f1 = some ⟨oc1, od1, .func (PySem.W.fnOf "is_from_0_to" "is_from_0_to" (defArgs sis_from_0_to) (defBody sis_from_0_to) (defScope sis_from_0_to) .none kV1 dc1 pm1 an1 cd1 ct1), sl1⟩)
    (c1 : PySem.W.codeIn K cd1 "is_from_0_to" = true)
    (k1 : PySem.W.keepIn K (.ref f1) = true)
    (a2 : PySem.W.nsIn K mainGlobals "is_entry" = some (some (.ref f2)))
    (l2 : K.lookup f2 = some ⟨oc2, od2, .func (PySem.W.fnOf "is_entry" "is_entry" (defArgs sis_entry) (defBody sis_entry) (defScope sis_entry) .none kV2 dc2 pm2 an2 cd2 ct2), sl2⟩)
    (c2 : PySem.W.codeIn K cd2 "is_entry" = true)
    (k2 : PySem.W.keepIn K (.ref f2) = true)
    (a3 : PySem.W.nsIn K mainGlobals "is_pair_of_entries" = some (some (.ref f3)))
    (l3 : K.lookup f3 = some ⟨oc3, od3, .func (PySem.W.fnOf "is_pair_of_entries" "is_pair_of_entries" (defArgs sis_pair_of_entries) (defBody sis_pair_of_entries) (defScope sis_pair_of_entries) .none kV3 dc3 pm3 an3 cd3 ct3), sl3⟩)
    (c3 : PySem.W.codeIn K cd3 "is_pair_of_entries" = true)
    (k3 : PySem.W.keepIn K (.ref f3) = true)
    (a4 : PySem.W.nsIn K mainGlobals "check_plan" = some (some (.ref f4)))
    (l4 : K.lookup f4 = some ⟨oc4, od4, .func (PySem.W.fnOf "check_plan" "check_plan" (defArgs scheck_plan) (defBody scheck_plan) (defScope scheck_plan) .none kV4 dc4 pm4 an4 cd4 ct4), sl4⟩)
    (c4 : PySem.W.codeIn K cd4 "check_plan" = true)
    (k4 : PySem.W.keepIn K (.ref f4) = true)
    (a5 : PySem.W.nsIn K mainGlobals "check_values" = some (some (.ref f5)))
    (l5 : K.lookup f5 = some ⟨oc5, od5, .func (PySem.W.fnOf "check_values" "check_values" (defArgs scheck_values) (defBody scheck_values) (defScope scheck_values) .none kV5 dc5 pm5 an5 cd5 ct5), sl5⟩)
    (c5 : PySem.W.codeIn K cd5 "check_values" = true)
    (k5 : PySem.W.keepIn K (.ref f5) = true)
    (a6 : PySem.W.nsIn K mainGlobals "format_plan" = some (some (.ref f6)))
    (l6 : K.lookup f6 = some ⟨oc6, od6, .func (PySem.W.fnOf "format_plan" "format_plan" (defArgs sformat_plan) (defBody sformat_plan) (defScope sformat_plan) .none kV6 dc6 pm6 an6 cd6 ct6), sl6⟩)
    (c6 : PySem.W.codeIn K cd6 "format_plan" = true)
    (k6 : PySem.W.keepIn K (.ref f6) = true)
    (a7 : PySem.W.nsIn K mainGlobals "parse_plan" = some (some (.ref f7)))
    (l7 : K.lookup f7 = some ⟨oc7, od7, .func (PySem.W.fnOf "parse_plan" "parse_plan" (defArgs sparse_plan) (defBody sparse_plan) (defScope sparse_plan) .none kV7 dc7 pm7 an7 cd7 ct7), sl7⟩)
    (c7 : PySem.W.codeIn K cd7 "parse_plan" = true)
    (k7 : PySem.W.keepIn K (.ref f7) = true)
    (a8 : PySem.W.nsIn K mainGlobals "format_values" = some (some (.ref f8)))
    (l8 : K.lookup f8 = some ⟨oc8, od8, .func (PySem.W.fnOf "format_values" "format_values" (defArgs sformat_values) (defBody sformat_values) (defScope sformat_values) .none kV8 dc8 pm8 an8 cd8 ct8), sl8⟩)
    (c8 : PySem.W.codeIn K cd8 "format_values" = true)
    (k8 : PySem.W.keepIn K (.ref f8) = true)
    (a9 : PySem.W.nsIn K mainGlobals "parse_values" = some (some (.ref f9)))
    (l9 : K.lookup f9 = some ⟨oc9, od9, .func (PySem.W.fnOf "parse_values" "parse_values" (defArgs sparse_values) (defBody sparse_values) (defScope sparse_values) .none kV9 dc9 pm9 an9 cd9 ct9), sl9⟩)
    (c9 : PySem.W.codeIn K cd9 "parse_values" = true)
    (k9 : PySem.W.keepIn K (.ref f9) = true)
    (a10 : PySem.W.nsIn K mainGlobals "_word_of_entry" = some (some (.ref f10)))
    (l10 : K.lookup f10 = some ⟨oc10, od10, .func (PySem.W.fnOf "_word_of_entry" "_word_of_entry" (defArgs s_word_of_entry) (defBody s_word_of_entry) (defScope s_word_of_entry) .none kV10 dc10 pm10 an10 cd10 ct10), sl10⟩)
    (c10 : PySem.W.codeIn K cd10 "_word_of_entry" = true)
    (k10 : PySem.W.keepIn K (.ref f10) = true)
    (a11 : PySem.W.nsIn K mainGlobals "_pair_of" = some (some (.ref f11)))
    (l11 : K.lookup f11 = some ⟨oc11, od11, .func (PySem.W.fnOf "_pair_of" "_pair_of" (defArgs s_pair_of) (defBody s_pair_of) (defScope s_pair_of) .none kV11 dc11 pm11 an11 cd11 ct11), sl11⟩)
    (c11 : PySem.W.codeIn K cd11 "_pair_of" = true)
    (k11 : PySem.W.keepIn K (.ref f11) = true)
    (a12 : PySem.W.nsIn K mainGlobals "_is_number" = some (some (.ref f12)))
    (l12 : K.lookup f12 = some ⟨oc12, od12, .func (PySem.W.fnOf "_is_number" "_is_number" (defArgs s_is_number) (defBody s_is_number) (defScope s_is_number) .none kV12 dc12 pm12 an12 cd12 ct12), sl12⟩)
    (c12 : PySem.W.codeIn K cd12 "_is_number" = true)
    (k12 : PySem.W.keepIn K (.ref f12) = true)
    (a13 : PySem.W.nsIn K mainGlobals "_law_draws" = some (some (.ref f13)))
    (l13 : K.lookup f13 = some ⟨oc13, od13, .func (PySem.W.fnOf "_law_draws" "_law_draws" (defArgs s_law_draws) (defBody s_law_draws) (defScope s_law_draws) .none kV13 dc13 pm13 an13 cd13 ct13), sl13⟩)
    (c13 : PySem.W.codeIn K cd13 "_law_draws" = true)
    (k13 : PySem.W.keepIn K (.ref f13) = true)
    (a14 : PySem.W.nsIn K mainGlobals "_law_next" = some (some (.ref f14)))
    (l14 : K.lookup f14 = some ⟨oc14, od14, .func (PySem.W.fnOf "_law_next" "_law_next" (defArgs s_law_next) (defBody s_law_next) (defScope s_law_next) .none kV14 dc14 pm14 an14 cd14 ct14), sl14⟩)
    (c14 : PySem.W.codeIn K cd14 "_law_next" = true)
    (k14 : PySem.W.keepIn K (.ref f14) = true)
    (a15 : PySem.W.nsIn K mainGlobals "_law_plan" = some (some (.ref f15)))
    (l15 : K.lookup f15 = some ⟨oc15, od15, .func (PySem.W.fnOf "_law_plan" "_law_plan" (defArgs s_law_plan) (defBody s_law_plan) (defScope s_law_plan) .none kV15 dc15 pm15 an15 cd15 ct15), sl15⟩)
    (c15 : PySem.W.codeIn K cd15 "_law_plan" = true)
    (k15 : PySem.W.keepIn K (.ref f15) = true)
    (a16 : PySem.W.nsIn K mainGlobals "_law_values" = some (some (.ref f16)))
    (l16 : K.lookup f16 = some ⟨oc16, od16, .func (PySem.W.fnOf "_law_values" "_law_values" (defArgs s_law_values) (defBody s_law_values) (defScope s_law_values) .none kV16 dc16 pm16 an16 cd16 ct16), sl16⟩)
    (c16 : PySem.W.codeIn K cd16 "_law_values" = true)
    (k16 : PySem.W.keepIn K (.ref f16) = true)
    (a17 : PySem.W.nsIn K mainGlobals "_law_kept" = some (some (.ref f17)))
    (l17 : K.lookup f17 = some ⟨oc17, od17, .func (PySem.W.fnOf "_law_kept" "_law_kept" (defArgs s_law_kept) (defBody s_law_kept) (defScope s_law_kept) .none kV17 dc17 pm17 an17 cd17 ct17), sl17⟩)
    (c17 : PySem.W.codeIn K cd17 "_law_kept" = true)
    (k17 : PySem.W.keepIn K (.ref f17) = true)
    (a18 : PySem.W.nsIn K mainGlobals "_law_right" = some (some (.ref f18)))
    (l18 : K.lookup f18 = some ⟨oc18, od18, .func (PySem.W.fnOf "_law_right" "_law_right" (defArgs s_law_right) (defBody s_law_right) (defScope s_law_right) .none kV18 dc18 pm18 an18 cd18 ct18), sl18⟩)
    (c18 : PySem.W.codeIn K cd18 "_law_right" = true)
    (k18 : PySem.W.keepIn K (.ref f18) = true)
    (a19 : PySem.W.nsIn K mainGlobals "law" = some (some (.ref f19)))
    (l19 : K.lookup f19 = some ⟨oc19, od19, .func (PySem.W.fnOf "law" "law" (defArgs slaw) (defBody slaw) (defScope slaw) .none kV19 dc19 pm19 an19 (.ref TC19) ct19), sl19⟩)
    (c19 : PySem.W.codeIn K (.ref TC19) "law" = true)
    (k19 : PySem.W.keepIn K (.ref f19) = true)
    (m0 : PySem.W.nsIn K mainGlobals "MOST_PLACES" = some (some (.int 12 u0)))
    (m1 : PySem.W.nsIn K mainGlobals "MOST_VALUES" = some (some (.int 60 u1)))
    (m2 : PySem.W.nsIn K mainGlobals "NO_ENTRY" = some (some (.str "-" u2)))
    (m3 : PySem.W.nsIn K mainGlobals "DIGITS" = some (some (.str "0123456789" u3)))
    (z0 : PySem.W.nsIn K mainGlobals "ValueError" = some none)
    (z1 : PySem.W.nsIn K mainGlobals "all" = some none)
    (z2 : PySem.W.nsIn K mainGlobals "bool" = some none)
    (z3 : PySem.W.nsIn K mainGlobals "enumerate" = some none)
    (z4 : PySem.W.nsIn K mainGlobals "int" = some none)
    (z5 : PySem.W.nsIn K mainGlobals "isinstance" = some none)
    (z6 : PySem.W.nsIn K mainGlobals "len" = some none)
    (z7 : PySem.W.nsIn K mainGlobals "list" = some none)
    (z8 : PySem.W.nsIn K mainGlobals "range" = some none)
    (z9 : PySem.W.nsIn K mainGlobals "repr" = some none)
    (z10 : PySem.W.nsIn K mainGlobals "str" = some none)
    (z11 : PySem.W.nsIn K mainGlobals "tuple" = some none)
    (ea0 : PySem.W.nsIn K mainGlobals "InvalidPlan" = some (some (.ref EC0)))
    (ex0 : K.lookup EC0 = some (excClassObj enm0 eq0 EC0 EN0 ebs0 [.type "ValueError", .type "Exception", .type "BaseException", .type "object"] true esn0 esu0 eab0 eco0 edd0 em00 em10 em20 em30 em50 "ValueError.__new__"))
    (esa0 : PySem.W.findIn K (.ref EC0) "__setattr__" = some (some (.builtin "object.__setattr__")))
    (ega0 : PySem.W.findIn K (.ref EC0) "__getattribute__" = some (some (.builtin "BaseException.__getattribute__")))
    (egg0 : PySem.W.findIn K (.ref EC0) "__getattr__" = some none)
    (eno0 : PySem.W.findIn K (.ref EC0) "place" = some none)
    (eii0 : PySem.W.findIn K (.ref EC0) "__init__" = some (some (.ref EI0)))
    (eti0 : PySem.W.typeIn K (.ref EI0) = some (.type "function"))
    (eli0 : K.lookup EI0 = some ⟨eoc0, eod0, .func (PySem.W.fnOf "__init__" "InvalidPlan.__init__" (defArgs sIInvalidPlan) (defBody sIInvalidPlan) (defScope sIInvalidPlan) .none ekV0 edc0 epm0 ean0 ecd0 ect0), esl0⟩)
    (eci0 : PySem.W.codeIn K ecd0 "InvalidPlan.__init__" = true)
    (eki0 : PySem.W.keepIn K (.ref EI0) = true)
    (ekc0 : PySem.W.keepIn K (.ref EC0) = true)
    (esb0 : PySem.W.subIn K (.ref EC0) (.type "BaseException") = some true)
    (ety0 : PySem.W.typeIn K (.ref EC0) = some (.type "type"))
    (ehd0 : PySem.W.hasDictIn K EC0 = true)
    (ecl0 : PySem.W.findIn K (.ref EC0) "__class__" = some (some (.builtin "object.__class__")))
    (emo0 : PySem.W.mroIn K EC0 (.type "object") = some true)
    (eve0 : PySem.W.subIn K (.ref EC0) (.type "ValueError") = some true)
    (ea1 : PySem.W.nsIn K mainGlobals "InvalidValues" = some (some (.ref EC1)))
    (ex1 : K.lookup EC1 = some (excClassObj enm1 eq1 EC1 EN1 ebs1 [.type "ValueError", .type "Exception", .type "BaseException", .type "object"] true esn1 esu1 eab1 eco1 edd1 em01 em11 em21 em31 em51 "ValueError.__new__"))
    (esa1 : PySem.W.findIn K (.ref EC1) "__setattr__" = some (some (.builtin "object.__setattr__")))
    (ega1 : PySem.W.findIn K (.ref EC1) "__getattribute__" = some (some (.builtin "BaseException.__getattribute__")))
    (egg1 : PySem.W.findIn K (.ref EC1) "__getattr__" = some none)
    (eno1 : PySem.W.findIn K (.ref EC1) "index" = some none)
    (eii1 : PySem.W.findIn K (.ref EC1) "__init__" = some (some (.ref EI1)))
    (eti1 : PySem.W.typeIn K (.ref EI1) = some (.type "function"))
    (eli1 : K.lookup EI1 = some ⟨eoc1, eod1, .func (PySem.W.fnOf "__init__" "InvalidValues.__init__" (defArgs sIInvalidValues) (defBody sIInvalidValues) (defScope sIInvalidValues) .none ekV1 edc1 epm1 ean1 ecd1 ect1), esl1⟩)
    (eci1 : PySem.W.codeIn K ecd1 "InvalidValues.__init__" = true)
    (eki1 : PySem.W.keepIn K (.ref EI1) = true)
    (ekc1 : PySem.W.keepIn K (.ref EC1) = true)
    (esb1 : PySem.W.subIn K (.ref EC1) (.type "BaseException") = some true)
    (ety1 : PySem.W.typeIn K (.ref EC1) = some (.type "type"))
    (ehd1 : PySem.W.hasDictIn K EC1 = true)
    (ecl1 : PySem.W.findIn K (.ref EC1) "__class__" = some (some (.builtin "object.__class__")))
    (emo1 : PySem.W.mroIn K EC1 (.type "object") = some true)
    (eve1 : PySem.W.subIn K (.ref EC1) (.type "ValueError") = some true)
    (ea2 : PySem.W.nsIn K mainGlobals "InvalidText" = some (some (.ref EC2)))
    (ex2 : K.lookup EC2 = some (excClassObj enm2 eq2 EC2 EN2 ebs2 [.type "ValueError", .type "Exception", .type "BaseException", .type "object"] true esn2 esu2 eab2 eco2 edd2 em02 em12 em22 em32 em52 "ValueError.__new__"))
    (esa2 : PySem.W.findIn K (.ref EC2) "__setattr__" = some (some (.builtin "object.__setattr__")))
    (ega2 : PySem.W.findIn K (.ref EC2) "__getattribute__" = some (some (.builtin "BaseException.__getattribute__")))
    (egg2 : PySem.W.findIn K (.ref EC2) "__getattr__" = some none)
    (eno2 : PySem.W.findIn K (.ref EC2) "line" = some none)
    (eii2 : PySem.W.findIn K (.ref EC2) "__init__" = some (some (.ref EI2)))
    (eti2 : PySem.W.typeIn K (.ref EI2) = some (.type "function"))
    (eli2 : K.lookup EI2 = some ⟨eoc2, eod2, .func (PySem.W.fnOf "__init__" "InvalidText.__init__" (defArgs sIInvalidText) (defBody sIInvalidText) (defScope sIInvalidText) .none ekV2 edc2 epm2 ean2 ecd2 ect2), esl2⟩)
    (eci2 : PySem.W.codeIn K ecd2 "InvalidText.__init__" = true)
    (eki2 : PySem.W.keepIn K (.ref EI2) = true)
    (ekc2 : PySem.W.keepIn K (.ref EC2) = true)
    (esb2 : PySem.W.subIn K (.ref EC2) (.type "BaseException") = some true)
    (ety2 : PySem.W.typeIn K (.ref EC2) = some (.type "type"))
    (ehd2 : PySem.W.hasDictIn K EC2 = true)
    (ecl2 : PySem.W.findIn K (.ref EC2) "__class__" = some (some (.builtin "object.__class__")))
    (emo2 : PySem.W.mroIn K EC2 (.type "object") = some true)
    (eve2 : PySem.W.subIn K (.ref EC2) (.type "ValueError") = some true)
    (ep0_0 : PySem.W.subIn K (.ref EC0) (.ref EC0) = some true)
    (ep0_1 : PySem.W.subIn K (.ref EC0) (.ref EC1) = some false)
    (ep0_2 : PySem.W.subIn K (.ref EC0) (.ref EC2) = some false)
    (ep1_0 : PySem.W.subIn K (.ref EC1) (.ref EC0) = some false)
    (ep1_1 : PySem.W.subIn K (.ref EC1) (.ref EC1) = some true)
    (ep1_2 : PySem.W.subIn K (.ref EC1) (.ref EC2) = some false)
    (ep2_0 : PySem.W.subIn K (.ref EC2) (.ref EC0) = some false)
    (ep2_1 : PySem.W.subIn K (.ref EC2) (.ref EC1) = some false)
    (ep2_2 : PySem.W.subIn K (.ref EC2) (.ref EC2) = some true)
    (eob1 : PySem.W.specialIn K (.builtin "object.__class__") "__get__" = some (some (.builtin "getset_descriptor.__get__")))
    (eob2 : PySem.W.takesIn K (.builtin "object.__class__") = some true)
    (evv : PySem.W.findCls K (.type "ValueError") (.type "type") "__init__" = some (.val (.builtin "ValueError.__init__")))
    (tk19 : K.lookup TC19 = some ⟨te19, tdd19, .fields tvs19, tsl19⟩) (tp19 : tvs19[11]? = some (.ref TP19)) (tn19 : K.lookup TP19 = none) (hrec19 : ((PyProof.Rows.recsOf q).any fun e => e.name == "law") = true)
    : ∃ (fd : FuncData) (cs : List (Addr × Addr × Str)), (∀ (s : Shared) (v : Value), BindsTo s fd ⟨[v], []⟩ [("_law_script", v)]) ∧ (∀ p ∈ cs, h.get? p.2.1 = some { cls := .none, data := .fields #[] }) ∧ (∀ p ∈ cs, PySem.W.CodeHd h p.1 p.2.1) ∧ (∀ p ∈ cs, K.lookup p.2.1 = none) ∧
      ∀ base : Heap, K.In base → base.Ns mainGlobals mg → (∀ p ∈ cs, TabB base mg p.1 p.2.1) → FnG l.prog w K mg base 9 fa fd ["_law_script"] (DI.spLaw K (cs.map (·.2))) := by
  letI TI : TabL := ⟨[(TP19, qL_law)]⟩
  letI MI : Mp := ⟨fun x => if x = "InvalidPlan" then EC0 else if x = "InvalidValues" then EC1 else if x = "InvalidText" then EC2 else 0, 0, fun _ => none⟩
  obtain ⟨hT19, hC19⟩ := htf "law" f19 TC19 TP19 _ _ _ _ _ _ _ _ hrec19 (PySem.W.mg_of X G a19) l19 rfl tk19 tp19
  have e := hfa.symm.trans (PySem.W.mg_of X G a19)
  cases e
  have F0 := fun_mk (st := sis_whole) l0 c0 k0
  have b0 := F0.binds (ps := ["thing"]) fun _ _ _ _ _ _ us hl => match us, hl with | [_], _ => rfl
  have F1 := fun_mk (st := sis_from_0_to) l1 c1 k1
  have b1 := F1.binds (ps := ["thing", "limit"]) fun _ _ _ _ _ _ us hl => match us, hl with | [_, _], _ => rfl
  have F2 := fun_mk (st := sis_entry) l2 c2 k2
  have b2 := F2.binds (ps := ["thing", "places"]) fun _ _ _ _ _ _ us hl => match us, hl with | [_, _], _ => rfl
  have F3 := fun_mk (st := sis_pair_of_entries) l3 c3 k3
  have b3 := F3.binds (ps := ["thing", "places"]) fun _ _ _ _ _ _ us hl => match us, hl with | [_, _], _ => rfl
  have F4 := fun_mk (st := scheck_plan) l4 c4 k4
  have b4 := F4.binds (ps := ["plan"]) fun _ _ _ _ _ _ us hl => match us, hl with | [_], _ => rfl
  have F5 := fun_mk (st := scheck_values) l5 c5 k5
  have b5 := F5.binds (ps := ["values"]) fun _ _ _ _ _ _ us hl => match us, hl with | [_], _ => rfl
  have F6 := fun_mk (st := sformat_plan) l6 c6 k6
  have b6 := F6.binds (ps := ["plan"]) fun _ _ _ _ _ _ us hl => match us, hl with | [_], _ => rfl
  have F7 := fun_mk (st := sparse_plan) l7 c7 k7
  have b7 := F7.binds (ps := ["text"]) fun _ _ _ _ _ _ us hl => match us, hl with | [_], _ => rfl
  have F8 := fun_mk (st := sformat_values) l8 c8 k8
  have b8 := F8.binds (ps := ["values"]) fun _ _ _ _ _ _ us hl => match us, hl with | [_], _ => rfl
  have F9 := fun_mk (st := sparse_values) l9 c9 k9
  have b9 := F9.binds (ps := ["text"]) fun _ _ _ _ _ _ us hl => match us, hl with | [_], _ => rfl
  have F10 := fun_mk (st := s_word_of_entry) l10 c10 k10
  have b10 := F10.binds (ps := ["entry"]) fun _ _ _ _ _ _ us hl => match us, hl with | [_], _ => rfl
  have F11 := fun_mk (st := s_pair_of) l11 c11 k11
  have b11 := F11.binds (ps := ["line", "number", "entries"]) fun _ _ _ _ _ _ us hl => match us, hl with | [_, _, _], _ => rfl
  have F12 := fun_mk (st := s_is_number) l12 c12 k12
  have b12 := F12.binds (ps := ["word"]) fun _ _ _ _ _ _ us hl => match us, hl with | [_], _ => rfl
  have F13 := fun_mk (st := s_law_draws) l13 c13 k13
  have b13 := F13.binds (ps := ["_law_cell"]) fun _ _ _ _ _ _ us hl => match us, hl with | [_], _ => rfl
  have F14 := fun_mk (st := s_law_next) l14 c14 k14
  have b14 := F14.binds (ps := ["_law_draws_here"]) fun _ _ _ _ _ _ us hl => match us, hl with | [_], _ => rfl
  have F15 := fun_mk (st := s_law_plan) l15 c15 k15
  have b15 := F15.binds (ps := ["_law_draws_here", "_law_most"]) fun _ _ _ _ _ _ us hl => match us, hl with | [_, _], _ => rfl
  have F16 := fun_mk (st := s_law_values) l16 c16 k16
  have b16 := F16.binds (ps := ["_law_draws_here", "_law_most"]) fun _ _ _ _ _ _ us hl => match us, hl with | [_, _], _ => rfl
  have F17 := fun_mk (st := s_law_kept) l17 c17 k17
  have b17 := F17.binds (ps := ["_law_ask"]) fun _ _ _ _ _ _ us hl => match us, hl with | [_], _ => rfl
  have F18 := fun_mk (st := s_law_right) l18 c18 k18
  have b18 := F18.binds (ps := ["_law_draws_here"]) fun _ _ _ _ _ _ us hl => match us, hl with | [_], _ => rfl
  have F19 := fun_mk (st := slaw) l19 c19 k19
  have B : Bt mg := ⟨PySem.W.mg_none_of X G z0, PySem.W.mg_none_of X G z1, PySem.W.mg_none_of X G z2, PySem.W.mg_none_of X G z3, PySem.W.mg_none_of X G z4, PySem.W.mg_none_of X G z5, PySem.W.mg_none_of X G z6, PySem.W.mg_none_of X G z7, PySem.W.mg_none_of X G z8, PySem.W.mg_none_of X G z9, PySem.W.mg_none_of X G z10, PySem.W.mg_none_of X G z11⟩
  have C : Cs mg := ⟨⟨_, PySem.W.mg_of X G m0⟩, ⟨_, PySem.W.mg_of X G m1⟩, ⟨_, PySem.W.mg_of X G m2⟩, ⟨_, PySem.W.mg_of X G m3⟩⟩
  have hVE := PySem.W.mg_none_of X G z0
  have OB : ObC K := ⟨eob1, eob2⟩
  have ET0 : OexC K EC0 := ⟨⟨_, _, _, _, _, _, _, _, _, _, _, _, _, _, _, ex0, by decide +kernel⟩, esa0, esb0, ety0, ekc0⟩
  have ER0 : ErC K mg "InvalidPlan" EC0 "place" := ⟨PySem.W.mg_of X G ea0, ET0, eno0, ega0, egg0, ehd0, ecl0, emo0⟩
  have EF0 := fun_mk (st := sIInvalidPlan) eli0 eci0 eki0
  have EB0 := EF0.binds (ps := ["self", "place"]) fun _ _ _ _ _ _ us hl => match us, hl with | [_, _], _ => rfl
  have EV0 := kit_type (C := EC0) kmVE eve0
  have ET1 : OexC K EC1 := ⟨⟨_, _, _, _, _, _, _, _, _, _, _, _, _, _, _, ex1, by decide +kernel⟩, esa1, esb1, ety1, ekc1⟩
  have ER1 : ErC K mg "InvalidValues" EC1 "index" := ⟨PySem.W.mg_of X G ea1, ET1, eno1, ega1, egg1, ehd1, ecl1, emo1⟩
  have EF1 := fun_mk (st := sIInvalidValues) eli1 eci1 eki1
  have EB1 := EF1.binds (ps := ["self", "index"]) fun _ _ _ _ _ _ us hl => match us, hl with | [_, _], _ => rfl
  have EV1 := kit_type (C := EC1) kmVE eve1
  have ET2 : OexC K EC2 := ⟨⟨_, _, _, _, _, _, _, _, _, _, _, _, _, _, _, ex2, by decide +kernel⟩, esa2, esb2, ety2, ekc2⟩
  have ER2 : ErC K mg "InvalidText" EC2 "line" := ⟨PySem.W.mg_of X G ea2, ET2, eno2, ega2, egg2, ehd2, ecl2, emo2⟩
  have EF2 := fun_mk (st := sIInvalidText) eli2 eci2 eki2
  have EB2 := EF2.binds (ps := ["self", "line"]) fun _ _ _ _ _ _ us hl => match us, hl with | [_, _], _ => rfl
  have EV2 := kit_type (C := EC2) kmVE eve2
  have EK0_0 := kit_ref (C := EC0) (D := EC0) ehd0 ety0 ep0_0 ep0_0
  have EX0_0 := PySem.W.exm_ref (C := EC0) (cls := .ref EC0) esb0 ehd0 ety0 ep0_0
  have EK0_1 := kit_ref (C := EC0) (D := EC1) ehd1 ety1 ep0_1 ep0_0
  have EX0_1 := PySem.W.exm_ref (C := EC1) (cls := .ref EC0) esb1 ehd1 ety1 ep0_1
  have EK0_2 := kit_ref (C := EC0) (D := EC2) ehd2 ety2 ep0_2 ep0_0
  have EX0_2 := PySem.W.exm_ref (C := EC2) (cls := .ref EC0) esb2 ehd2 ety2 ep0_2
  have EK1_0 := kit_ref (C := EC1) (D := EC0) ehd0 ety0 ep1_0 ep1_1
  have EX1_0 := PySem.W.exm_ref (C := EC0) (cls := .ref EC1) esb0 ehd0 ety0 ep1_0
  have EK1_1 := kit_ref (C := EC1) (D := EC1) ehd1 ety1 ep1_1 ep1_1
  have EX1_1 := PySem.W.exm_ref (C := EC1) (cls := .ref EC1) esb1 ehd1 ety1 ep1_1
  have EK1_2 := kit_ref (C := EC1) (D := EC2) ehd2 ety2 ep1_2 ep1_1
  have EX1_2 := PySem.W.exm_ref (C := EC2) (cls := .ref EC1) esb2 ehd2 ety2 ep1_2
  have EK2_0 := kit_ref (C := EC2) (D := EC0) ehd0 ety0 ep2_0 ep2_2
  have EX2_0 := PySem.W.exm_ref (C := EC0) (cls := .ref EC2) esb0 ehd0 ety0 ep2_0
  have EK2_1 := kit_ref (C := EC2) (D := EC1) ehd1 ety1 ep2_1 ep2_2
  have EX2_1 := PySem.W.exm_ref (C := EC1) (cls := .ref EC2) esb1 ehd1 ety1 ep2_1
  have EK2_2 := kit_ref (C := EC2) (D := EC2) ehd2 ety2 ep2_2 ep2_2
  have EX2_2 := PySem.W.exm_ref (C := EC2) (cls := .ref EC2) esb2 ehd2 ety2 ep2_2
  refine ⟨PySem.W.fnOf "law" "law" (defArgs slaw) (defBody slaw) (defScope slaw) .none kV19 dc19 pm19 an19 (.ref TC19) ct19, [(TC19, TP19, qL_law)], fun s v => .of_eq rfl, (List.forall_mem_cons.mpr ⟨hT19, (fun _ hp => nomatch hp)⟩), (List.forall_mem_cons.mpr ⟨hC19, (fun _ hp => nomatch hp)⟩), (List.forall_mem_cons.mpr ⟨tn19, (fun _ hp => nomatch hp)⟩), fun base _ _ hTB => ?_⟩
  have EE0 : ErI l.prog w K mg base 1 "InvalidPlan" EC0 "place" := ⟨ER0, EI0, _, _, eii0, eti0, okI_InvalidPlan EF0 ET0 eno0 hVE evv, EB0⟩
  have EE1 : ErI l.prog w K mg base 1 "InvalidValues" EC1 "index" := ⟨ER1, EI1, _, _, eii1, eti1, okI_InvalidValues EF1 ET1 eno1 hVE evv, EB1⟩
  have EE2 : ErI l.prog w K mg base 1 "InvalidText" EC2 "line" := ⟨ER2, EI2, _, _, eii2, eti2, okI_InvalidText EF2 ET2 eno2 hVE evv, EB2⟩
  have XT : Xt l.prog w K mg base := ⟨EE0, EE1, EE2, OB, EV0, EV1, EV2, EK0_0, EK0_1, EK0_2, EK1_0, EK1_1, EK1_2, EK2_0, EK2_1, EK2_2, (exmAny_cons' EX0_0 (exmAny_cons' EX0_1 exmAny_nil)), (exmAny_cons' EX1_0 (exmAny_cons' EX1_1 exmAny_nil))⟩
  have T0 := t_is_whole (P := l.prog) (w := w) (base := base) F0 B C XT 
  have D_is_whole : FnC l.prog w K mg base "is_whole" 1 d_is_whole := T0.c (PySem.W.mg_of X G a0) k0 b0
  have T1 := t_is_from_0_to (P := l.prog) (w := w) (base := base) F1 B C XT D_is_whole
  have D_is_from_0_to : FnC l.prog w K mg base "is_from_0_to" 2 d_is_from_0_to := T1.c (PySem.W.mg_of X G a1) k1 b1
  have T2 := t_is_entry (P := l.prog) (w := w) (base := base) F2 B C XT D_is_from_0_to
  have D_is_entry : FnC l.prog w K mg base "is_entry" 3 d_is_entry := T2.c (PySem.W.mg_of X G a2) k2 b2
  have T3 := t_is_pair_of_entries (P := l.prog) (w := w) (base := base) F3 B C XT D_is_entry
  have D_is_pair_of_entries : FnC l.prog w K mg base "is_pair_of_entries" 4 d_is_pair_of_entries := T3.c (PySem.W.mg_of X G a3) k3 b3
  have T4 := t_check_plan (P := l.prog) (w := w) (base := base) F4 B C XT D_is_pair_of_entries
  have D_check_plan : FnC l.prog w K mg base "check_plan" 5 d_check_plan := T4.c (PySem.W.mg_of X G a4) k4 b4
  have T5 := t_check_values (P := l.prog) (w := w) (base := base) F5 B C XT D_is_whole
  have D_check_values : FnC l.prog w K mg base "check_values" 3 d_check_values := T5.c (PySem.W.mg_of X G a5) k5 b5
  have T10 := t__word_of_entry (P := l.prog) (w := w) (base := base) F10 B C XT 
  have D__word_of_entry : FnC l.prog w K mg base "_word_of_entry" 1 d__word_of_entry := T10.c (PySem.W.mg_of X G a10) k10 b10
  have T6 := t_format_plan (P := l.prog) (w := w) (base := base) F6 B C XT D__word_of_entry D_check_plan
  have D_format_plan : FnC l.prog w K mg base "format_plan" 6 d_format_plan := T6.c (PySem.W.mg_of X G a6) k6 b6
  have K_format_plan_0_plan : FnK l.prog w K mg base "format_plan" 6 0 ["plan"] (fun ds => d_format_plan (permL [0] ds)) := T6.kw (PySem.W.mg_of X G a6) k6 [0] 0 ["plan"] fun s us ws _ l1 l2 => match us, l1, ws, l2 with | [], _, [_], _ => .of_eq rfl
  have T11 := t__pair_of (P := l.prog) (w := w) (base := base) F11 B C XT 
  have D__pair_of : FnC l.prog w K mg base "_pair_of" 3 d__pair_of := T11.c (PySem.W.mg_of X G a11) k11 b11
  have T7 := t_parse_plan (P := l.prog) (w := w) (base := base) F7 B C XT D__pair_of D__word_of_entry
  have D_parse_plan : FnC l.prog w K mg base "parse_plan" 4 d_parse_plan := T7.c (PySem.W.mg_of X G a7) k7 b7
  have K_parse_plan_0_text : FnK l.prog w K mg base "parse_plan" 4 0 ["text"] (fun ds => d_parse_plan (permL [0] ds)) := T7.kw (PySem.W.mg_of X G a7) k7 [0] 0 ["text"] fun s us ws _ l1 l2 => match us, l1, ws, l2 with | [], _, [_], _ => .of_eq rfl
  have T8 := t_format_values (P := l.prog) (w := w) (base := base) F8 B C XT D_check_values
  have D_format_values : FnC l.prog w K mg base "format_values" 4 d_format_values := T8.c (PySem.W.mg_of X G a8) k8 b8
  have K_format_values_0_values : FnK l.prog w K mg base "format_values" 4 0 ["values"] (fun ds => d_format_values (permL [0] ds)) := T8.kw (PySem.W.mg_of X G a8) k8 [0] 0 ["values"] fun s us ws _ l1 l2 => match us, l1, ws, l2 with | [], _, [_], _ => .of_eq rfl
  have T12 := t__is_number (P := l.prog) (w := w) (base := base) F12 B C XT 
  have D__is_number : FnC l.prog w K mg base "_is_number" 1 d__is_number := T12.c (PySem.W.mg_of X G a12) k12 b12
  have T9 := t_parse_values (P := l.prog) (w := w) (base := base) F9 B C XT D__is_number
  have D_parse_values : FnC l.prog w K mg base "parse_values" 3 d_parse_values := T9.c (PySem.W.mg_of X G a9) k9 b9
  have K_parse_values_0_text : FnK l.prog w K mg base "parse_values" 3 0 ["text"] (fun ds => d_parse_values (permL [0] ds)) := T9.kw (PySem.W.mg_of X G a9) k9 [0] 0 ["text"] fun s us ws _ l1 l2 => match us, l1, ws, l2 with | [], _, [_], _ => .of_eq rfl
  have T13 := t__law_draws (P := l.prog) (w := w) (base := base) F13 B C XT 
  have D__law_draws : FnC l.prog w K mg base "_law_draws" 1 d__law_draws := T13.c (PySem.W.mg_of X G a13) k13 b13
  have D__law_next : FnM l.prog w K mg base "_law_next" 1 d__law_next := t__law_next F14 B C XT (PySem.W.mg_of X G a14) b14 
  have D__law_plan : FnM l.prog w K mg base "_law_plan" 2 d__law_plan := t__law_plan F15 B C XT (PySem.W.mg_of X G a15) b15 D__law_next
  have D__law_values : FnM l.prog w K mg base "_law_values" 2 d__law_values := t__law_values F16 B C XT (PySem.W.mg_of X G a16) b16 D__law_next
  have D__law_kept : FnT l.prog w K mg base "_law_kept" 7 d__law_kept := t__law_kept F17 B C XT (PySem.W.mg_of X G a17) b17 
  have D__law_right : FnM l.prog w K mg base "_law_right" 7 d__law_right := t__law_right F18 B C XT (PySem.W.mg_of X G a18) b18 K_format_plan_0_plan K_format_values_0_values K_parse_plan_0_text K_parse_values_0_text D__law_plan D__law_values D_format_plan D_format_values D_parse_plan D_parse_values
  exact t_law l19 c19 B C XT (hTB _ (List.mem_cons_self ..)) (List.mem_cons_self ..) (fun p hp _ => by rw [List.mem_singleton.mp hp]) D__law_draws D__law_kept D__law_right D_format_plan D_format_values D_parse_plan D_parse_values (fun c => (DM.draws_ok c).choose) (fun c => (DM.draws_ok c).choose_spec.1) (fun c => qb (DM.draws_ok c).choose_spec.2) qr
end G60
instance tabNone : DL.TabL := ⟨[]⟩
open PySem PySem.W PyProof.Rows
set_option maxRecDepth 100000 in
set_option maxHeartbeats 0 in
theorem PySem.Challenge.cw_halfquick_k60_plans_and_lists_as_texts_holds : PySem.Challenge.rw_halfquick_k60_plans_and_lists_as_texts.Holds := by
  w_on; o_law; k_head; (case hw => w_witness2)
  k_fill
  refine DL.walkT (l := PySem.Challenge.rw_halfquick_k60_plans_and_lists_as_texts) (n := 63) (k := 9) (x := "_law_script") (sp := fun w T => DI.spLaw _ T) rfl (by decide) rfl ⟨rfl, by decide, by decide⟩ (fun w h Y => PySem.W.km_in_of Y) ?F (fun w H a ns T hl tb sq => ⟨a, ns, rfl, hl, sq, tb, fun _ => rfl⟩)
  case F =>
    intro w mg fa h KX G hmg htf
    refine' G60.all_mk KX G hmg htf ?a0 ?l0 ?c0 ?k0 ?a1 ?l1 ?c1 ?k1 ?a2 ?l2 ?c2 ?k2 ?a3 ?l3 ?c3 ?k3 ?a4 ?l4 ?c4 ?k4 ?a5 ?l5 ?c5 ?k5 ?a6 ?l6 ?c6 ?k6 ?a7 ?l7 ?c7 ?k7 ?a8 ?l8 ?c8 ?k8 ?a9 ?l9 ?c9 ?k9 ?a10 ?l10 ?c10 ?k10 ?a11 ?l11 ?c11 ?k11 ?a12 ?l12 ?c12 ?k12 ?a13 ?l13 ?c13 ?k13 ?a14 ?l14 ?c14 ?k14 ?a15 ?l15 ?c15 ?k15 ?a16 ?l16 ?c16 ?k16 ?a17 ?l17 ?c17 ?k17 ?a18 ?l18 ?c18 ?k18 ?a19 ?l19 ?c19 ?k19 ?m0 ?m1 ?m2 ?m3 ?z0 ?z1 ?z2 ?z3 ?z4 ?z5 ?z6 ?z7 ?z8 ?z9 ?z10 ?z11 ?ea0 ?ex0 ?esa0 ?ega0 ?egg0 ?eno0 ?eii0 ?eti0 ?eli0 ?eci0 ?eki0 ?ekc0 ?esb0 ?ety0 ?ehd0 ?ecl0 ?emo0 ?eve0 ?ea1 ?ex1 ?esa1 ?ega1 ?egg1 ?eno1 ?eii1 ?eti1 ?eli1 ?eci1 ?eki1 ?ekc1 ?esb1 ?ety1 ?ehd1 ?ecl1 ?emo1 ?eve1 ?ea2 ?ex2 ?esa2 ?ega2 ?egg2 ?eno2 ?eii2 ?eti2 ?eli2 ?eci2 ?eki2 ?ekc2 ?esb2 ?ety2 ?ehd2 ?ecl2 ?emo2 ?eve2 ?ep0_0 ?ep0_1 ?ep0_2 ?ep1_0 ?ep1_1 ?ep1_2 ?ep2_0 ?ep2_1 ?ep2_2 ?eob1 ?eob2 ?evv ?tk19 ?tp19 ?tn19 ?hrec19
    (case a0 => k_is); (case l0 => k_is); (case c0 => k_is); (case k0 => k_is)
    (case a1 => k_is); (case l1 => k_is); (case c1 => k_is); (case k1 => k_is)
    (case a2 => k_is); (case l2 => k_is); (case c2 => k_is); (case k2 => k_is)
    (case a3 => k_is); (case l3 => k_is); (case c3 => k_is); (case k3 => k_is)
    (case a4 => k_is); (case l4 => k_is); (case c4 => k_is); (case k4 => k_is)
    (case a5 => k_is); (case l5 => k_is); (case c5 => k_is); (case k5 => k_is)
    (case a6 => k_is); (case l6 => k_is); (case c6 => k_is); (case k6 => k_is)
    (case a7 => k_is); (case l7 => k_is); (case c7 => k_is); (case k7 => k_is)
    (case a8 => k_is); (case l8 => k_is); (case c8 => k_is); (case k8 => k_is)
    (case a9 => k_is); (case l9 => k_is); (case c9 => k_is); (case k9 => k_is)
    (case a10 => k_is); (case l10 => k_is); (case c10 => k_is); (case k10 => k_is)
    (case a11 => k_is); (case l11 => k_is); (case c11 => k_is); (case k11 => k_is)
    (case a12 => k_is); (case l12 => k_is); (case c12 => k_is); (case k12 => k_is)
    (case a13 => k_is); (case l13 => k_is); (case c13 => k_is); (case k13 => k_is)
    (case a14 => k_is); (case l14 => k_is); (case c14 => k_is); (case k14 => k_is)
    (case a15 => k_is); (case l15 => k_is); (case c15 => k_is); (case k15 => k_is)
    (case a16 => k_is); (case l16 => k_is); (case c16 => k_is); (case k16 => k_is)
    (case a17 => k_is); (case l17 => k_is); (case c17 => k_is); (case k17 => k_is)
    (case a18 => k_is); (case l18 => k_is); (case c18 => k_is); (case k18 => k_is)
    (case a19 => k_is); (case l19 => k_is); (case c19 => k_is); (case k19 => k_is)
    (case m0 => k_is); (case m1 => k_is); (case m2 => k_is); (case m3 => k_is)
    (case z0 => k_is); (case z1 => k_is); (case z2 => k_is); (case z3 => k_is)
    (case z4 => k_is); (case z5 => k_is); (case z6 => k_is); (case z7 => k_is)
    (case z8 => k_is); (case z9 => k_is); (case z10 => k_is); (case z11 => k_is)
    (case ea0 => k_is); (case ex0 => k_is); (case esa0 => k_is); (case ega0 => k_is)
    (case egg0 => k_is); (case eno0 => k_is); (case eii0 => k_is); (case eti0 => k_is)
    (case eli0 => k_is); (case eci0 => k_is); (case eki0 => k_is); (case ekc0 => k_is)
    (case esb0 => k_is); (case ety0 => k_is); (case ehd0 => k_is); (case ecl0 => k_is)
    (case emo0 => k_is); (case eve0 => k_is); (case ea1 => k_is); (case ex1 => k_is)
    (case esa1 => k_is); (case ega1 => k_is); (case egg1 => k_is); (case eno1 => k_is)
    (case eii1 => k_is); (case eti1 => k_is); (case eli1 => k_is); (case eci1 => k_is)
    (case eki1 => k_is); (case ekc1 => k_is); (case esb1 => k_is); (case ety1 => k_is)
    (case ehd1 => k_is); (case ecl1 => k_is); (case emo1 => k_is); (case eve1 => k_is)
    (case ea2 => k_is); (case ex2 => k_is); (case esa2 => k_is); (case ega2 => k_is)
    (case egg2 => k_is); (case eno2 => k_is); (case eii2 => k_is); (case eti2 => k_is)
    (case eli2 => k_is); (case eci2 => k_is); (case eki2 => k_is); (case ekc2 => k_is)
    (case esb2 => k_is); (case ety2 => k_is); (case ehd2 => k_is); (case ecl2 => k_is)
    (case emo2 => k_is); (case eve2 => k_is); (case ep0_0 => k_is); (case ep0_1 => k_is)
    (case ep0_2 => k_is); (case ep1_0 => k_is); (case ep1_1 => k_is); (case ep1_2 => k_is)
    (case ep2_0 => k_is); (case ep2_1 => k_is); (case ep2_2 => k_is); (case eob1 => k_is)
    (case eob2 => k_is); (case evv => k_is)
    (case tk19 => k_is); (case tp19 => rfl); (case tn19 => first | rfl | kernel_rfl); (case hrec19 => first | rfl | decide +kernel)
