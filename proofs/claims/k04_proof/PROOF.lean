import PyProof.Rows.All
import Wide.All
import OpenK.AllK
import Wide.FinOn
import PySem.Challenge.RW_branchsheets_k04_permutations_judged
import HandS.Base
import HandS.Call
import HandS.List
import HandS.Comp
import HandS.Ends
import HandS.Dict
import HandS.Iter
import HandS.Text
import HandS.Words
import HandS.Exc
import HandS.ExcOwn
import HandS.TryMany
import HandS.IsInst
import HandS.TupAny
import HandS.SortKw
import HandS.Style
import HandS.Gcd
import HandS.Small
import HandS.FStr
import HandS.CallLocal
import HandS.WordsExc
import HandS.WordsList
import HandS.WordsDict
import HandS.Conv
import HandS.SortInts
import KE.KLam
import HandS.Lambda
import HandS.EndBits
import HandS.EndTab
import HandS.AnyAll
import HandS.GenOver
import HandS.GenBody
import KE.GoesEnum
import KE.GoesZip
import HandS.TupMul
import HandS.TupSets
import HandS.Deep
import HandS.ExcInit
import HandS.ExcField
import HandS.TupLe
import PyProof.MinMaxWalk
import PyProof.P3Eq
import PyProof.Walks
import KE.DataEq
set_option Elab.async false
set_option linter.all false
set_option maxRecDepth 100000
set_option autoImplicit false
/-! values as data; owned objects; the relation of a mirror's state to the machine's -/
namespace Mi
open PySem L2

/-- plain data, without the heap -/
inductive D where
  | non | bl (b : Bool) | int (i : Int) | str (x : Str) | ref (a : Addr) | tup (xs : List D) | lst (xs : List D) | emp

mutual
/-- v stands for d, by the objects of S -/
def Den (K : PySem.W.Frag) (S : Hp) : D → V → Prop
  | .non, v => v = .non
  | .bl b, v => v = .bl b
  | .int i, v => v = .int i
  | .str x, v => v = .str x
  | .ref a, v => v = .ref a
  | .tup ds, v => ∃ a vs, v = .ref a ∧ SqT K S a vs ∧ DenL K S ds vs
  | .lst ds, v => ∃ a vs, v = .ref a ∧ SqL K S a vs ∧ DenL K S ds vs
  | .emp, v => ∃ a, v = .ref a ∧ S a = some (.dK [])
def DenL (K : PySem.W.Frag) (S : Hp) : List D → List V → Prop
  | [], vs => vs = []
  | d :: ds, vs => ∃ v r, vs = v :: r ∧ Den K S d v ∧ DenL K S ds r
end

theorem sqL_same {K : PySem.W.Frag} {S S' : Hp} {a : Addr} {vs : List V} (e : Same S S') (h : SqL K S a vs) : SqL K S' a vs := e.seq h
theorem sqT_same {K : PySem.W.Frag} {S S' : Hp} {a : Addr} {vs : List V} (e : Same S S') (h : SqT K S a vs) : SqT K S' a vs := by
  rcases h with (h | ⟨o, h⟩) | h
  · exact .inl (.inl (e _ _ h))
  · exact .inl (.inr ⟨o, e _ _ h⟩)
  · exact .inr h
mutual
theorem Den.same {K : PySem.W.Frag} {S S' : Hp} (e : Same S S') : ∀ {d : D} {v : V}, Den K S d v → Den K S' d v
  | .non, _, h => h
  | .bl _, _, h => h
  | .int _, _, h => h
  | .str _, _, h => h
  | .ref _, _, h => h
  | .tup ds, v, h => by
    unfold Den at h ⊢
    obtain ⟨a, vs, r, s, l⟩ := h
    exact ⟨a, vs, r, sqT_same e s, DenL.same e l⟩
  | .lst ds, v, h => by
    unfold Den at h ⊢
    obtain ⟨a, vs, r, s, l⟩ := h
    exact ⟨a, vs, r, sqL_same e s, DenL.same e l⟩
  | .emp, v, h => by
    unfold Den at h ⊢
    obtain ⟨a, r, s⟩ := h
    exact ⟨a, r, e _ _ s⟩
theorem DenL.same {K : PySem.W.Frag} {S S' : Hp} (e : Same S S') : ∀ {ds : List D} {vs : List V}, DenL K S ds vs → DenL K S' ds vs
  | [], _, h => h
  | d :: ds, vs, h => by
    unfold DenL at h ⊢
    obtain ⟨v, r, e1, h1, h2⟩ := h
    exact ⟨v, r, e1, Den.same e h1, DenL.same e h2⟩
end
section
variable {K : PySem.W.Frag} {S S' H H' : Hp}
theorem DenL.length : ∀ {ds : List D} {vs : List V}, DenL K S ds vs → vs.length = ds.length
  | [], _, h => by unfold DenL at h; subst h; rfl
  | d :: ds, vs, h => by
    unfold DenL at h
    obtain ⟨v, r, rfl, _, h2⟩ := h
    simp [DenL.length h2]
theorem DenL.nil : DenL K S [] [] := by unfold DenL; rfl
theorem DenL.cons {d : D} {v : V} {ds : List D} {vs : List V} (h : Den K S d v) (t : DenL K S ds vs) : DenL K S (d :: ds) (v :: vs) := by
  unfold DenL; exact ⟨v, vs, rfl, h, t⟩
theorem DenL.get : ∀ {ds : List D} {vs : List V} {i : Nat} {d : D}, DenL K S ds vs → ds[i]? = some d → ∃ v, vs[i]? = some v ∧ Den K S d v
  | [], _, i, d, _, e => by simp at e
  | d :: ds, vs, 0, d', h, e => by
    unfold DenL at h
    obtain ⟨v, r, rfl, h1, h2⟩ := h
    simp at e; subst e
    exact ⟨v, rfl, h1⟩
  | d :: ds, vs, i + 1, d', h, e => by
    unfold DenL at h
    obtain ⟨v, r, rfl, h1, h2⟩ := h
    obtain ⟨u, e1, e2⟩ := DenL.get h2 (by simpa using e)
    exact ⟨u, by simpa using e1, e2⟩
theorem DenL.getv : ∀ {ds : List D} {vs : List V} {i : Nat} {v : V}, DenL K S ds vs → vs[i]? = some v → ∃ d, ds[i]? = some d ∧ Den K S d v
  | [], vs, i, v, h, e => by unfold DenL at h; subst h; simp at e
  | d :: ds, vs, 0, v', h, e => by
    unfold DenL at h
    obtain ⟨v, r, rfl, h1, h2⟩ := h
    simp at e; subst e
    exact ⟨d, rfl, h1⟩
  | d :: ds, vs, i + 1, v', h, e => by
    unfold DenL at h
    obtain ⟨v, r, rfl, h1, h2⟩ := h
    obtain ⟨u, e1, e2⟩ := DenL.getv h2 (by simpa using e)
    exact ⟨u, by simpa using e1, e2⟩
theorem DenL.append : ∀ {ds es : List D} {vs us : List V}, DenL K S ds vs → DenL K S es us → DenL K S (ds ++ es) (vs ++ us)
  | [], _, _, _, h, q => by unfold DenL at h; subst h; exact q
  | d :: ds, es, vs, us, h, q => by
    unfold DenL at h
    obtain ⟨v, r, rfl, h1, h2⟩ := h
    exact DenL.cons h1 (DenL.append h2 q)
theorem DenL.set : ∀ {ds : List D} {vs : List V} (i : Nat) {d : D} {v : V}, DenL K S ds vs → Den K S d v → DenL K S (ds.set i d) (vs.set i v)
  | [], _, _, _, _, h, _ => by unfold DenL at h; subst h; exact DenL.nil
  | d :: ds, vs, 0, d', v', h, q => by
    unfold DenL at h
    obtain ⟨v, r, rfl, h1, h2⟩ := h
    exact DenL.cons q h2
  | d :: ds, vs, i + 1, d', v', h, q => by
    unfold DenL at h
    obtain ⟨v, r, rfl, h1, h2⟩ := h
    exact DenL.cons h1 (DenL.set i h2 q)
theorem DenL.take : ∀ {ds : List D} {vs : List V} (n : Nat), DenL K S ds vs → DenL K S (ds.take n) (vs.take n)
  | _, _, 0, _ => by simp; exact DenL.nil
  | [], vs, n + 1, h => by unfold DenL at h; subst h; exact DenL.nil
  | d :: ds, vs, n + 1, h => by
    unfold DenL at h
    obtain ⟨v, r, rfl, h1, h2⟩ := h
    exact DenL.cons h1 (DenL.take n h2)
theorem DenL.drop : ∀ {ds : List D} {vs : List V} (n : Nat), DenL K S ds vs → DenL K S (ds.drop n) (vs.drop n)
  | _, _, 0, h => h
  | [], vs, n + 1, h => by unfold DenL at h; subst h; exact DenL.nil
  | d :: ds, vs, n + 1, h => by
    unfold DenL at h
    obtain ⟨v, r, rfl, h1, h2⟩ := h
    exact DenL.drop n h2
theorem DenL.eraseIdx : ∀ {ds : List D} {vs : List V} (n : Nat), DenL K S ds vs → DenL K S (ds.eraseIdx n) (vs.eraseIdx n)
  | [], vs, n, h => by unfold DenL at h; subst h; exact DenL.nil
  | d :: ds, vs, 0, h => by
    unfold DenL at h
    obtain ⟨v, r, rfl, h1, h2⟩ := h
    exact h2
  | d :: ds, vs, n + 1, h => by
    unfold DenL at h
    obtain ⟨v, r, rfl, h1, h2⟩ := h
    exact DenL.cons h1 (DenL.eraseIdx n h2)
theorem DenL.reverse : ∀ {ds : List D} {vs : List V}, DenL K S ds vs → DenL K S ds.reverse vs.reverse
  | [], vs, h => by unfold DenL at h; subst h; exact DenL.nil
  | d :: ds, vs, h => by
    unfold DenL at h
    obtain ⟨v, r, rfl, h1, h2⟩ := h
    simp only [List.reverse_cons]
    exact DenL.append (DenL.reverse h2) (DenL.cons h1 DenL.nil)
theorem DenL.ints : ∀ {ns : List Int} {vs : List V}, DenL K S (ns.map D.int) vs → vs = ns.map V.int
  | [], vs, h => by simpa [DenL] using h
  | n :: ns, vs, h => by
    simp only [List.map_cons] at h
    unfold DenL at h
    obtain ⟨v, r, rfl, h1, h2⟩ := h
    unfold Den at h1
    rw [h1, DenL.ints h2]; rfl
theorem DenL.of_ints : ∀ {ns : List Int}, DenL K S (ns.map D.int) (ns.map V.int)
  | [] => DenL.nil
  | n :: ns => DenL.cons (by unfold Den; rfl) DenL.of_ints
theorem DenL.bls : ∀ {ns : List Bool} {vs : List V}, DenL K S (ns.map D.bl) vs → vs = ns.map V.bl
  | [], vs, h => by simpa [DenL] using h
  | n :: ns, vs, h => by
    simp only [List.map_cons] at h
    unfold DenL at h
    obtain ⟨v, r, rfl, h1, h2⟩ := h
    unfold Den at h1
    rw [h1, DenL.bls h2]; rfl
end

/-! ### owned objects -/
inductive Mo where
  | lst (xs : List D) | dic (kvs : List (Key × D))
def KDen (K : PySem.W.Frag) (S : Hp) : List (Key × D) → List (Key × V) → Prop
  | [], vs => vs = []
  | p :: ds, vs => ∃ v r, vs = (p.1, v) :: r ∧ Den K S p.2 v ∧ KDen K S ds r
def MoOk (K : PySem.W.Frag) (S : Hp) : Mo → HO → Prop
  | .lst xs, o => ∃ vs, o = .lst vs ∧ DenL K S xs vs
  | .dic kvs, o => ∃ vs, o = .dK vs ∧ KDen K S kvs vs
theorem KDen.same {K : PySem.W.Frag} {S S' : Hp} (e : Same S S') : ∀ {ds : List (Key × D)} {vs : List (Key × V)}, KDen K S ds vs → KDen K S' ds vs
  | [], _, h => h
  | p :: ds, vs, h => by
    obtain ⟨v, r, e1, h1, h2⟩ := h
    exact ⟨v, r, e1, h1.same e, KDen.same e h2⟩
theorem MoOk.same {K : PySem.W.Frag} {S S' : Hp} (e : Same S S') {m : Mo} {o : HO} (h : MoOk K S m o) : MoOk K S' m o := by
  cases m with
  | lst xs => obtain ⟨vs, r, l⟩ := h; exact ⟨vs, r, l.same e⟩
  | dic kvs => obtain ⟨vs, r, l⟩ := h; exact ⟨vs, r, l.same e⟩
theorem MoOk.mut {K : PySem.W.Frag} {S : Hp} {m : Mo} {o : HO} (h : MoOk K S m o) : Mut (some o) := by
  cases m with
  | lst xs => obtain ⟨vs, rfl, l⟩ := h; trivial
  | dic kvs => obtain ⟨vs, rfl, l⟩ := h; trivial

inductive Cell where
  | no | val (d : D) | own (bor : Bool) (o : Mo)
abbrev Rho := List Cell
abbrev Sg := L2.St

def CellOk (K : PySem.W.Frag) (S H : Hp) (v : Option (Option V)) : Cell → Prop
  | .no => True
  | .val d => ∃ u, v = some (some u) ∧ Den K S d u
  | .own _ o => ∃ a ho, v = some (some (.ref a)) ∧ H a = some ho ∧ S a = none ∧ MoOk K S o ho
def Own (σ : Sg) (ρ : Rho) (a : Addr) : Prop := ∃ (i : Nat) (b : Bool) (o : Mo), ρ[i]? = some (.own b o) ∧ σ[i]? = some (some (.ref a))
/-! ### the tables of the defs' code objects: known by what stays true of them -/
def tabOk (P : Addr) (h : Heap) : Prop := ∃ ps : Array Value, h.get? P = some { cls := .none, data := .fields ps } ∧ TriplesOk ps.toList
def tabH (P : Addr) : HO := .ext (tabOk P)
def tabA (K : PySem.W.Frag) (a : Addr) : Option Addr := match (K.lookup a : Option Obj) with
  | some o => match o.data with
    | .func fd => match fd.code with
      | Value.ref c => match (K.lookup c : Option Obj) with
        | some oc => match oc.data with
          | .fields vs => match (vs[11]? : Option Value) with
            | some (Value.ref P) => if fd.name = fd.qualname then some P else none
            | _ => none
          | _ => none
        | none => none
      | _ => none
    | _ => none
  | none => none
def tabsOf (K : PySem.W.Frag) : List Addr := (K.map (·.1)).filterMap (tabA K)
def Tabs (K : PySem.W.Frag) (S : Hp) : Prop := ∀ P ∈ tabsOf K, S P = some (tabH P)
theorem Tabs.same {K : PySem.W.Frag} {S S' : Hp} (e : Same S S') (h : Tabs K S) : Tabs K S' := fun P m => e P _ (h P m)
structure Rel (K : PySem.W.Frag) (S H : Hp) (σ : Sg) (ρ : Rho) : Prop where
  sub : Same S H
  len : σ.length = ρ.length
  cell : ∀ (i : Nat) (c : Cell), ρ[i]? = some c → CellOk K S H σ[i]? c
  dist : ∀ (i j : Nat) (b b' : Bool) (o o' : Mo), ρ[i]? = some (.own b o) → ρ[j]? = some (.own b' o') → σ[i]? = σ[j]? → i = j
  tab : Tabs K S := by first | exact R.tab | exact R.tab.same sm | exact Tabs.same (by assumption) (Rel.tab (by assumption))
def OwnF (σ : Sg) (ρ : Rho) (a : Addr) : Prop := ∃ (i : Nat) (o : Mo), ρ[i]? = some (.own false o) ∧ σ[i]? = some (some (.ref a))
/-- what a piece of code has done -/
structure Stp (S H : Hp) (σ : Sg) (ρ : Rho) (S' H' : Hp) (σ' : Sg) (ρ' : Rho) : Prop where
  ex : Same S S'
  fr : ∀ b o, H b = some o → ¬ Own σ ρ b → H' b = some o
  th : ∀ b, H' b = none → H b = none
  nw : ∀ b o, S' b = some o → S b = some o ∨ H b = none ∨ Own σ ρ b
  ow : ∀ b, Own σ' ρ' b → Own σ ρ b ∨ H b = none
  owf : ∀ b, OwnF σ' ρ' b → OwnF σ ρ b ∨ H b = none
  bo : ∀ (i : Nat) o, ρ[i]? = some (.own true o) → σ'[i]? = σ[i]? ∧ ∃ o', ρ'[i]? = some (.own true o')
  ln : ρ'.length = ρ.length
section
variable {K : PySem.W.Frag} {S S' S1 S2 H H' H1 H2 : Hp} {σ σ' σ1 σ2 : Sg} {ρ ρ' ρ1 ρ2 : Rho}
theorem OwnF.own {a : Addr} (h : OwnF σ ρ a) : Own σ ρ a := let ⟨i, o, e⟩ := h; ⟨i, false, o, e⟩
theorem Stp.refl : Stp S H σ ρ S H σ ρ := ⟨Same.refl _, fun _ _ h _ => h, fun _ h => h, fun _ _ h => .inl h, fun _ h => .inl h, fun _ h => .inl h, fun i o h => ⟨rfl, o, h⟩, rfl⟩
theorem Stp.trans (a : Stp S H σ ρ S1 H1 σ1 ρ1) (b : Stp S1 H1 σ1 ρ1 S2 H2 σ2 ρ2) : Stp S H σ ρ S2 H2 σ2 ρ2 where
  ex := a.ex.trans b.ex
  fr := fun c o h n => b.fr c o (a.fr c o h n) fun z => by
    rcases a.ow c z with z | z
    · exact n z
    · rw [h] at z; cases z
  th := fun c h => a.th c (b.th c h)
  nw := fun c o h => by
    rcases b.nw c o h with z | z | z
    · exact a.nw c o z
    · exact .inr (.inl (a.th c z))
    · rcases a.ow c z with z | z
      · exact .inr (.inr z)
      · exact .inr (.inl z)
  ow := fun c h => by
    rcases b.ow c h with z | z
    · exact a.ow c z
    · exact .inr (a.th c z)
  owf := fun c h => by
    rcases b.owf c h with z | z
    · exact a.owf c z
    · exact .inr (a.th c z)
  bo := fun i o h => by
    obtain ⟨e1, o1, h1⟩ := a.bo i o h
    obtain ⟨e2, o2, h2⟩ := b.bo i o1 h1
    exact ⟨e2.trans e1, o2, h2⟩
  ln := b.ln.trans a.ln
theorem Rel.own_ne (R : Rel K S H σ ρ) {a : Addr} {o : HO} (h : S a = some o) : ¬ Own σ ρ a := fun ⟨i, b, m, e, f⟩ => by
  obtain ⟨a', ho, e1, _, n, _⟩ := R.cell i _ e
  rw [f] at e1; cases e1
  rw [h] at n; cases n
theorem Rel.own_some (R : Rel K S H σ ρ) {a : Addr} (h : Own σ ρ a) : ∃ o, H a = some o ∧ Mut (some o) := by
  obtain ⟨i, b, m, e, f⟩ := h
  obtain ⟨a', ho, e1, e2, n, k⟩ := R.cell i _ e
  rw [f] at e1; cases e1
  exact ⟨ho, e2, k.mut⟩
/-- things have come; what was there stays -/
structure Grow (S H S' H' : Hp) : Prop where
  h : Same H H'
  s : Same S S'
  sub : Same S' H'
  nw : ∀ b o, S' b = some o → S b = some o ∨ H b = none

theorem Grow.refl (h : Same S H) : Grow S H S H := ⟨Same.refl _, Same.refl _, h, fun _ _ h => .inl h⟩
theorem Grow.trans (a : Grow S H S1 H1) (b : Grow S1 H1 S2 H2) : Grow S H S2 H2 := ⟨a.h.trans b.h, a.s.trans b.s, b.sub, fun c o h => by
  rcases b.nw c o h with z | z
  · exact a.nw c o z
  · exact .inr (L2.Same.free a.h z)⟩
theorem Rel.laid (R : Rel K S H σ ρ) (g : Grow S H S' H') : Rel K S' H' σ ρ where
  sub := g.sub
  tab := R.tab.same g.s
  len := R.len
  cell := fun i c e => by
    have q := R.cell i c e
    cases c with
    | no => trivial
    | val d => obtain ⟨u, e1, e2⟩ := q; exact ⟨u, e1, e2.same g.s⟩
    | own b o =>
      obtain ⟨a, ho, e1, e2, e3, e4⟩ := q
      refine ⟨a, ho, e1, g.h _ _ e2, ?_, e4.same g.s⟩
      cases z : S' a with
      | none => rfl
      | some u =>
        rcases g.nw a u z with y | y
        · rw [e3] at y; cases y
        · rw [e2] at y; cases y
  dist := R.dist
theorem Stp.laid (g : Grow S H S' H') : Stp S H σ ρ S' H' σ ρ :=
  ⟨g.s, fun b o h _ => g.h b o h, fun b h => L2.Same.free g.h h, fun b o h => (g.nw b o h).elim .inl fun z => .inr (.inl z), fun _ h => .inl h, fun _ h => .inl h, fun i o h => ⟨rfl, o, h⟩, rfl⟩
theorem same_upd {a : Addr} {o : HO} (h : H a = none) : Same H (upd H a o) := fun b x e => by
  rw [upd_ne (ne_of_none e h)]
  exact e
/-- a new object, stable -/
theorem Grow.stable (hs : Same S H) {a : Addr} {o : HO} (h : H a = none) : Grow S H (upd S a o) (upd H a o) where
  h := same_upd h
  s := same_upd (L2.Same.free hs h)
  sub := fun b u e => by
    by_cases z : b = a
    · subst z; rw [upd_same] at e ⊢; exact e
    · rw [upd_ne z] at e ⊢; exact hs b u e
  nw := fun b u e => by
    by_cases z : b = a
    · subst z; exact .inr h
    · rw [upd_ne z] at e; exact .inl e
/-- a new object, not stable -/
theorem Grow.loose (hs : Same S H) {a : Addr} {o : HO} (h : H a = none) : Grow S H S (upd H a o) where
  h := same_upd h
  s := Same.refl _
  sub := hs.trans (same_upd h)
  nw := fun b u e => .inl e

/-! ### what an expression gives -/
inductive EV where
  | d (d : D) | new (o : Mo) | slot (i : Nat)
def EvOk (K : PySem.W.Frag) (σ0 : Sg) (ρ0 : Rho) (H0 S H : Hp) (σ : Sg) (ρ : Rho) (v : V) : EV → Prop
  | .d d => Den K S d v
  | .new o => ∃ a ho, v = .ref a ∧ H a = some ho ∧ S a = none ∧ ¬ Own σ ρ a ∧ MoOk K S o ho ∧ (H0 a = none ∨ OwnF σ0 ρ0 a)
  | .slot i => σ[i]? = some (some v)
/-- .. of a rule that lays objects at most -/
def EvG (K : PySem.W.Frag) (H S' H' : Hp) (v : V) : EV → Prop
  | .d d => Den K S' d v
  | .new o => ∃ a ho, v = .ref a ∧ H a = none ∧ H' a = some ho ∧ S' a = none ∧ MoOk K S' o ho
  | .slot _ => False
theorem EvOk.step {σ0 : Sg} {ρ0 : Rho} {H0 : Hp} {v : V} {ev : EV} (h : EvOk K σ0 ρ0 H0 S1 H1 σ ρ1 v ev) (s : Stp S1 H1 σ ρ1 S2 H2 σ ρ2) : EvOk K σ0 ρ0 H0 S2 H2 σ ρ2 v ev := by
  cases ev with
  | d d => exact Den.same s.ex h
  | slot i => exact h
  | new o =>
    obtain ⟨a, ho, e, e1, e2, e3, e4, e5⟩ := h
    refine ⟨a, ho, e, s.fr _ _ e1 e3, ?_, fun z => ?_, e4.same s.ex, e5⟩
    · cases z : S2 a with
      | none => rfl
      | some u =>
        rcases s.nw a u z with y | y | y
        · rw [e2] at y; cases y
        · rw [e1] at y; cases y
        · exact (e3 y).elim
    · rcases s.ow a z with y | y
      · exact e3 y
      · rw [e1] at y; cases y
theorem EvOk.back {σ0 : Sg} {ρ0 : Rho} {S0 H0 : Hp} {v : V} {ev : EV} (s : Stp S0 H0 σ0 ρ0 S1 H1 σ1 ρ1) (h : EvOk K σ1 ρ1 H1 S2 H2 σ2 ρ2 v ev) : EvOk K σ0 ρ0 H0 S2 H2 σ2 ρ2 v ev := by
  cases ev with
  | d d => exact h
  | slot i => exact h
  | new o =>
    obtain ⟨a, ho, e, e1, e2, e3, e4, e5⟩ := h
    refine ⟨a, ho, e, e1, e2, e3, e4, ?_⟩
    rcases e5 with z | z
    · exact .inl (s.th _ z)
    · exact (s.owf a z).symm
theorem EvG.ok (R : Rel K S H σ ρ) {v : V} {ev : EV} (h : EvG K H S' H' v ev) : EvOk K σ ρ H S' H' σ ρ v ev := by
  cases ev with
  | d d => exact h
  | slot i => exact h.elim
  | new o =>
    obtain ⟨a, ho, e, e1, e2, e3, e4⟩ := h
    refine ⟨a, ho, e, e2, e3, fun z => ?_, e4, .inl e1⟩
    obtain ⟨o, z, _⟩ := R.own_some z
    rw [e1] at z; cases z
/-- readable just now -/
def Seen (K : PySem.W.Frag) (S H : Hp) : D → V → Prop
  | .lst ds, v => ∃ a vs, v = .ref a ∧ SqL K H a vs ∧ DenL K S ds vs
  | d, v => Den K S d v
theorem Den.seen (hs : Same S H) : ∀ {d : D} {v : V}, Den K S d v → Seen K S H d v
  | .non, _, h => h
  | .bl _, _, h => h
  | .int _, _, h => h
  | .str _, _, h => h
  | .ref _, _, h => h
  | .tup _, _, h => h
  | .emp, _, h => h
  | .lst ds, v, h => by
    unfold Den at h
    obtain ⟨a, vs, r, s, l⟩ := h
    exact ⟨a, vs, r, sqL_same hs s, l⟩
/-- its content -/
def Mo.rd : Mo → Option D
  | .lst xs => some (.lst xs)
  | .dic _ => none
def Cell.rd : Cell → Option D
  | .no => none
  | .val d => some d
  | .own _ o => o.rd
def rd (ρ : Rho) : EV → Option D
  | .d d => some d
  | .new o => o.rd
  | .slot i => (ρ[i]?).bind Cell.rd
theorem rd_seen (R : Rel K S H σ ρ) {σ0 : Sg} {ρ0 : Rho} {H0 : Hp} {v : V} {ev : EV} {d : D} (h : EvOk K σ0 ρ0 H0 S H σ ρ v ev) (e : rd ρ ev = some d) : Seen K S H d v := by
  have mo : ∀ {a : Addr} {ho : HO} {o : Mo}, v = .ref a → H a = some ho → MoOk K S o ho → o.rd = some d → Seen K S H d v := fun {a ho o} e1 e2 e3 e4 => by
    cases o with
    | lst xs =>
      obtain ⟨vs, rfl, l⟩ := e3
      simp only [Mo.rd, Option.some.injEq] at e4
      subst e4
      exact ⟨a, vs, e1, SqL.of e2, l⟩
    | dic kvs => simp [Mo.rd] at e4
  cases ev with
  | d d' =>
    simp only [rd, Option.some.injEq] at e
    subst e
    exact Den.seen R.sub h
  | new o =>
    obtain ⟨a, ho, e1, e2, _, _, e3, _⟩ := h
    exact mo e1 e2 e3 e
  | slot i =>
    have hv : σ[i]? = some (some v) := h
    simp only [rd] at e
    cases q : ρ[i]? with
    | none => rw [q] at e; cases e
    | some c =>
      rw [q] at e
      have ce : c.rd = some d := e
      have k := R.cell i c q
      cases c with
      | no => cases ce
      | val d' =>
        obtain ⟨u, e1, e2⟩ := k
        rw [hv] at e1; cases e1
        simp only [Cell.rd, Option.some.injEq] at ce
        subst ce
        exact Den.seen R.sub e2
      | own b o =>
        obtain ⟨a, ho, e1, e2, _, e4⟩ := k
        rw [hv] at e1; cases e1
        exact mo rfl e2 e4 ce
end
end Mi

set_option Elab.async false
set_option linter.all false
set_option maxRecDepth 100000
set_option autoImplicit false
namespace Mi
open PySem L2

/-! ### results of a mirror -/
inductive Exn where
  | mal | refd (d : D) | nt (d : D)
structure XC where
  mal : Addr
  refd : Addr
  nt : Addr
def XOk (K : PySem.W.Frag) (xc : XC) (S H : Hp) : Exn → Value → Option Addr → Prop
  | .mal, c, dx => c = .ref xc.mal ∧ dx = none
  | .refd d, c, dx => c = .ref xc.refd ∧ ∃ a v, dx = some a ∧ H a = some (.xd [(("reason" : Str), v)]) ∧ Den K S d v
  | .nt d, c, dx => c = .ref xc.nt ∧ ∃ a v, dx = some a ∧ H a = some (.xd [(("at" : Str), v)]) ∧ Den K S d v
inductive R (α : Type) where
  | ok (a : α) (ρ : Rho) | exn (x : Exn) (ρ : Rho) | stuck
def R.bind {α β : Type} (r : R α) (f : α → Rho → R β) : R β := match r with
  | .ok a ρ => f a ρ
  | .exn x ρ => .exn x ρ
  | .stuck => .stuck
def R.of {α : Type} (o : Option α) (ρ : Rho) : R α := match o with
  | some a => .ok a ρ
  | none => .stuck
def ROk {α : Type} (P : α → Rho → Prop) (X : Exn → Rho → Prop) : R α → Prop
  | .ok a ρ => P a ρ
  | .exn x ρ => X x ρ
  | .stuck => False
theorem ROk.bind {α β : Type} {P : β → Rho → Prop} {X : Exn → Rho → Prop} {r : R α} {f : α → Rho → R β} (h : ROk P X (r.bind f)) : ROk (fun a ρ => ROk P X (f a ρ)) X r := by
  cases r <;> exact h
theorem ROk.mono {α : Type} {P P' : α → Rho → Prop} {X X' : Exn → Rho → Prop} {r : R α} (h : ROk P X r) (hP : ∀ a ρ, P a ρ → P' a ρ) (hX : ∀ x ρ, X x ρ → X' x ρ) : ROk P' X' r := by
  cases r with
  | ok a ρ => exact hP a ρ h
  | exn x ρ => exact hX x ρ h
  | stuck => exact h
theorem ROk.of {α : Type} {P : α → Rho → Prop} {X : Exn → Rho → Prop} {o : Option α} {ρ : Rho} (h : ROk P X (R.of o ρ)) : ∃ a, o = some a ∧ P a ρ := by
  cases o with
  | none => exact h.elim
  | some a => exact ⟨a, rfl, h⟩
inductive Out where
  | nx (ρ : Rho) | rt (e : EV) (ρ : Rho) | bk (ρ : Rho) | ct (ρ : Rho) | exn (x : Exn) (ρ : Rho) | stuck

/-! ### what is wanted behind -/
section
variable (K : PySem.W.Frag) (xc : XC) (W : WX)
def XPost (S H : Hp) (σ : Sg) (ρ : Rho) (x : Exn) (ρ' : Rho) : Prop := ∀ S' H' σ' c dx, Stp S H σ ρ S' H' σ' ρ' → Rel K S' H' σ' ρ' → XOk K xc S' H' x c dx → W c dx σ' H'
def EPost (S H : Hp) (σ : Sg) (ρ : Rho) (Q : VK) (ev : EV) (ρ' : Rho) : Prop := ∀ S' H' v, Stp S H σ ρ S' H' σ ρ' → Rel K S' H' σ ρ' → EvOk K σ ρ H S' H' σ ρ' v ev → Q v H'
def TPost (S H : Hp) (σ : Sg) (ρ : Rho) (Q : Bool → Hp → Prop) (b : Bool) (ρ' : Rho) : Prop := ∀ S' H', Stp S H σ ρ S' H' σ ρ' → Rel K S' H' σ ρ' → Q b H'
def EvsOk (σ0 : Sg) (ρ0 : Rho) (H0 S H : Hp) (σ : Sg) (ρ : Rho) : List V → List EV → Prop
  | [], [] => True
  | v :: vs, e :: es => EvOk K σ0 ρ0 H0 S H σ ρ v e ∧ EvsOk σ0 ρ0 H0 S H σ ρ vs es
  | _, _ => False
def APost (S H : Hp) (σ : Sg) (ρ : Rho) (Q : List V → Hp → Prop) (evs : List EV) (ρ' : Rho) : Prop := ∀ S' H' vs, Stp S H σ ρ S' H' σ ρ' → Rel K S' H' σ ρ' → EvsOk K σ ρ H S' H' σ ρ' vs evs → Q vs H'
def SPost (D : Ends) (S H : Hp) (σ : Sg) (ρ : Rho) : Out → Prop
  | .nx ρ' => ∀ S' H' σ', Stp S H σ ρ S' H' σ' ρ' → Rel K S' H' σ' ρ' → D.nx σ' H'
  | .bk ρ' => ∀ S' H' σ', Stp S H σ ρ S' H' σ' ρ' → Rel K S' H' σ' ρ' → D.bk σ' H'
  | .ct ρ' => ∀ S' H' σ', Stp S H σ ρ S' H' σ' ρ' → Rel K S' H' σ' ρ' → D.ct σ' H'
  | .rt ev ρ' => ∀ S' H' σ' v, Stp S H σ ρ S' H' σ' ρ' → Rel K S' H' σ' ρ' → EvOk K σ ρ H S' H' σ' ρ' v ev → D.rt v H'
  | .exn x ρ' => XPost K xc W S H σ ρ x ρ'
  | .stuck => False
def JE (t : TE) (m : Rho → R EV) : Prop := ∀ S H σ ρ Q, Rel K S H σ ρ → ROk (EPost K S H σ ρ Q) (XPost K xc W S H σ ρ) (m ρ) → t σ H Q
def JT (t : TT) (m : Rho → R Bool) : Prop := ∀ S H σ ρ Q, Rel K S H σ ρ → ROk (TPost K S H σ ρ Q) (XPost K xc W S H σ ρ) (m ρ) → t σ H Q
def JA (t : TA) (m : Rho → R (List EV)) : Prop := ∀ S H σ ρ Q, Rel K S H σ ρ → ROk (APost K S H σ ρ Q) (XPost K xc W S H σ ρ) (m ρ) → t σ H Q
def JS (t : TS) (m : Rho → Out) : Prop := ∀ S H σ ρ D, Rel K S H σ ρ → SPost K xc W D S H σ ρ (m ρ) → t D σ H
/-- a target -/
def JG (g : TG) (sl : List Nat) (m : D → Rho → Option Rho) : Prop := ∀ S H σ ρ v d ρ' Q, Rel K S H σ ρ → Den K S d v → m d ρ = some ρ' →
  (∀ σ', Stp S H σ ρ S H σ' ρ' → Rel K S H σ' ρ' → (σ'.length = σ.length ∧ ∀ j : Nat, j ∉ sl → σ'[j]? = σ[j]?) → Q σ' H) → g v σ H Q
/-- what is walked: the items, the sources stable -/
def ItOk (S : Hp) (ds : List D) (J : It) : Prop := ∀ S1 H1, Same S S1 → Same S1 H1 → ∀ i : Nat,
  (i < ds.length → J.go i H1 ∧ ∀ x H2, J.yld i H1 x H2 → ∃ S2, Grow S1 H1 S2 H2 ∧ ∃ d, ds[i]? = some d ∧ Den K S2 d x) ∧ (ds.length ≤ i → J.stop i H1)
def IPost (S H : Hp) (σ : Sg) (ρ : Rho) (Rq : It → Hp → Prop) (ds : List D) (ρ' : Rho) : Prop := ∀ S' H' J, Stp S H σ ρ S' H' σ ρ' → Rel K S' H' σ ρ' → ItOk K S' ds J → Rq J H'
def JI (t : TI) (m : Rho → R (List D)) : Prop := ∀ S H σ ρ Q, Rel K S H σ ρ → ROk (IPost K S H σ ρ Q) (XPost K xc W S H σ ρ) (m ρ) → t σ H Q
end
section
variable (X : Cx) (xc : XC) (W : WX)
def RE (e : Expr) (m : Rho → R EV) : Prop := ∃ t, PE X e t ∧ JE X.K xc W t m
def RT (e : Expr) (m : Rho → R Bool) : Prop := ∃ t, PT X e t ∧ JT X.K xc W t m
def RW (e : Expr) (m : Rho → R Bool) : Prop := ∃ t, PW X e t ∧ JT X.K xc W t m
def RA (es : List Expr) (m : Rho → R (List EV)) : Prop := ∃ t, PA X es t ∧ JA X.K xc W t m
def RS (s : Stmt) (m : Rho → Out) : Prop := ∃ t, PS X s t ∧ JS X.K xc W t m
def RSs (s : List Stmt) (m : Rho → Out) : Prop := ∃ t, PSs X s t ∧ JS X.K xc W t m
def RG (e : Expr) (sl : List Nat) (m : D → Rho → Option Rho) : Prop := ∃ g, PG X e g ∧ JG X.K g sl m
def RI (tg e : Expr) (m : Rho → R (List D)) : Prop := ∃ t, PI X tg e t ∧ JI X.K xc W t m
end

section
variable {K : PySem.W.Frag} {xc : XC} {W : WX} {S S1 S' H H1 H' H0 : Hp} {σ σ1 σ' σ0 : Sg} {ρ ρ1 ρ' ρ0 : Rho}
theorem XPost.step {x : Exn} {ρ2 : Rho} (h : XPost K xc W S H σ ρ x ρ2) (s : Stp S H σ ρ S1 H1 σ1 ρ1) : XPost K xc W S1 H1 σ1 ρ1 x ρ2 :=
  fun S' H' σ' c dx s2 => h S' H' σ' c dx (s.trans s2)
theorem SPost.step {D : Ends} {o : Out} (h : SPost K xc W D S H σ ρ o) (s : Stp S H σ ρ S1 H1 σ1 ρ1) : SPost K xc W D S1 H1 σ1 ρ1 o := by
  cases o with
  | nx ρ2 => exact fun S' H' σ' s2 => h S' H' σ' (s.trans s2)
  | bk ρ2 => exact fun S' H' σ' s2 => h S' H' σ' (s.trans s2)
  | ct ρ2 => exact fun S' H' σ' s2 => h S' H' σ' (s.trans s2)
  | rt e ρ2 => exact fun S' H' σ' v s2 r k => h S' H' σ' v (s.trans s2) r (EvOk.back s k)
  | exn x ρ2 => exact XPost.step h s
  | stuck => exact h
theorem EvsOk.step {vs : List V} {es : List EV} (h : EvsOk K σ0 ρ0 H0 S H σ ρ vs es) (s : Stp S H σ ρ S1 H1 σ ρ1) : EvsOk K σ0 ρ0 H0 S1 H1 σ ρ1 vs es := by
  induction vs generalizing es with
  | nil => cases es with
    | nil => trivial
    | cons e es => exact h.elim
  | cons v vs ih => cases es with
    | nil => exact h.elim
    | cons e es => exact ⟨h.1.step s, ih h.2⟩
theorem EvsOk.back {S0 : Hp} {σ2 : Sg} {ρ2 : Rho} {H2 S2 : Hp} {vs : List V} {es : List EV} (s : Stp S0 H0 σ0 ρ0 S1 H1 σ1 ρ1) (h : EvsOk K σ1 ρ1 H1 S2 H2 σ2 ρ2 vs es) : EvsOk K σ0 ρ0 H0 S2 H2 σ2 ρ2 vs es := by
  induction vs generalizing es with
  | nil => cases es with
    | nil => trivial
    | cons e es => exact h.elim
  | cons v vs ih => cases es with
    | nil => exact h.elim
    | cons e es => exact ⟨EvOk.back s h.1, ih h.2⟩

/-! ### names, constants -/
def mVar (i : Nat) (ρ : Rho) : R EV := match ρ[i]? with
  | some (.val d) => .ok (.d d) ρ
  | some (.own _ _) => .ok (.slot i) ρ
  | _ => .stuck
theorem je_var (i : Nat) : JE K xc W (tVar i) (mVar i) := by
  intro S H σ ρ Q R h
  unfold mVar at h
  cases q : ρ[i]? with
  | none => rw [q] at h; exact h.elim
  | some c =>
    rw [q] at h
    have k := R.cell i c q
    cases c with
    | no => exact h.elim
    | val d =>
      obtain ⟨u, e1, e2⟩ := k
      exact ⟨u, e1, h S H u .refl R e2⟩
    | own b o =>
      obtain ⟨a, ho, e1, _⟩ := k
      exact ⟨_, e1, h S H _ .refl R e1⟩
def mC (d : D) (ρ : Rho) : R EV := .ok (.d d) ρ
theorem je_c {d : D} {v : V} (hd : ∀ S, Den K S d v) : JE K xc W (tC v) (mC d) := fun S H σ ρ Q R h => h S H v .refl R (hd S)

/-! ### two operands -/
def mOp (f : D → D → Option EV) (ma mb : Rho → R EV) (ρ : Rho) : R EV :=
  (ma ρ).bind fun ea ρ1 => (mb ρ1).bind fun eb ρ2 => R.of ((rd ρ2 ea).bind fun x => (rd ρ2 eb).bind fun y => f x y) ρ2
def OpM (K : PySem.W.Frag) (r : R2) (f : D → D → Option EV) : Prop := ∀ S H x y dx dy ev Q, Same S H → Seen K S H dx x → Seen K S H dy y → f dx dy = some ev →
  (∀ S' H' v, Grow S H S' H' → EvG K H S' H' v ev → Q v H') → r x y H Q
theorem je_op {r : R2} {f : D → D → Option EV} {ta tb : TE} {ma mb : Rho → R EV} (hr : OpM K r f) (ha : JE K xc W ta ma) (hb : JE K xc W tb mb) : JE K xc W (tOp r ta tb) (mOp f ma mb) := by
  intro S H σ ρ Q R h
  refine ha S H σ ρ _ R (ROk.mono (ROk.bind h) (fun ea ρ1 h1 => ?_) fun _ _ z => z)
  intro S1 H1 x s1 R1 e1
  refine hb S1 H1 σ ρ1 _ R1 (ROk.mono (ROk.bind h1) (fun eb ρ2 h2 => ?_) fun _ _ z => z.step s1)
  intro S2 H2 y s2 R2 e2
  obtain ⟨ev, q, hq⟩ := ROk.of h2
  simp only [Option.bind_eq_some_iff] at q
  obtain ⟨dx, q1, dy, q2, q3⟩ := q
  exact hr S2 H2 x y dx dy ev Q R2.sub (rd_seen R2 (e1.step s2) q1) (rd_seen R2 e2 q2) q3 fun S3 H3 v g k =>
    hq S3 H3 v ((s1.trans s2).trans (.laid g)) (R2.laid g) (EvOk.back (s1.trans s2) (k.ok R2))

/-! ### one operand -/
def mUn (f : D → Option EV) (ma : Rho → R EV) (ρ : Rho) : R EV := (ma ρ).bind fun ea ρ1 => R.of ((rd ρ1 ea).bind fun x => f x) ρ1
def UnM (K : PySem.W.Frag) (r : V → Hp → VK → Prop) (f : D → Option EV) : Prop := ∀ S H x dx ev Q, Same S H → Seen K S H dx x → f dx = some ev →
  (∀ S' H' v, Grow S H S' H' → EvG K H S' H' v ev → Q v H') → r x H Q
theorem je_un {r : V → Hp → VK → Prop} {f : D → Option EV} {ta : TE} {ma : Rho → R EV} (hr : UnM K r f) (ha : JE K xc W ta ma) : JE K xc W (tUn r ta) (mUn f ma) := by
  intro S H σ ρ Q R h
  refine ha S H σ ρ _ R (ROk.mono (ROk.bind h) (fun ea ρ1 h1 => ?_) fun _ _ z => z)
  intro S1 H1 x s1 R1 e1
  obtain ⟨ev, q, hq⟩ := ROk.of h1
  simp only [Option.bind_eq_some_iff] at q
  obtain ⟨dx, q1, q3⟩ := q
  exact hr S1 H1 x dx ev Q R1.sub (rd_seen R1 e1 q1) q3 fun S3 H3 v g k =>
    hq S3 H3 v (s1.trans (.laid g)) (R1.laid g) (EvOk.back s1 (k.ok R1))

/-! ### arguments -/
def mNil (ρ : Rho) : R (List EV) := .ok [] ρ
def mCons (ma : Rho → R EV) (mr : Rho → R (List EV)) (ρ : Rho) : R (List EV) := (ma ρ).bind fun e ρ1 => (mr ρ1).bind fun es ρ2 => .ok (e :: es) ρ2
theorem ja_nil : JA K xc W tNil mNil := fun S H σ ρ Q R h => h S H [] .refl R trivial
theorem ja_cons {ta : TE} {tr : TA} {ma : Rho → R EV} {mr : Rho → R (List EV)} (ha : JE K xc W ta ma) (hr : JA K xc W tr mr) : JA K xc W (tCons ta tr) (mCons ma mr) := by
  intro S H σ ρ Q R h
  refine ha S H σ ρ _ R (ROk.mono (ROk.bind h) (fun ea ρ1 h1 => ?_) fun _ _ z => z)
  intro S1 H1 x s1 R1 e1
  refine hr S1 H1 σ ρ1 _ R1 (ROk.mono (ROk.bind h1) (fun eb ρ2 h2 => ?_) fun _ _ z => z.step s1)
  intro S2 H2 ys s2 R2 e2
  exact h2 S2 H2 (x :: ys) (s1.trans s2) R2 ⟨e1.step s2, EvsOk.back s1 e2⟩
def rds (ρ : Rho) : List EV → Option (List D)
  | [] => some []
  | e :: es => (rd ρ e).bind fun d => (rds ρ es).bind fun ds => some (d :: ds)
def SeenL (K : PySem.W.Frag) (S H : Hp) : List D → List V → Prop
  | [], [] => True
  | d :: ds, v :: vs => Seen K S H d v ∧ SeenL K S H ds vs
  | _, _ => False
theorem rds_seen (R : Rel K S H σ ρ) : ∀ {vs : List V} {es : List EV} {ds : List D}, EvsOk K σ0 ρ0 H0 S H σ ρ vs es → rds ρ es = some ds → SeenL K S H ds vs
  | [], [], ds, _, e => by simp only [rds, Option.some.injEq] at e; subst e; trivial
  | v :: vs, e :: es, ds, h, q => by
    simp only [rds, Option.bind_eq_some_iff] at q
    obtain ⟨d, q1, ds', q2, q3⟩ := q
    cases q3
    exact ⟨rd_seen R h.1 q1, rds_seen R h.2 q2⟩
  | [], _ :: _, _, h, _ => h.elim
  | _ :: _, [], _, h, _ => h.elim
/-- a built-in by values -/
def mCB (f : List D → Option EV) (ma : Rho → R (List EV)) (ρ : Rho) : R EV := (ma ρ).bind fun es ρ1 => R.of ((rds ρ1 es).bind fun ds => f ds) ρ1
def CaM (K : PySem.W.Frag) (r : List V → Hp → VK → Prop) (f : List D → Option EV) : Prop := ∀ S H xs ds ev Q, Same S H → SeenL K S H ds xs → f ds = some ev →
  (∀ S' H' v, Grow S H S' H' → EvG K H S' H' v ev → Q v H') → r xs H Q
theorem je_cb {r : List V → Hp → VK → Prop} {f : List D → Option EV} {ta : TA} {ma : Rho → R (List EV)} (hr : CaM K r f) (ha : JA K xc W ta ma) : JE K xc W (tCB r ta) (mCB f ma) := by
  intro S H σ ρ Q R h
  refine ha S H σ ρ _ R (ROk.mono (ROk.bind h) (fun ea ρ1 h1 => ?_) fun _ _ z => z)
  intro S1 H1 x s1 R1 e1
  obtain ⟨ev, q, hq⟩ := ROk.of h1
  simp only [Option.bind_eq_some_iff] at q
  obtain ⟨dx, q1, q3⟩ := q
  exact hr S1 H1 x dx ev Q R1.sub (rds_seen R1 e1 q1) q3 fun S3 H3 v g k =>
    hq S3 H3 v (s1.trans (.laid g)) (R1.laid g) (EvOk.back s1 (k.ok R1))

/-! ### freezing -/
def frz : EV → Rho → Option (D × Rho)
  | .d d, ρ => some (d, ρ)
  | .new (.lst xs), ρ => some (.lst xs, ρ)
  | .new (.dic []), ρ => some (.emp, ρ)
  | .new _, _ => none
  | .slot i, ρ => match ρ[i]? with
    | some (.val d) => some (d, ρ)
    | some (.own false (.lst xs)) => some (.lst xs, ρ.set i (.val (.lst xs)))
    | _ => none
theorem get_set {α : Type} {l : List α} {i j : Nat} {x : α} : (l.set i x)[j]? = if i = j then (if j < l.length then some x else none) else l[j]? := by
  rw [List.getElem?_set]
  split
  · rename_i e; subst e; rfl
  · rfl
theorem frz_ok {S0 : Hp} {v : V} {ev : EV} {d : D} {ρ2 : Rho} (s : Stp S0 H0 σ0 ρ0 S H σ ρ) (R : Rel K S H σ ρ) (h : EvOk K σ0 ρ0 H0 S H σ ρ v ev) (e : frz ev ρ = some (d, ρ2)) :
    ∃ S2, Stp S0 H0 σ0 ρ0 S2 H σ ρ2 ∧ Rel K S2 H σ ρ2 ∧ Den K S2 d v ∧ Same S S2 := by
  cases ev with
  | d d' => simp only [frz, Option.some.injEq, Prod.mk.injEq] at e; obtain ⟨rfl, rfl⟩ := e; exact ⟨S, s, R, h, Same.refl _⟩
  | new o =>
    cases o with
    | dic kvs =>
      cases kvs with
      | cons _ _ => simp [frz] at e
      | nil =>
          simp only [frz, Option.some.injEq, Prod.mk.injEq] at e; obtain ⟨rfl, rfl⟩ := e
          obtain ⟨a, ho, e1, e2, e3, e4, ⟨vs, rfl, l⟩, e6⟩ := h
          have l0 : vs = [] := l
          subst l0
          have sm : Same S (upd S a (.dK [])) := same_upd e3
          have at_ : ∀ b u, upd S a (.dK []) b = some u → S b = some u ∨ b = a := fun b u q => by
            by_cases z : b = a
            · exact .inr z
            · rw [upd_ne z] at q; exact .inl q
          refine ⟨upd S a (.dK []), ⟨s.ex.trans sm, s.fr, s.th, fun b u q => ?_, s.ow, s.owf, s.bo, s.ln⟩, ⟨fun b u q => ?_, R.len, fun i c q => ?_, R.dist, R.tab.same sm⟩, ?_, sm⟩
          · rcases at_ b u q with z | rfl
            · exact s.nw b u z
            · rcases e6 with z | z
              · exact .inr (.inl z)
              · exact .inr (.inr z.own)
          · by_cases z : b = a
            · subst z; rw [upd_same] at q; rw [← q]; exact e2
            · rw [upd_ne z] at q; exact R.sub b u q
          · have k := R.cell i c q
            cases c with
            | no => trivial
            | val d' => obtain ⟨u, k1, k2⟩ := k; exact ⟨u, k1, k2.same sm⟩
            | own b o =>
              obtain ⟨a', ho', k1, k2, k3, k4⟩ := k
              refine ⟨a', ho', k1, k2, ?_, k4.same sm⟩
              have ne : a' ≠ a := fun z => e4 ⟨i, b, o, q, by rw [← z]; exact k1⟩
              rw [upd_ne ne]; exact k3
          · unfold Den
            exact ⟨a, e1, upd_same⟩
    | lst xs =>
      simp only [frz, Option.some.injEq, Prod.mk.injEq] at e; obtain ⟨rfl, rfl⟩ := e
      obtain ⟨a, ho, e1, e2, e3, e4, ⟨vs, rfl, l⟩, e6⟩ := h
      have sm : Same S (upd S a (.lst vs)) := same_upd e3
      have at_ : ∀ b u, upd S a (.lst vs) b = some u → S b = some u ∨ b = a := fun b u q => by
        by_cases z : b = a
        · exact .inr z
        · rw [upd_ne z] at q; exact .inl q
      refine ⟨upd S a (.lst vs), ⟨s.ex.trans sm, s.fr, s.th, fun b u q => ?_, s.ow, s.owf, s.bo, s.ln⟩, ⟨fun b u q => ?_, R.len, fun i c q => ?_, R.dist, R.tab.same sm⟩, ?_, sm⟩
      · rcases at_ b u q with z | rfl
        · exact s.nw b u z
        · rcases e6 with z | z
          · exact .inr (.inl z)
          · exact .inr (.inr z.own)
      · by_cases z : b = a
        · subst z; rw [upd_same] at q; rw [← q]; exact e2
        · rw [upd_ne z] at q; exact R.sub b u q
      · have k := R.cell i c q
        cases c with
        | no => trivial
        | val d' => obtain ⟨u, k1, k2⟩ := k; exact ⟨u, k1, k2.same sm⟩
        | own b o =>
          obtain ⟨a', ho', k1, k2, k3, k4⟩ := k
          refine ⟨a', ho', k1, k2, ?_, k4.same sm⟩
          have ne : a' ≠ a := fun z => e4 ⟨i, b, o, q, by rw [← z]; exact k1⟩
          rw [upd_ne ne]; exact k3
      · unfold Den
        exact ⟨a, vs, e1, SqL.of upd_same, l.same sm⟩
  | slot i =>
    have hv : σ[i]? = some (some v) := h
    simp only [frz] at e
    cases q : ρ[i]? with
    | none => rw [q] at e; cases e
    | some c =>
      rw [q] at e
      have k := R.cell i c q
      cases c with
      | no => cases e
      | val d' =>
        simp only [Option.some.injEq, Prod.mk.injEq] at e; obtain ⟨rfl, rfl⟩ := e
        obtain ⟨u, k1, k2⟩ := k
        rw [hv] at k1; cases k1
        exact ⟨S, s, R, k2, Same.refl _⟩
      | own b o =>
        cases b with
        | true => cases o <;> cases e
        | false =>
          cases o with
          | dic _ => cases e
          | lst xs =>
            simp only [Option.some.injEq, Prod.mk.injEq] at e; obtain ⟨rfl, rfl⟩ := e
            obtain ⟨a, ho, k1, k2, k3, ⟨vs, rfl, l⟩⟩ := k
            rw [hv] at k1; cases k1
            have sm : Same S (upd S a (.lst vs)) := same_upd k3
            have hi : i < ρ.length := (List.getElem?_eq_some_iff.mp q).1
            have oa : Own σ ρ a := ⟨i, false, _, q, hv⟩
            have back : ∀ b, Own σ (ρ.set i (.val (.lst xs))) b → Own σ ρ b := fun b ⟨j, bb, o, z1, z2⟩ => by
              rw [get_set] at z1
              split at z1
              · split at z1 <;> cases z1
              · exact ⟨j, bb, o, z1, z2⟩
            have backF : ∀ b, OwnF σ (ρ.set i (.val (.lst xs))) b → OwnF σ ρ b := fun b ⟨j, o, z1, z2⟩ => by
              rw [get_set] at z1
              split at z1
              · split at z1 <;> cases z1
              · exact ⟨j, o, z1, z2⟩
            refine ⟨upd S a (.lst vs), ⟨s.ex.trans sm, s.fr, s.th, fun b u z => ?_, fun b z => s.ow b (back b z), fun b z => s.owf b (backF b z), fun j o z => ?_, by rw [List.length_set]; exact s.ln⟩, ⟨fun b u z => ?_, by rw [List.length_set]; exact R.len, fun j c z => ?_, fun j1 j2 b1 b2 o1 o2 z1 z2 z3 => ?_, R.tab.same sm⟩, ?_, sm⟩
            · by_cases ba : b = a
              · subst ba
                rcases s.ow b oa with y | y
                · exact .inr (.inr y)
                · exact .inr (.inl y)
              · rw [upd_ne ba] at z; exact s.nw b u z
            · obtain ⟨y1, o1, y2⟩ := s.bo j o z
              refine ⟨y1, o1, ?_⟩
              have ne : i ≠ j := fun w => by subst w; rw [q] at y2; cases y2
              rw [get_set, if_neg ne]; exact y2
            · by_cases ba : b = a
              · subst ba; rw [upd_same] at z; rw [← z]; exact k2
              · rw [upd_ne ba] at z; exact R.sub b u z
            · by_cases ji : i = j
              · subst ji
                rw [get_set, if_pos rfl, if_pos hi] at z
                cases z
                exact ⟨_, hv, by unfold Den; exact ⟨a, vs, rfl, SqL.of upd_same, l.same sm⟩⟩
              · rw [get_set, if_neg ji] at z
                have k := R.cell j c z
                cases c with
                | no => trivial
                | val d' => obtain ⟨u, y1, y2⟩ := k; exact ⟨u, y1, y2.same sm⟩
                | own b o =>
                  obtain ⟨a', ho', y1, y2, y3, y4⟩ := k
                  refine ⟨a', ho', y1, y2, ?_, y4.same sm⟩
                  have ne : a' ≠ a := fun w => ji (R.dist i j _ _ _ _ q z (by rw [hv, y1, w]))
                  rw [upd_ne ne]; exact y3
            · rw [get_set] at z1 z2
              split at z1
              · split at z1 <;> cases z1
              · split at z2
                · split at z2 <;> cases z2
                · exact R.dist j1 j2 _ _ _ _ z1 z2 z3
            · unfold Den
              exact ⟨a, vs, rfl, SqL.of upd_same, l.same sm⟩
def mFrz (m : Rho → R EV) (ρ : Rho) : R EV := (m ρ).bind fun ev ρ1 => match frz ev ρ1 with
  | some p => .ok (.d p.1) p.2
  | none => .stuck
theorem je_frz {t : TE} {m : Rho → R EV} (ha : JE K xc W t m) : JE K xc W t (mFrz m) := by
  intro S H σ ρ Q R h
  refine ha S H σ ρ _ R (ROk.mono (ROk.bind h) (fun ea ρ1 h1 => ?_) fun _ _ z => z)
  intro S1 H1 x s1 R1 e1
  cases q : frz ea ρ1 with
  | none => rw [q] at h1; exact h1.elim
  | some p =>
    rw [q] at h1
    obtain ⟨S2, s2, R2, k, _⟩ := frz_ok s1 R1 e1 q
    exact h1 S2 H1 x s2 R2 k
end
end Mi

set_option Elab.async false
set_option linter.all false
set_option maxRecDepth 100000
set_option autoImplicit false
namespace Mi
open PySem L2
section
variable {K : PySem.W.Frag} {xc : XC} {W : WX} {S S1 S' H H1 H' H0 : Hp} {σ σ1 σ' σ0 : Sg} {ρ ρ1 ρ' ρ0 : Rho}

/-! ### displays -/
def dsOf : List EV → Option (List D)
  | [] => some []
  | .d d :: r => (dsOf r).bind fun ds => some (d :: ds)
  | _ :: _ => none
theorem dsOf_den : ∀ {vs : List V} {es : List EV} {ds : List D}, EvsOk K σ0 ρ0 H0 S H σ ρ vs es → dsOf es = some ds → DenL K S ds vs
  | [], [], ds, _, e => by simp only [dsOf, Option.some.injEq] at e; subst e; exact DenL.nil
  | v :: vs, .d d :: es, ds, h, q => by
    simp only [dsOf, Option.bind_eq_some_iff] at q
    obtain ⟨ds', q2, q3⟩ := q
    cases q3
    exact DenL.cons h.1 (dsOf_den h.2 q2)
  | v :: vs, .new _ :: es, ds, h, q => by simp [dsOf] at q
  | v :: vs, .slot _ :: es, ds, h, q => by simp [dsOf] at q
  | [], _ :: _, _, h, _ => h.elim
  | _ :: _, [], _, h, _ => h.elim
/-- a length that no line of the model stops -/
def szOk (n : Nat) : Bool := decide (n ≤ 1000000)
theorem szOk.le {n : Nat} (h : szOk n = true) : n < sizeLine := Nat.lt_of_le_of_lt (of_decide_eq_true h) (by rw [sizeLine_eq]; decide)
def mTup (ma : Rho → R (List EV)) (ρ : Rho) : R EV := (ma ρ).bind fun es ρ1 => R.of ((dsOf es).bind fun ds => if szOk ds.length then some (.d (.tup ds)) else none) ρ1
def mLst (ma : Rho → R (List EV)) (ρ : Rho) : R EV := (ma ρ).bind fun es ρ1 => R.of ((dsOf es).bind fun ds => if szOk ds.length then some (.new (.lst ds)) else none) ρ1
theorem some_ite {α : Type} {c : Bool} {x y : α} (h : (if c = true then some x else none) = some y) : c = true ∧ x = y := by
  cases c
  · simp at h
  · simp at h; exact ⟨rfl, h⟩
theorem je_tup {ta : TA} {ma : Rho → R (List EV)} (ha : JA K xc W ta ma) : JE K xc W (tTup ta) (mTup ma) := by
  intro S H σ ρ Q R h
  refine ha S H σ ρ _ R (ROk.mono (ROk.bind h) (fun ea ρ1 h1 => ?_) fun _ _ z => z)
  intro S1 H1 vs s1 R1 e1
  obtain ⟨ev, q, hq⟩ := ROk.of h1
  simp only [Option.bind_eq_some_iff] at q
  obtain ⟨ds, q1, q2⟩ := q
  obtain ⟨q3, q4⟩ := some_ite q2
  subst q4
  have l := dsOf_den e1 q1
  refine ⟨by rw [l.length]; exact Nat.le_of_lt (szOk.le q3), fun p hp => ?_⟩
  have g : Grow S1 H1 (upd S1 p (.tup vs)) (upd H1 p (.tup vs)) := Grow.stable R1.sub hp
  exact hq _ _ _ (s1.trans (.laid g)) (R1.laid g) (by show Den K _ (.tup ds) _; unfold Den; exact ⟨p, vs, rfl, SqT.of upd_same, l.same g.s⟩)
theorem je_lst {ta : TA} {ma : Rho → R (List EV)} (ha : JA K xc W ta ma) : JE K xc W (tLst ta) (mLst ma) := by
  intro S H σ ρ Q R h
  refine ha S H σ ρ _ R (ROk.mono (ROk.bind h) (fun ea ρ1 h1 => ?_) fun _ _ z => z)
  intro S1 H1 vs s1 R1 e1
  obtain ⟨ev, q, hq⟩ := ROk.of h1
  simp only [Option.bind_eq_some_iff] at q
  obtain ⟨ds, q1, q2⟩ := q
  obtain ⟨q3, q4⟩ := some_ite q2
  subst q4
  have l := dsOf_den e1 q1
  refine ⟨by rw [l.length]; exact Nat.le_of_lt (szOk.le q3), fun p hp => ?_⟩
  have g : Grow S1 H1 S1 (upd H1 p (.lst vs)) := Grow.loose R1.sub hp
  have k : EvG K H1 S1 (upd H1 p (.lst vs)) (.ref p) (.new (.lst ds)) := ⟨p, _, rfl, hp, upd_same, L2.Same.free R1.sub hp, ⟨vs, rfl, l⟩⟩
  exact hq _ _ _ (s1.trans (.laid g)) (R1.laid g) (EvOk.back s1 (k.ok R1))

/-! ### tests, ways -/
def mTst (m : Rho → R EV) (ρ : Rho) : R Bool := (m ρ).bind fun ev ρ1 => match ev with
  | .d (.bl b) => .ok b ρ1
  | _ => .stuck
theorem jt_test {t : TE} {m : Rho → R EV} (ha : JE K xc W t m) : JT K xc W (tB t) (mTst m) := by
  intro S H σ ρ Q R h
  refine ha S H σ ρ _ R (ROk.mono (ROk.bind h) (fun ev ρ1 h1 => ?_) fun _ _ z => z)
  intro S1 H1 x s1 R1 e1
  match ev, h1, e1 with
  | .d (.bl b), h1, e1 =>
    have e : x = .bl b := by have z : Den K S1 (.bl b) x := e1; unfold Den at z; exact z
    exact ⟨b, e, h1 S1 H1 s1 R1⟩
  | .d .non, h1, _ => exact h1.elim
  | .d (.int _), h1, _ => exact h1.elim
  | .d (.str _), h1, _ => exact h1.elim
  | .d (.ref _), h1, _ => exact h1.elim
  | .d (.tup _), h1, _ => exact h1.elim
  | .d (.lst _), h1, _ => exact h1.elim
  | .new _, h1, _ => exact h1.elim
  | .slot _, h1, _ => exact h1.elim
theorem jt_test' {t : TE} {m : Rho → R EV} (ha : JE K xc W t m) : JT K xc W (tTest t) (mTst m) := jt_test ha
def mAndT (m n : Rho → R Bool) (ρ : Rho) : R Bool := (m ρ).bind fun b ρ1 => match b with | true => n ρ1 | false => .ok false ρ1
def mOrT (m n : Rho → R Bool) (ρ : Rho) : R Bool := (m ρ).bind fun b ρ1 => match b with | true => .ok true ρ1 | false => n ρ1
def mNotT (m : Rho → R Bool) (ρ : Rho) : R Bool := (m ρ).bind fun b ρ1 => .ok (!b) ρ1
theorem TPost.step {Q : Bool → Hp → Prop} {b : Bool} {ρ2 : Rho} (h : TPost K S H σ ρ Q b ρ2) (s : Stp S H σ ρ S1 H1 σ ρ1) : TPost K S1 H1 σ ρ1 Q b ρ2 := fun S' H' s2 => h S' H' (s.trans s2)
theorem jt_and {t u : TT} {m n : Rho → R Bool} (ha : JT K xc W t m) (hb : JT K xc W u n) : JT K xc W (tAnd t u) (mAndT m n) := by
  intro S H σ ρ Q R h
  refine ha S H σ ρ _ R (ROk.mono (ROk.bind h) (fun b ρ1 h1 => ?_) fun _ _ z => z)
  intro S1 H1 s1 R1
  cases b with
  | false => rw [if_neg Bool.false_ne_true]; exact h1 S1 H1 s1 R1
  | true => rw [if_pos rfl]; exact hb S1 H1 σ ρ1 _ R1 (ROk.mono h1 (fun _ _ z => z.step s1) fun _ _ z => z.step s1)
theorem jt_or {t u : TT} {m n : Rho → R Bool} (ha : JT K xc W t m) (hb : JT K xc W u n) : JT K xc W (tOr t u) (mOrT m n) := by
  intro S H σ ρ Q R h
  refine ha S H σ ρ _ R (ROk.mono (ROk.bind h) (fun b ρ1 h1 => ?_) fun _ _ z => z)
  intro S1 H1 s1 R1
  cases b with
  | true => rw [if_pos rfl]; exact h1 S1 H1 s1 R1
  | false => rw [if_neg Bool.false_ne_true]; exact hb S1 H1 σ ρ1 _ R1 (ROk.mono h1 (fun _ _ z => z.step s1) fun _ _ z => z.step s1)
theorem jt_not {t : TT} {m : Rho → R Bool} (ha : JT K xc W t m) : JT K xc W (tNot t) (mNotT m) := by
  intro S H σ ρ Q R h
  refine ha S H σ ρ _ R (ROk.mono (ROk.bind h) (fun b ρ1 h1 => ?_) fun _ _ z => z)
  exact fun S1 H1 s1 R1 => h1 S1 H1 s1 R1
theorem EPost.step {Q : VK} {e : EV} {ρ2 : Rho} (h : EPost K S H σ ρ Q e ρ2) (s : Stp S H σ ρ S1 H1 σ ρ1) : EPost K S1 H1 σ ρ1 Q e ρ2 := fun S' H' v s2 r k => h S' H' v (s.trans s2) r (EvOk.back s k)
/-- .. as values -/
def mAndV (m n : Rho → R EV) (ρ : Rho) : R EV := (mTst m ρ).bind fun b ρ1 => match b with | true => n ρ1 | false => .ok (.d (.bl false)) ρ1
def mOrV (m n : Rho → R EV) (ρ : Rho) : R EV := (mTst m ρ).bind fun b ρ1 => match b with | true => .ok (.d (.bl true)) ρ1 | false => n ρ1
def mNotV (m : Rho → R EV) (ρ : Rho) : R EV := (mTst m ρ).bind fun b ρ1 => .ok (.d (.bl (!b))) ρ1
theorem je_andV {ta tb : TE} {m n : Rho → R EV} (ha : JE K xc W ta m) (hb : JE K xc W tb n) : JE K xc W (tAndV ta tb) (mAndV m n) := by
  intro S H σ ρ Q R h
  refine jt_test ha S H σ ρ (fun c H1 => if c = true then tb σ H1 Q else Q (.bl false) H1) R (ROk.mono (ROk.bind h) (fun b ρ1 h1 => ?_) fun _ _ z => z)
  intro S1 H1 s1 R1
  cases b with
  | false => rw [if_neg Bool.false_ne_true]; exact h1 S1 H1 _ s1 R1 (by show Den K _ _ _; unfold Den; rfl)
  | true => rw [if_pos rfl]; exact hb S1 H1 σ ρ1 _ R1 (ROk.mono h1 (fun _ _ z => z.step s1) fun _ _ z => z.step s1)
theorem je_orV {ta tb : TE} {m n : Rho → R EV} (ha : JE K xc W ta m) (hb : JE K xc W tb n) : JE K xc W (tOrV ta tb) (mOrV m n) := by
  intro S H σ ρ Q R h
  refine jt_test ha S H σ ρ (fun c H1 => if c = true then Q (.bl true) H1 else tb σ H1 Q) R (ROk.mono (ROk.bind h) (fun b ρ1 h1 => ?_) fun _ _ z => z)
  intro S1 H1 s1 R1
  cases b with
  | true => rw [if_pos rfl]; exact h1 S1 H1 _ s1 R1 (by show Den K _ _ _; unfold Den; rfl)
  | false => rw [if_neg Bool.false_ne_true]; exact hb S1 H1 σ ρ1 _ R1 (ROk.mono h1 (fun _ _ z => z.step s1) fun _ _ z => z.step s1)
theorem je_notV {ta : TE} {m : Rho → R EV} (ha : JE K xc W ta m) : JE K xc W (tNotV ta) (mNotV m) := by
  intro S H σ ρ Q R h
  refine jt_test ha S H σ ρ (fun c H1 => Q (.bl (!c)) H1) R (ROk.mono (ROk.bind h) (fun b ρ1 h1 => ?_) fun _ _ z => z)
  exact fun S1 H1 s1 R1 => h1 S1 H1 _ s1 R1 (by show Den K _ _ _; unfold Den; rfl)
def mIfE (c : Rho → R Bool) (m n : Rho → R EV) (ρ : Rho) : R EV := (c ρ).bind fun b ρ1 => match b with | true => m ρ1 | false => n ρ1
theorem je_if {t : TT} {ta tb : TE} {c : Rho → R Bool} {m n : Rho → R EV} (hc : JT K xc W t c) (ha : JE K xc W ta m) (hb : JE K xc W tb n) : JE K xc W (tIf t ta tb) (mIfE c m n) := by
  intro S H σ ρ Q R h
  refine hc S H σ ρ _ R (ROk.mono (ROk.bind h) (fun b ρ1 h1 => ?_) fun _ _ z => z)
  intro S1 H1 s1 R1
  cases b with
  | true => rw [if_pos rfl]; exact ha S1 H1 σ ρ1 _ R1 (ROk.mono h1 (fun _ _ z => z.step s1) fun _ _ z => z.step s1)
  | false => rw [if_neg Bool.false_ne_true]; exact hb S1 H1 σ ρ1 _ R1 (ROk.mono h1 (fun _ _ z => z.step s1) fun _ _ z => z.step s1)
/-- truth of any value -/
def truD : D → Option Bool
  | .non => some false
  | .bl b => some b
  | .int i => some (i != 0)
  | .tup ds => some (!ds.isEmpty)
  | .lst ds => some (!ds.isEmpty)
  | _ => none
def mTru (m : Rho → R EV) (ρ : Rho) : R Bool := (m ρ).bind fun ev ρ1 => R.of ((rd ρ1 ev).bind truD) ρ1

/-! ### statements -/
def mSeq (m n : Rho → Out) (ρ : Rho) : Out := match m ρ with
  | .nx ρ1 => n ρ1
  | o => o
theorem js_seq {t u : TS} {m n : Rho → Out} (ha : JS K xc W t m) (hb : JS K xc W u n) : JS K xc W (tSeq t u) (mSeq m n) := by
  intro S H σ ρ D R h
  refine ha S H σ ρ { D with nx := u D } R ?_
  unfold mSeq at h
  cases q : m ρ with
  | nx ρ1 =>
    rw [q] at h
    exact fun S1 H1 σ1 s1 R1 => hb S1 H1 σ1 ρ1 D R1 (h.step s1)
  | rt e ρ1 => rw [q] at h; exact h
  | bk ρ1 => rw [q] at h; exact h
  | ct ρ1 => rw [q] at h; exact h
  | exn x ρ1 => rw [q] at h; exact h
  | stuck => rw [q] at h; exact h
def mNext (ρ : Rho) : Out := .nx ρ
theorem js_next : JS K xc W tNext mNext := fun S H σ ρ D R h => h S H σ .refl R
def mCont (ρ : Rho) : Out := .ct ρ
theorem js_cont : JS K xc W tCont mCont := fun S H σ ρ D R h => h S H σ .refl R
def mBrk (ρ : Rho) : Out := .bk ρ
theorem js_brk : JS K xc W tBreak mBrk := fun S H σ ρ D R h => h S H σ .refl R
def R.out {α : Type} (r : R α) (f : α → Rho → Out) : Out := match r with
  | .ok a ρ => f a ρ
  | .exn x ρ => .exn x ρ
  | .stuck => .stuck
theorem SPost.out {α : Type} {D : Ends} {r : R α} {f : α → Rho → Out} (h : SPost K xc W D S H σ ρ (r.out f)) : ROk (fun a ρ1 => SPost K xc W D S H σ ρ (f a ρ1)) (XPost K xc W S H σ ρ) r := by
  cases r <;> exact h
def mIfS (c : Rho → R Bool) (m n : Rho → Out) (ρ : Rho) : Out := (c ρ).out fun b ρ1 => match b with | true => m ρ1 | false => n ρ1
theorem js_if {t : TT} {ta tb : TS} {c : Rho → R Bool} {m n : Rho → Out} (hc : JT K xc W t c) (ha : JS K xc W ta m) (hb : JS K xc W tb n) : JS K xc W (tIfS t ta tb) (mIfS c m n) := by
  intro S H σ ρ D R h
  refine hc S H σ ρ _ R (ROk.mono (SPost.out h) (fun b ρ1 h1 => ?_) fun _ _ z => z)
  intro S1 H1 s1 R1
  cases b with
  | true => rw [if_pos rfl]; exact ha S1 H1 σ ρ1 D R1 (h1.step s1)
  | false => rw [if_neg Bool.false_ne_true]; exact hb S1 H1 σ ρ1 D R1 (h1.step s1)
def mDrop (m : Rho → R EV) (ρ : Rho) : Out := (m ρ).out fun _ ρ1 => .nx ρ1
theorem js_drop {t : TE} {m : Rho → R EV} (ha : JE K xc W t m) : JS K xc W (tDrop t) (mDrop m) := by
  intro S H σ ρ D R h
  refine ha S H σ ρ _ R (ROk.mono (SPost.out h) (fun ev ρ1 h1 => ?_) fun _ _ z => z)
  exact fun S1 H1 v s1 R1 _ => h1 S1 H1 σ s1 R1

/-- an owned object handed out of its slot -/
def giveOut (ev : EV) (ρ : Rho) : Option (EV × Rho) := match ev with
  | .slot i => match ρ[i]? with
    | some (.val d) => some (.d d, ρ)
    | some (.own false o) => some (.new o, ρ.set i .no)
    | _ => none
  | e => some (e, ρ)
theorem give_ok {S0 : Hp} {v : V} {ev ev2 : EV} {ρ2 : Rho} (s : Stp S0 H0 σ0 ρ0 S H σ ρ) (R : Rel K S H σ ρ) (h : EvOk K σ0 ρ0 H0 S H σ ρ v ev) (e : giveOut ev ρ = some (ev2, ρ2)) :
    Stp S0 H0 σ0 ρ0 S H σ ρ2 ∧ Rel K S H σ ρ2 ∧ EvOk K σ0 ρ0 H0 S H σ ρ2 v ev2 ∧ ∀ i, ev2 ≠ .slot i := by
  cases ev with
  | d d => simp only [giveOut, Option.some.injEq, Prod.mk.injEq] at e; obtain ⟨rfl, rfl⟩ := e; exact ⟨s, R, h, fun i z => nomatch z⟩
  | new o => simp only [giveOut, Option.some.injEq, Prod.mk.injEq] at e; obtain ⟨rfl, rfl⟩ := e; exact ⟨s, R, h, fun i z => nomatch z⟩
  | slot i =>
    have hv : σ[i]? = some (some v) := h
    simp only [giveOut] at e
    cases q : ρ[i]? with
    | none => rw [q] at e; cases e
    | some c =>
      rw [q] at e
      have k := R.cell i c q
      cases c with
      | no => cases e
      | val d' =>
        simp only [Option.some.injEq, Prod.mk.injEq] at e; obtain ⟨rfl, rfl⟩ := e
        obtain ⟨u, k1, k2⟩ := k
        rw [hv] at k1; cases k1
        exact ⟨s, R, k2, fun i z => nomatch z⟩
      | own b o =>
        cases b with
        | true => cases e
        | false =>
          simp only [Option.some.injEq, Prod.mk.injEq] at e; obtain ⟨rfl, rfl⟩ := e
          obtain ⟨a, ho, k1, k2, k3, k4⟩ := k
          rw [hv] at k1; cases k1
          have hi : i < ρ.length := (List.getElem?_eq_some_iff.mp q).1
          have back : ∀ b, Own σ (ρ.set i .no) b → Own σ ρ b ∧ b ≠ a := fun b ⟨j, bb, o, z1, z2⟩ => by
            rw [get_set] at z1
            split at z1
            · split at z1 <;> cases z1
            · rename_i ne
              exact ⟨⟨j, bb, o, z1, z2⟩, fun w => ne (R.dist i j _ _ _ _ q z1 (by rw [hv, z2, w]))⟩
          have backF : ∀ b, OwnF σ (ρ.set i .no) b → OwnF σ ρ b := fun b ⟨j, o, z1, z2⟩ => by
            rw [get_set] at z1
            split at z1
            · split at z1 <;> cases z1
            · exact ⟨j, o, z1, z2⟩
          refine ⟨⟨s.ex, s.fr, s.th, s.nw, fun b z => s.ow b (back b z).1, fun b z => s.owf b (backF b z), fun j o z => ?_, by rw [List.length_set]; exact s.ln⟩, ⟨R.sub, by rw [List.length_set]; exact R.len, fun j c z => ?_, fun j1 j2 b1 b2 o1 o2 z1 z2 z3 => ?_, R.tab⟩, ⟨a, ho, rfl, k2, k3, fun z => (back a z).2 rfl, k4, (s.owf a ⟨i, o, q, hv⟩).symm⟩, fun i z => nomatch z⟩
          · obtain ⟨y1, o1, y2⟩ := s.bo j o z
            refine ⟨y1, o1, ?_⟩
            have ne : i ≠ j := fun w => by subst w; rw [q] at y2; cases y2
            rw [get_set, if_neg ne]; exact y2
          · rw [get_set] at z
            split at z
            · split at z
              · cases z; trivial
              · cases z
            · exact R.cell j c z
          · rw [get_set] at z1 z2
            split at z1
            · split at z1 <;> cases z1
            · split at z2
              · split at z2 <;> cases z2
              · exact R.dist j1 j2 _ _ _ _ z1 z2 z3
def mRet (m : Rho → R EV) (ρ : Rho) : Out := (m ρ).out fun ev ρ1 => match giveOut ev ρ1 with
  | some p => .rt p.1 p.2
  | none => .stuck
theorem js_ret {t : TE} {m : Rho → R EV} (ha : JE K xc W t m) : JS K xc W (tRet t) (mRet m) := by
  intro S H σ ρ D R h
  refine ha S H σ ρ _ R (ROk.mono (SPost.out h) (fun ev ρ1 h1 => ?_) fun _ _ z => z)
  intro S1 H1 v s1 R1 e1
  cases q : giveOut ev ρ1 with
  | none => rw [q] at h1; exact h1.elim
  | some p =>
    rw [q] at h1
    obtain ⟨s2, R2, k, _⟩ := give_ok s1 R1 e1 (ev2 := p.1) (ρ2 := p.2) (by rw [q])
    exact h1 S1 H1 σ v s2 R2 k
def mRetN (ρ : Rho) : Out := .rt (.d .non) ρ
theorem js_retN : JS K xc W tRetN mRetN := fun S H σ ρ D R h => h S H σ .non .refl R (by show Den K S .non .non; unfold Den; rfl)

/-- a slot gets a value that is data or a new object -/
def putC (i : Nat) (ev : EV) (ρ : Rho) : Option Rho := match ρ[i]? with
  | none => none
  | some (.own true _) => none
  | some _ => match ev with
    | .d d => some (ρ.set i (.val d))
    | .new o => some (ρ.set i (.own false o))
    | .slot _ => none
theorem put_ok {S0 : Hp} {v : V} {ev : EV} {i : Nat} {ρ2 : Rho} (s : Stp S0 H0 σ0 ρ0 S H σ ρ) (R : Rel K S H σ ρ) (h : EvOk K σ0 ρ0 H0 S H σ ρ v ev) (e : putC i ev ρ = some ρ2) :
    Stp S0 H0 σ0 ρ0 S H (σ.set i (some v)) ρ2 ∧ Rel K S H (σ.set i (some v)) ρ2 := by
  unfold putC at e
  cases q : ρ[i]? with
  | none => rw [q] at e; cases e
  | some c0 =>
    rw [q] at e
    have hi : i < ρ.length := (List.getElem?_eq_some_iff.mp q).1
    have hi' : i < σ.length := by rw [R.len]; exact hi
    have nb : ∀ o, c0 ≠ .own true o := fun o z => by subst z; cases e
    have sv : (σ.set i (some v))[i]? = some (some v) := by rw [get_set, if_pos rfl, if_pos hi']
    have so : ∀ j, i ≠ j → (σ.set i (some v))[j]? = σ[j]? := fun j ne => by rw [get_set, if_neg ne]
    have core : ∀ (c : Cell), ρ2 = ρ.set i c → CellOk K S H (some (some v)) c → (∀ b o, c = .own b o → b = false ∧ ∃ a, v = .ref a ∧ ¬ Own σ ρ a ∧ (H0 a = none ∨ OwnF σ0 ρ0 a)) →
        Stp S0 H0 σ0 ρ0 S H (σ.set i (some v)) ρ2 ∧ Rel K S H (σ.set i (some v)) ρ2 := fun c e2 kc ko => by
      subst e2
      have own : ∀ b, Own (σ.set i (some v)) (ρ.set i c) b → Own σ ρ b ∨ (H0 b = none ∨ OwnF σ0 ρ0 b) := fun b ⟨j, bb, o, z1, z2⟩ => by
        by_cases ji : i = j
        · subst ji
          rw [get_set, if_pos rfl, if_pos hi] at z1
          obtain ⟨_, a, w1, w2, w3⟩ := ko bb o (Option.some.inj z1)
          rw [sv, w1] at z2
          cases z2
          exact .inr w3
        · rw [get_set, if_neg ji] at z1
          rw [so j ji] at z2
          exact .inl ⟨j, bb, o, z1, z2⟩
      have ownF : ∀ b, OwnF (σ.set i (some v)) (ρ.set i c) b → OwnF σ ρ b ∨ (H0 b = none ∨ OwnF σ0 ρ0 b) := fun b ⟨j, o, z1, z2⟩ => by
        by_cases ji : i = j
        · subst ji
          rw [get_set, if_pos rfl, if_pos hi] at z1
          obtain ⟨_, a, w1, w2, w3⟩ := ko _ o (Option.some.inj z1)
          rw [sv, w1] at z2
          cases z2
          exact .inr w3
        · rw [get_set, if_neg ji] at z1
          rw [so j ji] at z2
          exact .inl ⟨j, o, z1, z2⟩
      refine ⟨⟨s.ex, s.fr, s.th, s.nw, fun b z => ?_, fun b z => ?_, fun j o z => ?_, by rw [List.length_set]; exact s.ln⟩, ⟨R.sub, by rw [List.length_set, List.length_set]; exact R.len, fun j cj z => ?_, fun j1 j2 b1 b2 o1 o2 z1 z2 z3 => ?_, R.tab⟩⟩
      · rcases own b z with y | y | y
        · exact s.ow b y
        · exact .inr y
        · exact .inl y.own
      · rcases ownF b z with y | y | y
        · exact s.owf b y
        · exact .inr y
        · exact .inl y
      · obtain ⟨y1, o1, y2⟩ := s.bo j o z
        have ne : i ≠ j := fun w => by subst w; rw [q] at y2; exact nb o1 (Option.some.inj y2)
        exact ⟨(so j ne).trans y1, o1, by rw [get_set, if_neg ne]; exact y2⟩
      · by_cases ji : i = j
        · subst ji
          rw [get_set, if_pos rfl, if_pos hi] at z
          cases z
          rw [sv]; exact kc
        · rw [get_set, if_neg ji] at z
          rw [so j ji]; exact R.cell j cj z
      · by_cases e1 : i = j1
        · by_cases e2 : i = j2
          · rw [← e1, ← e2]
          · subst e1
            rw [get_set, if_pos rfl, if_pos hi] at z1
            rw [get_set, if_neg e2] at z2
            obtain ⟨_, a, w1, w2, w3⟩ := ko _ _ (Option.some.inj z1)
            rw [sv, so j2 e2, w1] at z3
            exact (w2 ⟨j2, b2, o2, z2, z3.symm⟩).elim
        · by_cases e2 : i = j2
          · subst e2
            rw [get_set, if_pos rfl, if_pos hi] at z2
            rw [get_set, if_neg e1] at z1
            obtain ⟨_, a, w1, w2, w3⟩ := ko _ _ (Option.some.inj z2)
            rw [sv, so j1 e1, w1] at z3
            exact (w2 ⟨j1, b1, o1, z1, z3⟩).elim
          · rw [get_set, if_neg e1] at z1
            rw [get_set, if_neg e2] at z2
            rw [so j1 e1, so j2 e2] at z3
            exact R.dist j1 j2 _ _ _ _ z1 z2 z3
    cases ev with
    | d d =>
      have e4 : ρ.set i (.val d) = ρ2 := by
        cases c0 with
        | no => simpa using e
        | val _ => simpa using e
        | own b o => cases b with
          | true => exact (nb o rfl).elim
          | false => simpa using e
      exact core _ e4.symm ⟨v, rfl, h⟩ fun b o z => nomatch z
    | new o =>
      have e4 : ρ.set i (.own false o) = ρ2 := by
        cases c0 with
        | no => simpa using e
        | val _ => simpa using e
        | own b o => cases b with
          | true => exact (nb o rfl).elim
          | false => simpa using e
      obtain ⟨a, ho, k1, k2, k3, k4, k5, k6⟩ := h
      exact core _ e4.symm ⟨a, ho, by rw [k1], k2, k3, k5⟩ fun b o z => by
        cases z; exact ⟨rfl, a, k1, k4, k6⟩
    | slot j =>
      cases c0 with
      | no => simp at e
      | val _ => simp at e
      | own b o => cases b <;> simp at e
/-- x = e -/
def setC (i : Nat) (ev : EV) (ρ : Rho) : Option Rho := (giveOut ev ρ).bind fun p => putC i p.1 p.2
theorem set_ok {S0 : Hp} {v : V} {ev : EV} {i : Nat} {ρ2 : Rho} (s : Stp S0 H0 σ0 ρ0 S H σ ρ) (R : Rel K S H σ ρ) (h : EvOk K σ0 ρ0 H0 S H σ ρ v ev) (e : setC i ev ρ = some ρ2) :
    Stp S0 H0 σ0 ρ0 S H (σ.set i (some v)) ρ2 ∧ Rel K S H (σ.set i (some v)) ρ2 := by
  simp only [setC, Option.bind_eq_some_iff] at e
  obtain ⟨p, e1, e2⟩ := e
  obtain ⟨s2, R2, k, _⟩ := give_ok s R h (ev2 := p.1) (ρ2 := p.2) e1
  exact put_ok s2 R2 k e2
def Out.of (o : Option Rho) : Out := match o with
  | some ρ => .nx ρ
  | none => .stuck
def mSet (i : Nat) (m : Rho → R EV) (ρ : Rho) : Out := (m ρ).out fun ev ρ1 => Out.of (setC i ev ρ1)
theorem js_set {i : Nat} {t : TE} {m : Rho → R EV} (ha : JE K xc W t m) : JS K xc W (tAsg t (gName i)) (mSet i m) := by
  intro S H σ ρ D R h
  refine ha S H σ ρ _ R (ROk.mono (SPost.out h) (fun ev ρ1 h1 => ?_) fun _ _ z => z)
  intro S1 H1 v s1 R1 e1
  cases q : setC i ev ρ1 with
  | none => rw [q] at h1; exact h1.elim
  | some ρ2 =>
    rw [q] at h1
    obtain ⟨s2, R2⟩ := set_ok s1 R1 e1 q
    exact h1 S1 H1 _ s2 R2
/-- a target that is a name -/
def gtN (i : Nat) (d : D) (ρ : Rho) : Option Rho := putC i (.d d) ρ
theorem jg_name (i : Nat) : JG K (gName i) [i] (gtN i) := fun S H σ ρ v d ρ' Q R hd e h => by
  obtain ⟨s2, R2⟩ := put_ok (ev := .d d) .refl R hd e
  exact h _ s2 R2 ⟨by simp, fun j hj => by
    rw [get_set, if_neg fun z => hj (by simp [z])]⟩

/-! ### loops -/
def forL (mt : D → Rho → Option Rho) (b : Rho → Out) : List D → Rho → Out
  | [], ρ => .nx ρ
  | d :: ds, ρ => match mt d ρ with
    | none => .stuck
    | some ρ1 => match b ρ1 with
      | .nx ρ2 => forL mt b ds ρ2
      | .ct ρ2 => forL mt b ds ρ2
      | .bk ρ2 => .nx ρ2
      | o => o
def mFor (mi : Rho → R (List D)) (mt : D → Rho → Option Rho) (b : Rho → Out) (ρ : Rho) : Out := (mi ρ).out fun ds ρ1 => forL mt b ds ρ1
theorem js_for {wi : TI} {g : TG} {tb : TS} {mi : Rho → R (List D)} {sl : List Nat} {mt : D → Rho → Option Rho} {b : Rho → Out} (hi : JI K xc W wi mi) (hg : JG K g sl mt) (hb : JS K xc W tb b) :
    JS K xc W (tFor wi g tb) (mFor mi mt b) := by
  intro S H σ ρ D R h
  refine hi S H σ ρ _ R (ROk.mono (SPost.out h) (fun ds ρ1 h1 => ?_) fun _ _ z => z)
  intro S1 H1 J s1 R1 ok
  refine ⟨fun i m σ' H' => ∃ S' ρ', Same S1 S' ∧ Stp S1 H1 σ ρ1 S' H' σ' ρ' ∧ Rel K S' H' σ' ρ' ∧ m = ds.length - i ∧ i ≤ ds.length ∧ SPost K xc W D S' H' σ' ρ' (forL mt b (ds.drop i) ρ'),
    ⟨ds.length, S1, ρ1, Same.refl _, .refl, R1, rfl, Nat.zero_le _, by simpa using h1.step s1⟩, ?_⟩
  rintro i m σ' H' ⟨S', ρ', sm, s2, R2, rfl, hi2, h2⟩
  obtain ⟨go, stop⟩ := ok S' H' sm R2.sub i
  by_cases c : i < ds.length
  · obtain ⟨g1, y⟩ := go c
    refine .inr ⟨g1, fun σ3 H3 => ∃ S3 ρ3, Same S1 S3 ∧ Stp S1 H1 σ ρ1 S3 H3 σ3 ρ3 ∧ Rel K S3 H3 σ3 ρ3 ∧ SPost K xc W D S3 H3 σ3 ρ3 (forL mt b (ds.drop (i + 1)) ρ3), ?_, ?_⟩
    · rintro σ3 H3 ⟨S3, ρ3, a1, a2, a3, a4⟩
      exact ⟨ds.length - (i + 1), by omega, S3, ρ3, a1, a2, a3, rfl, c, a4⟩
    · intro x H3 yx
      obtain ⟨S3, gr, d, ed, hd⟩ := y x H3 yx
      have dr : ds.drop i = d :: ds.drop (i + 1) := by
        rw [List.drop_eq_getElem_cons c]
        congr 1
        rw [List.getElem?_eq_getElem c] at ed
        exact Option.some.inj ed
      rw [dr] at h2
      simp only [forL] at h2
      have R3 := R2.laid gr
      have s3 : Stp S1 H1 σ ρ1 S3 H3 σ' ρ' := s2.trans (.laid gr)
      have h3 := h2.step (.laid gr : Stp S' H' σ' ρ' S3 H3 σ' ρ')
      cases q : mt d ρ' with
      | none => rw [q] at h3; exact h3.elim
      | some ρ4 =>
        simp only [q] at h3
        refine hg S3 H3 σ' ρ' x d ρ4 _ R3 hd q fun σ4 s4 R4 _ => ?_
        have h4 := h3.step s4
        have s5 := s3.trans s4
        refine hb S3 H3 σ4 ρ4 _ R4 ?_
        cases qb : b ρ4 with
        | nx ρ5 =>
          simp only [qb] at h4
          exact fun S6 H6 σ6 s6 R6 => ⟨S6, ρ5, (sm.trans gr.s).trans s6.ex, s5.trans s6, R6, h4.step s6⟩
        | ct ρ5 =>
          simp only [qb] at h4
          exact fun S6 H6 σ6 s6 R6 => ⟨S6, ρ5, (sm.trans gr.s).trans s6.ex, s5.trans s6, R6, h4.step s6⟩
        | bk ρ5 => simp only [qb] at h4; exact h4
        | rt e ρ5 => simp only [qb] at h4; exact h4
        | exn x ρ5 => simp only [qb] at h4; exact h4
        | stuck => simp only [qb] at h4; exact h4
  · have c' : ds.length ≤ i := Nat.le_of_not_lt c
    refine .inl ⟨stop c', ?_⟩
    rw [List.drop_eq_nil_of_le c'] at h2
    exact h2 S' H' σ' .refl R2
def whileM (c : Rho → R Bool) (b : Rho → Out) : Nat → Rho → Out
  | 0, _ => .stuck
  | n + 1, ρ => (c ρ).out fun k ρ1 => match k with
    | false => .nx ρ1
    | true => match b ρ1 with
      | .nx ρ2 => whileM c b n ρ2
      | .ct ρ2 => whileM c b n ρ2
      | .bk ρ2 => .nx ρ2
      | o => o
open Classical in
noncomputable def mWhile (c : Rho → R Bool) (b : Rho → Out) (ρ : Rho) : Out := if h : ∃ n, whileM c b n ρ ≠ .stuck then whileM c b (Classical.choose h) ρ else .stuck
theorem js_while {tc : TT} {tb : TS} {c : Rho → R Bool} {b : Rho → Out} (hc : JT K xc W tc c) (hb : JS K xc W tb b) : JS K xc W (tWhile tc tb) (mWhile c b) := by
  intro S H σ ρ D R h
  have fuel : ∃ n, SPost K xc W D S H σ ρ (whileM c b n ρ) := by
    unfold mWhile at h
    split at h
    · exact ⟨_, h⟩
    · exact h.elim
  obtain ⟨n, h⟩ := fuel
  refine ⟨fun m σ' H' => ∃ S' ρ', Rel K S' H' σ' ρ' ∧ SPost K xc W D S' H' σ' ρ' (whileM c b m ρ'), ⟨n, S, ρ, R, h⟩, ?_⟩
  rintro m σ' H' ⟨S', ρ', R', h'⟩
  cases m with
  | zero => exact h'.elim
  | succ m =>
    refine hc S' H' σ' ρ' _ R' (ROk.mono (SPost.out h') (fun k ρ1 h1 => ?_) fun _ _ z => z)
    intro S1 H1 s1 R1
    cases k with
    | false => rw [if_neg Bool.false_ne_true]; exact h1 S1 H1 σ' s1 R1
    | true =>
      rw [if_pos rfl]
      refine ⟨fun σ3 H3 => ∃ S3 ρ3, Rel K S3 H3 σ3 ρ3 ∧ SPost K xc W D S3 H3 σ3 ρ3 (whileM c b m ρ3), fun σ3 H3 z => ⟨m, Nat.lt_succ_self m, z⟩, ?_⟩
      have h2 := h1.step s1
      refine hb S1 H1 σ' ρ1 _ R1 ?_
      cases qb : b ρ1 with
      | nx ρ5 => 
        simp only [qb] at h2
        exact fun S6 H6 σ6 s6 R6 => ⟨S6, ρ5, R6, h2.step s6⟩
      | ct ρ5 => 
        simp only [qb] at h2
        exact fun S6 H6 σ6 s6 R6 => ⟨S6, ρ5, R6, h2.step s6⟩
      | bk ρ5 => simp only [qb] at h2; exact h2
      | rt e ρ5 => simp only [qb] at h2; exact h2
      | exn x ρ5 => simp only [qb] at h2; exact h2
      | stuck => simp only [qb] at h2; exact h2
theorem whileM_mono {c : Rho → R Bool} {b : Rho → Out} : ∀ {n m : Nat} {ρ : Rho}, n ≤ m → whileM c b n ρ ≠ .stuck → whileM c b m ρ = whileM c b n ρ
  | 0, m, ρ, _, h => (h rfl).elim
  | n + 1, 0, ρ, h, _ => absurd h (by omega)
  | n + 1, m + 1, ρ, hn, h => by
    have hn' : n ≤ m := by omega
    simp only [whileM] at h ⊢
    cases q : c ρ with
    | stuck => rfl
    | exn x ρ1 => rfl
    | ok k ρ1 =>
      rw [q] at h
      cases k with
      | false => rfl
      | true =>
        simp only [R.out] at h ⊢
        cases qb : b ρ1 with
        | nx ρ2 => simp only [qb] at h ⊢; exact whileM_mono hn' h
        | ct ρ2 => simp only [qb] at h ⊢; exact whileM_mono hn' h
        | bk ρ2 => rfl
        | rt e ρ2 => rfl
        | exn x ρ2 => rfl
        | stuck => rfl
theorem mWhile_eq {c : Rho → R Bool} {b : Rho → Out} {n : Nat} {ρ : Rho} {o : Out} (h : whileM c b n ρ = o) (hs : o ≠ .stuck) : mWhile c b ρ = o := by
  have ex : ∃ n, whileM c b n ρ ≠ .stuck := ⟨n, by rw [h]; exact hs⟩
  unfold mWhile
  rw [dif_pos ex]
  have h2 := Classical.choose_spec ex
  rcases Nat.le_total n (Classical.choose ex) with z | z
  · rw [whileM_mono z (by rw [h]; exact hs), h]
  · rw [← h, whileM_mono z h2]
end
end Mi

set_option Elab.async false
set_option linter.all false
set_option maxRecDepth 100000
set_option autoImplicit false
namespace Mi
open PySem L2
/-! ### the readings that a mirror gives -/
section
variable (K : PySem.W.Frag) (xc : XC) (W : WX)
def cE (m : Rho → R EV) : TE := fun σ H Q => ∃ S ρ, Rel K S H σ ρ ∧ ROk (EPost K S H σ ρ Q) (XPost K xc W S H σ ρ) (m ρ)
def cT (m : Rho → R Bool) : TT := fun σ H Q => ∃ S ρ, Rel K S H σ ρ ∧ ROk (TPost K S H σ ρ Q) (XPost K xc W S H σ ρ) (m ρ)
def cA (m : Rho → R (List EV)) : TA := fun σ H Q => ∃ S ρ, Rel K S H σ ρ ∧ ROk (APost K S H σ ρ Q) (XPost K xc W S H σ ρ) (m ρ)
def cI (m : Rho → R (List D)) : TI := fun σ H Q => ∃ S ρ, Rel K S H σ ρ ∧ ROk (IPost K S H σ ρ Q) (XPost K xc W S H σ ρ) (m ρ)
def cS (m : Rho → Out) : TS := fun D σ H => ∃ S ρ, Rel K S H σ ρ ∧ SPost K xc W D S H σ ρ (m ρ)
def cG (sl : List Nat) (m : D → Rho → Option Rho) : TG := fun v σ H Q => ∃ S ρ d ρ', Rel K S H σ ρ ∧ Den K S d v ∧ m d ρ = some ρ' ∧ ∀ σ', Stp S H σ ρ S H σ' ρ' → Rel K S H σ' ρ' → (σ'.length = σ.length ∧ ∀ j : Nat, j ∉ sl → σ'[j]? = σ[j]?) → Q σ' H
end
section
variable {K : PySem.W.Frag} {xc : XC} {W : WX}
theorem je_cE {m : Rho → R EV} : JE K xc W (cE K xc W m) m := fun S H σ ρ Q R h => ⟨S, ρ, R, h⟩
theorem jt_cT {m : Rho → R Bool} : JT K xc W (cT K xc W m) m := fun S H σ ρ Q R h => ⟨S, ρ, R, h⟩
theorem ja_cA {m : Rho → R (List EV)} : JA K xc W (cA K xc W m) m := fun S H σ ρ Q R h => ⟨S, ρ, R, h⟩
theorem ji_cI {m : Rho → R (List D)} : JI K xc W (cI K xc W m) m := fun S H σ ρ Q R h => ⟨S, ρ, R, h⟩
theorem js_cS {m : Rho → Out} : JS K xc W (cS K xc W m) m := fun S H σ ρ D R h => ⟨S, ρ, R, h⟩
theorem jg_cG {sl : List Nat} {m : D → Rho → Option Rho} : JG K (cG K sl m) sl m := fun S H σ ρ v d ρ' Q R hd e h => ⟨S, ρ, d, ρ', R, hd, e, h⟩
end
abbrev ME (X : Cx) (xc : XC) (W : WX) (e : Expr) (m : Rho → R EV) : Prop := PE X e (cE X.K xc W m)
abbrev MT (X : Cx) (xc : XC) (W : WX) (e : Expr) (m : Rho → R Bool) : Prop := PT X e (cT X.K xc W m)
abbrev MW (X : Cx) (xc : XC) (W : WX) (e : Expr) (m : Rho → R Bool) : Prop := PW X e (cT X.K xc W m)
abbrev MA (X : Cx) (xc : XC) (W : WX) (es : List Expr) (m : Rho → R (List EV)) : Prop := PA X es (cA X.K xc W m)
abbrev MI (X : Cx) (xc : XC) (W : WX) (tg e : Expr) (m : Rho → R (List D)) : Prop := PI X tg e (cI X.K xc W m)
abbrev MS (X : Cx) (xc : XC) (W : WX) (s : Stmt) (m : Rho → Out) : Prop := PS X s (cS X.K xc W m)
abbrev MSs (X : Cx) (xc : XC) (W : WX) (s : List Stmt) (m : Rho → Out) : Prop := PSs X s (cS X.K xc W m)
abbrev MG (X : Cx) (e : Expr) (sl : List Nat) (m : D → Rho → Option Rho) : Prop := PG X e (cG X.K sl m)
section
variable {X : Cx} {xc : XC} {W : WX}
theorem mkE {e : Expr} {t : TE} {m : Rho → R EV} (h : PE X e t) (j : JE X.K xc W t m) : ME X xc W e m := ⟨fun pins s σ H Q I ⟨S, ρ, R, k⟩ => h.run pins s σ H Q I (j S H σ ρ Q R k)⟩
theorem mkT {e : Expr} {t : TT} {m : Rho → R Bool} (h : PT X e t) (j : JT X.K xc W t m) : MT X xc W e m := ⟨fun pins s σ H Q I ⟨S, ρ, R, k⟩ => h.run pins s σ H Q I (j S H σ ρ Q R k)⟩
theorem mkW {e : Expr} {t : TT} {m : Rho → R Bool} (h : PW X e t) (j : JT X.K xc W t m) : MW X xc W e m := ⟨fun wh pins s σ H Q I ⟨S, ρ, R, k⟩ => h.run wh pins s σ H Q I (j S H σ ρ Q R k)⟩
theorem mkA {e : List Expr} {t : TA} {m : Rho → R (List EV)} (h : PA X e t) (j : JA X.K xc W t m) : MA X xc W e m := ⟨fun pos pins s σ H Q I ⟨S, ρ, R, k⟩ => h.run pos pins s σ H Q I (j S H σ ρ Q R k)⟩
theorem mkI {tg e : Expr} {t : TI} {m : Rho → R (List D)} (h : PI X tg e t) (j : JI X.K xc W t m) : MI X xc W tg e m := ⟨fun pins s σ H Q I ⟨S, ρ, R, k⟩ => h.run pins s σ H Q I (j S H σ ρ Q R k)⟩
theorem mkS {st : Stmt} {t : TS} {m : Rho → Out} (h : PS X st t) (j : JS X.K xc W t m) : MS X xc W st m := ⟨fun pins s σ H D I ⟨S, ρ, R, k⟩ => h.run pins s σ H D I (j S H σ ρ D R k)⟩
theorem mkSs {st : List Stmt} {t : TS} {m : Rho → Out} (h : PSs X st t) (j : JS X.K xc W t m) : MSs X xc W st m := ⟨fun pins s σ H D I ⟨S, ρ, R, k⟩ => h.run pins s σ H D I (j S H σ ρ D R k)⟩
theorem mkG {e : Expr} {sl : List Nat} {g : TG} {m : D → Rho → Option Rho} (h : PG X e g) (j : JG X.K g sl m) : MG X e sl m := ⟨fun pins s σ H v u Q I r ⟨S, ρ, d, ρ', R, hd, e, k⟩ => h.run pins s σ H v u Q I r (j S H σ ρ v d ρ' Q R hd e k)⟩
end
end Mi

set_option Elab.async false
set_option linter.all false
set_option maxRecDepth 100000
set_option autoImplicit false
namespace Mi
open PySem L2
section
variable {X : Cx} {xc : XC} {W : WX}
/-! ### names, constants -/
theorem r_var (i : Nat) {x : Str} {pos : Pos} (hN : X.N[i]? = some x := by rfl) (hv : Vis X.env.scope x := by first | exact Or.inl rfl | exact Or.inr (Or.inl rfl) | exact Or.inr (Or.inr rfl)) (hd : (x == ("__debug__" : Str)) = false := by decide)
    (hcd : (x == ("__classdict__" : Str)) = false := by decide) : ME X xc W (.Name x pos) (mVar i) := mkE (pe_var hN hv hd hcd) (je_var i)
theorem r_int {i j pos} : ME X xc W (.Constant (.int i) j pos) (mC (.int i)) := mkE pe_int (je_c fun S => by unfold Den; rfl)
theorem r_bl {b j pos} : ME X xc W (.Constant (.bool b) j pos) (mC (.bl b)) := mkE pe_bl (je_c fun S => by unfold Den; rfl)
theorem r_non {j pos} : ME X xc W (.Constant .none j pos) (mC .non) := mkE pe_non (je_c fun S => by unfold Den; rfl)
theorem r_str {x j pos} : ME X xc W (.Constant (.str x) j pos) (mC (.str x)) := mkE pe_str (je_c fun S => by unfold Den; rfl)
theorem r_glob {x : Str} {a : Addr} {pos : Pos} (hg : Gl X x) (hm : X.mg x = some (.ref a)) (hd : (x == ("__debug__" : Str)) = false := by decide) : ME X xc W (.Name x pos) (mC (.ref a)) :=
  mkE (pe_glob (v := .ref a) hg hm rfl hd) (je_c fun S => by unfold Den; rfl)

/-! ### operators -/
theorem opr_or {f : Value → Value → Sem Value} {r r' : R2} (h : OpR X f r) (h' : OpR X f r') : OpR X f (fun x y H Q => r x y H Q ∨ r' x y H Q) := by
  intro pins s σ H x y v u Q I rx ry q
  rcases q with q | q
  · exact h pins s σ H x y v u Q I rx ry q
  · exact h' pins s σ H x y v u Q I rx ry q
theorem callr_or {f : Value} {r r' : List V → Hp → VK → Prop} (h : CallR X f r) (h' : CallR X f r') : CallR X f (fun x H Q => r x H Q ∨ r' x H Q) := by
  intro pins s σ H x v Q I rx q
  rcases q with q | q
  · exact h pins s σ H x v Q I rx q
  · exact h' pins s σ H x v Q I rx q
theorem r_op {a b : Expr} {op : Operator} {pos : Pos} {r : R2} {f : D → D → Option EV} {ma mb : Rho → R EV} (ho : OpR X (binaryOp op) r) (hm : OpM X.K r f) (ha : ME X xc W a ma) (hb : ME X xc W b mb) :
    ME X xc W (.BinOp a op b pos) (mOp f ma mb) := mkE (pe_op ho ha hb) (je_op hm je_cE je_cE)
theorem r_un {a : Expr} {op : UnaryOp} {pos : Pos} {r : V → Hp → VK → Prop} {f : D → Option EV} {ma : Rho → R EV} (ho : UnR X (unaryOp op) r) (hm : UnM X.K r f) (ha : ME X xc W a ma) :
    ME X xc W (.UnaryOp op a pos) (mUn f ma) := mkE (pe_un ho ha) (je_un hm je_cE)
theorem r_cmp {a b : Expr} {op : CmpOp} {pos : Pos} {r : R2} {f : D → D → Option EV} {ma mb : Rho → R EV} (ho : OpR X (compareOp op) r) (hm : OpM X.K r f) (ha : ME X xc W a ma) (hb : ME X xc W b mb) (hmk : behindInMarks op b = false) :
    ME X xc W (.Compare a [op] [b] pos) (mOp f ma mb) := mkE (pe_cmpR ho ha hb hmk) (je_op hm je_cE je_cE)
theorem t_cmp {a b : Expr} {op : CmpOp} {pos : Pos} {r : R2} {f : D → D → Option EV} {ma mb : Rho → R EV} (ho : OpR X (compareOp op) r) (hm : OpM X.K r f) (ha : ME X xc W a ma) (hb : ME X xc W b mb) (hmk : behindInMarks op b = false) :
    MT X xc W (.Compare a [op] [b] pos) (mTst (mOp f ma mb)) := mkT (pt_cmpR ho ha hb hmk) (jt_test' (je_op hm je_cE je_cE))
end
/-- of data the value is told -/
theorem den_int {K : PySem.W.Frag} {S : Hp} {i : Int} {v : V} (h : Den K S (.int i) v) : v = .int i := by unfold Den at h; exact h
theorem den_bl {K : PySem.W.Frag} {S : Hp} {i : Bool} {v : V} (h : Den K S (.bl i) v) : v = .bl i := by unfold Den at h; exact h
theorem den_str {K : PySem.W.Frag} {S : Hp} {i : Str} {v : V} (h : Den K S (.str i) v) : v = .str i := by unfold Den at h; exact h
theorem den_non {K : PySem.W.Frag} {S : Hp} {v : V} (h : Den K S .non v) : v = .non := by unfold Den at h; exact h
theorem den_ref {K : PySem.W.Frag} {S : Hp} {a : Addr} {v : V} (h : Den K S (.ref a) v) : v = .ref a := by unfold Den at h; exact h
theorem of_int {K : PySem.W.Frag} {S : Hp} {i : Int} : Den K S (.int i) (.int i) := by unfold Den; rfl
theorem of_bl {K : PySem.W.Frag} {S : Hp} {i : Bool} : Den K S (.bl i) (.bl i) := by unfold Den; rfl
theorem of_str {K : PySem.W.Frag} {S : Hp} {i : Str} : Den K S (.str i) (.str i) := by unfold Den; rfl
theorem den_tup {K : PySem.W.Frag} {S : Hp} {ds : List D} {v : V} (h : Den K S (.tup ds) v) : ∃ a vs, v = .ref a ∧ SqT K S a vs ∧ DenL K S ds vs := by unfold Den at h; exact h
theorem of_tup {K : PySem.W.Frag} {S : Hp} {ds : List D} {a : Addr} {vs : List V} (h : SqT K S a vs) (l : DenL K S ds vs) : Den K S (.tup ds) (.ref a) := by unfold Den; exact ⟨a, vs, rfl, h, l⟩
theorem of_lst {K : PySem.W.Frag} {S : Hp} {ds : List D} {a : Addr} {vs : List V} (h : SqL K S a vs) (l : DenL K S ds vs) : Den K S (.lst ds) (.ref a) := by unfold Den; exact ⟨a, vs, rfl, h, l⟩
theorem den_lst {K : PySem.W.Frag} {S : Hp} {ds : List D} {v : V} (h : Den K S (.lst ds) v) : ∃ a vs, v = .ref a ∧ SqL K S a vs ∧ DenL K S ds vs := by unfold Den at h; exact h
theorem evg {K : PySem.W.Frag} {H S' H' : Hp} {v : V} {d : D} (h : Den K S' d v) : EvG K H S' H' v (.d d) := h
section
variable {K : PySem.W.Frag} {S H : Hp}
theorem seen_int {i : Int} {v : V} (h : Seen K S H (.int i) v) : v = .int i := den_int (show Den K S (.int i) v from h)
theorem seen_bl {i : Bool} {v : V} (h : Seen K S H (.bl i) v) : v = .bl i := den_bl (show Den K S (.bl i) v from h)
theorem seen_str {i : Str} {v : V} (h : Seen K S H (.str i) v) : v = .str i := den_str (show Den K S (.str i) v from h)
theorem seen_non {v : V} (h : Seen K S H .non v) : v = .non := den_non (show Den K S .non v from h)
theorem seen_ref {a : Addr} {v : V} (h : Seen K S H (.ref a) v) : v = .ref a := den_ref (show Den K S (.ref a) v from h)
theorem seen_tup {ds : List D} {v : V} (h : Seen K S H (.tup ds) v) : ∃ a vs, v = .ref a ∧ SqT K S a vs ∧ DenL K S ds vs := den_tup (show Den K S (.tup ds) v from h)
theorem seen_emp {v : V} (h : Seen K S H .emp v) : ∃ a, v = .ref a ∧ S a = some (.dK []) := by
  have h' : Den K S .emp v := h
  unfold Den at h'; exact h'
theorem seen_lst {ds : List D} {v : V} (h : Seen K S H (.lst ds) v) : ∃ a vs, v = .ref a ∧ SqL K H a vs ∧ DenL K S ds vs := h
end
/-! two ints -/
def dI2 (g : Int → Int → D) : D → D → Option EV
  | .int i, .int j => some (.d (g i j))
  | _, _ => none
def dI2c (c : Int → Int → Bool) (g : Int → Int → D) : D → D → Option EV
  | .int i, .int j => if c i j then some (.d (g i j)) else none
  | _, _ => none
theorem opm_I0 {K : PySem.W.Frag} {g : Int → Int → V} {gd : Int → Int → D} (h : ∀ i j S, Den K S (gd i j) (g i j)) : OpM K (rI0 g) (dI2 gd) := by
  intro S H x y dx dy ev Q hs sx sy e q
  cases dx <;> cases dy <;> simp only [dI2, reduceCtorEq] at e
  cases e
  exact ⟨_, _, seen_int sx, seen_int sy, q S H _ (.refl hs) (evg (h _ _ _))⟩
theorem opm_I {K : PySem.W.Frag} {C : Int → Int → Prop} {c : Int → Int → Bool} {g : Int → Int → V} {gd : Int → Int → D} (hc : ∀ i j, c i j = true → C i j) (h : ∀ i j S, Den K S (gd i j) (g i j)) : OpM K (rI C g) (dI2c c gd) := by
  intro S H x y dx dy ev Q hs sx sy e q
  cases dx <;> cases dy <;> simp only [dI2c, reduceCtorEq] at e
  obtain ⟨e1, e2⟩ := some_ite e
  subst e2
  exact ⟨_, _, seen_int sx, seen_int sy, hc _ _ e1, q S H _ (.refl hs) (evg (h _ _ _))⟩
def dSub := dI2 fun i j => .int (i - j)
def dLt := dI2 fun i j => .bl (decide (i < j))
def dLe := dI2 fun i j => .bl (decide (i ≤ j))
def dGt := dI2 fun i j => .bl (decide (j < i))
def dGe := dI2 fun i j => .bl (decide (j ≤ i))
def dAnd := dI2 fun i j => .int (Builtin.bitAnd i j)
def mulOk (i j : Int) : Bool := (decide (-(2 ^ 64) < i) && decide (i < 2 ^ 64)) || (decide (-(2 ^ 64) < j) && decide (j < 2 ^ 64))
def dMul := dI2c mulOk fun i j => .int (i * j)
def divOk (i j : Int) : Bool := decide (0 < j) && decide (j < 1073741824)
def dDiv := dI2c divOk fun i j => .int (i / j)
def dMod := dI2c (fun _ j => decide (0 < j)) fun i j => .int (i % j)
section
variable {X : Cx} {xc : XC} {W : WX} {a b : Expr} {pos : Pos} {ma mb : Rho → R EV}
theorem r_sub (ha : ME X xc W a ma) (hb : ME X xc W b mb) : ME X xc W (.BinOp a .Sub b pos) (mOp dSub ma mb) := r_op op_sub (opm_I0 fun _ _ _ => of_int) ha hb
theorem r_and_ (ha : ME X xc W a ma) (hb : ME X xc W b mb) : ME X xc W (.BinOp a .BitAnd b pos) (mOp dAnd ma mb) := r_op op_and (opm_I0 fun _ _ _ => of_int) ha hb
theorem r_mul (ha : ME X xc W a ma) (hb : ME X xc W b mb) : ME X xc W (.BinOp a .Mult b pos) (mOp dMul ma mb) := r_op op_mul (opm_I (fun i j h => by
  simp only [mulOk, Bool.or_eq_true, Bool.and_eq_true, decide_eq_true_eq] at h; exact h) fun _ _ _ => of_int) ha hb
theorem r_div (ha : ME X xc W a ma) (hb : ME X xc W b mb) : ME X xc W (.BinOp a .FloorDiv b pos) (mOp dDiv ma mb) := r_op op_fdiv (opm_I (fun i j h => by
  simp only [divOk, Bool.and_eq_true, decide_eq_true_eq] at h; exact h) fun _ _ _ => of_int) ha hb
theorem r_mod (ha : ME X xc W a ma) (hb : ME X xc W b mb) : ME X xc W (.BinOp a .Mod b pos) (mOp dMod ma mb) := r_op op_mod (opm_I (fun i j h => of_decide_eq_true h) fun _ _ _ => of_int) ha hb
theorem r_lt (ha : ME X xc W a ma) (hb : ME X xc W b mb) : ME X xc W (.Compare a [.Lt] [b] pos) (mOp dLt ma mb) := r_cmp op_lt (opm_I0 fun _ _ _ => of_bl) ha hb (nomark _)
theorem t_lt (ha : ME X xc W a ma) (hb : ME X xc W b mb) : MT X xc W (.Compare a [.Lt] [b] pos) (mTst (mOp dLt ma mb)) := t_cmp op_lt (opm_I0 fun _ _ _ => of_bl) ha hb (nomark _)
theorem r_le (ha : ME X xc W a ma) (hb : ME X xc W b mb) : ME X xc W (.Compare a [.LtE] [b] pos) (mOp dLe ma mb) := r_cmp op_le (opm_I0 fun _ _ _ => of_bl) ha hb (nomark _)
theorem t_le (ha : ME X xc W a ma) (hb : ME X xc W b mb) : MT X xc W (.Compare a [.LtE] [b] pos) (mTst (mOp dLe ma mb)) := t_cmp op_le (opm_I0 fun _ _ _ => of_bl) ha hb (nomark _)
theorem r_gt (ha : ME X xc W a ma) (hb : ME X xc W b mb) : ME X xc W (.Compare a [.Gt] [b] pos) (mOp dGt ma mb) := r_cmp op_gt (opm_I0 fun _ _ _ => of_bl) ha hb (nomark _)
theorem t_gt (ha : ME X xc W a ma) (hb : ME X xc W b mb) : MT X xc W (.Compare a [.Gt] [b] pos) (mTst (mOp dGt ma mb)) := t_cmp op_gt (opm_I0 fun _ _ _ => of_bl) ha hb (nomark _)
theorem r_ge (ha : ME X xc W a ma) (hb : ME X xc W b mb) : ME X xc W (.Compare a [.GtE] [b] pos) (mOp dGe ma mb) := r_cmp op_ge (opm_I0 fun _ _ _ => of_bl) ha hb (nomark _)
theorem t_ge (ha : ME X xc W a ma) (hb : ME X xc W b mb) : MT X xc W (.Compare a [.GtE] [b] pos) (mTst (mOp dGe ma mb)) := t_cmp op_ge (opm_I0 fun _ _ _ => of_bl) ha hb (nomark _)
end
/-! == of scalars, is None, + -/
def eqD : D → D → Option Bool
  | .non, .non => some true | .non, .int _ => some false | .int _, .non => some false | .non, .bl _ => some false | .bl _, .non => some false | .non, .str _ => some false | .str _, .non => some false
  | .int i, .int j => some (decide (i = j)) | .bl i, .bl j => some (decide (i = j)) | .str i, .str j => some (decide (i = j))
  | .int _, .str _ => some false | .str _, .int _ => some false | .bl _, .str _ => some false | .str _, .bl _ => some false
  | _, _ => none
def dEq (x y : D) : Option EV := (eqD x y).map fun b => .d (.bl b)
def dNe (x y : D) : Option EV := (eqD x y).map fun b => .d (.bl (!b))
theorem eqD_scal {K : PySem.W.Frag} {S H : Hp} {dx dy : D} {x y : V} {b : Bool} (sx : Seen K S H dx x) (sy : Seen K S H dy y) (e : eqD dx dy = some b) : scal x y = true ∧ decide (x = y) = b := by
  cases dx <;> cases dy <;> simp only [eqD, reduceCtorEq, Option.some.injEq] at e <;>
    first
    | (cases e)
    | skip
  all_goals first
    | (rw [seen_non sx, seen_non sy]; exact ⟨rfl, by simp⟩)
    | (rw [seen_non sx, seen_int sy]; exact ⟨rfl, by simp⟩)
    | (rw [seen_int sx, seen_non sy]; exact ⟨rfl, by simp⟩)
    | (rw [seen_non sx, seen_bl sy]; exact ⟨rfl, by simp⟩)
    | (rw [seen_bl sx, seen_non sy]; exact ⟨rfl, by simp⟩)
    | (rw [seen_non sx, seen_str sy]; exact ⟨rfl, by simp⟩)
    | (rw [seen_str sx, seen_non sy]; exact ⟨rfl, by simp⟩)
    | (rw [seen_int sx, seen_int sy]; exact ⟨rfl, by simp⟩)
    | (rw [seen_bl sx, seen_bl sy]; exact ⟨rfl, by simp⟩)
    | (rw [seen_str sx, seen_str sy]; exact ⟨rfl, by simp⟩)
    | (rw [seen_int sx, seen_str sy]; exact ⟨rfl, by simp⟩)
    | (rw [seen_str sx, seen_int sy]; exact ⟨rfl, by simp⟩)
    | (rw [seen_bl sx, seen_str sy]; exact ⟨rfl, by simp⟩)
    | (rw [seen_str sx, seen_bl sy]; exact ⟨rfl, by simp⟩)
theorem opm_eq {K : PySem.W.Frag} : OpM K rEq dEq := by
  intro S H x y dx dy ev Q hs sx sy e q
  simp only [dEq, Option.map_eq_some_iff] at e
  obtain ⟨b, e1, e2⟩ := e
  subst e2
  obtain ⟨h1, h2⟩ := eqD_scal sx sy e1
  exact ⟨h1, q S H _ (.refl hs) (evg (by rw [h2]; exact of_bl))⟩
theorem opm_ne {K : PySem.W.Frag} : OpM K rNe dNe := by
  intro S H x y dx dy ev Q hs sx sy e q
  simp only [dNe, Option.map_eq_some_iff] at e
  obtain ⟨b, e1, e2⟩ := e
  subst e2
  obtain ⟨h1, h2⟩ := eqD_scal sx sy e1
  exact ⟨h1, q S H _ (.refl hs) (evg (by rw [h2]; exact of_bl))⟩
def isN : D → Bool
  | .non => true
  | _ => false
theorem isN_v {K : PySem.W.Frag} {S H : Hp} {d : D} {v : V} (h : Seen K S H d v) : decide (v = .non) = isN d := by
  cases d with
  | non => rw [seen_non h]; simp [isN]
  | bl b => rw [seen_bl h]; simp [isN]
  | int b => rw [seen_int h]; simp [isN]
  | str b => rw [seen_str h]; simp [isN]
  | ref b => rw [seen_ref h]; simp [isN]
  | tup b => obtain ⟨a, vs, e, _⟩ := seen_tup h; rw [e]; simp [isN]
  | lst b => obtain ⟨a, vs, e, _⟩ := seen_lst h; rw [e]; simp [isN]
  | emp => obtain ⟨a, e, _⟩ := seen_emp h; rw [e]; simp [isN]
def dIsN (x y : D) : Option EV := match y with
  | .non => some (.d (.bl (isN x)))
  | _ => none
def dNotN (x y : D) : Option EV := match y with
  | .non => some (.d (.bl (!isN x)))
  | _ => none
section
variable {X : Cx} {xc : XC} {W : WX} {a b : Expr} {pos : Pos} {ma mb : Rho → R EV}
theorem r_eq (ha : ME X xc W a ma) (hb : ME X xc W b mb) : ME X xc W (.Compare a [.Eq] [b] pos) (mOp dEq ma mb) := r_cmp op_eq opm_eq ha hb (nomark _)
theorem t_eq (ha : ME X xc W a ma) (hb : ME X xc W b mb) : MT X xc W (.Compare a [.Eq] [b] pos) (mTst (mOp dEq ma mb)) := t_cmp op_eq opm_eq ha hb (nomark _)
theorem r_ne (ha : ME X xc W a ma) (hb : ME X xc W b mb) : ME X xc W (.Compare a [.NotEq] [b] pos) (mOp dNe ma mb) := r_cmp op_ne opm_ne ha hb (nomark _)
theorem t_ne (ha : ME X xc W a ma) (hb : ME X xc W b mb) : MT X xc W (.Compare a [.NotEq] [b] pos) (mTst (mOp dNe ma mb)) := t_cmp op_ne opm_ne ha hb (nomark _)
theorem opm_isN {K : PySem.W.Frag} : OpM K (fun x y H Q => y = .non ∧ Q (.bl (decide (x = .non))) H) dIsN := by
  intro S H x y dx dy ev Q hs sx sy e q
  cases dy <;> simp only [dIsN, reduceCtorEq, Option.some.injEq] at e
  subst e
  exact ⟨seen_non sy, q S H _ (.refl hs) (evg (by rw [isN_v sx]; exact of_bl))⟩
theorem opm_notN {K : PySem.W.Frag} : OpM K (fun x y H Q => y = .non ∧ Q (.bl (!decide (x = .non))) H) dNotN := by
  intro S H x y dx dy ev Q hs sx sy e q
  cases dy <;> simp only [dNotN, reduceCtorEq, Option.some.injEq] at e
  subst e
  exact ⟨seen_non sy, q S H _ (.refl hs) (evg (by rw [isN_v sx]; exact of_bl))⟩
theorem r_isN (ha : ME X xc W a ma) (hb : ME X xc W b mb) : ME X xc W (.Compare a [.Is] [b] pos) (mOp dIsN ma mb) := r_cmp op_isN opm_isN ha hb (nomark _)
theorem t_isN (ha : ME X xc W a ma) (hb : ME X xc W b mb) : MT X xc W (.Compare a [.Is] [b] pos) (mTst (mOp dIsN ma mb)) := t_cmp op_isN opm_isN ha hb (nomark _)
theorem r_notN (ha : ME X xc W a ma) (hb : ME X xc W b mb) : ME X xc W (.Compare a [.IsNot] [b] pos) (mOp dNotN ma mb) := r_cmp op_notN opm_notN ha hb (nomark _)
theorem t_notN (ha : ME X xc W a ma) (hb : ME X xc W b mb) : MT X xc W (.Compare a [.IsNot] [b] pos) (mTst (mOp dNotN ma mb)) := t_cmp op_notN opm_notN ha hb (nomark _)
end
/-- a + b: ints, tuples -/
def dAdd : D → D → Option EV
  | .int i, .int j => some (.d (.int (i + j)))
  | .tup xs, .tup ys => if szOk (xs.length + ys.length) then some (.d (.tup (xs ++ ys))) else none
  | _, _ => none
theorem opm_add {K : PySem.W.Frag} : OpM K (fun x y H Q => rI0 (fun i j => .int (i + j)) x y H Q ∨ rCatA K x y H Q) dAdd := by
  intro S H x y dx dy ev Q hs sx sy e q
  cases dx <;> cases dy <;> simp only [dAdd, reduceCtorEq] at e
  · cases e
    exact .inl ⟨_, _, seen_int sx, seen_int sy, q S H _ (.refl hs) (evg of_int)⟩
  · obtain ⟨e1, e2⟩ := some_ite e
    subst e2
    obtain ⟨a, vs, r1, t1, l1⟩ := seen_tup sx
    obtain ⟨b, us, r2, t2, l2⟩ := seen_tup sy
    refine .inr ⟨a, b, vs, us, r1, r2, sqT_same hs t1, sqT_same hs t2, by rw [l1.length, l2.length]; exact Nat.le_of_lt (szOk.le e1), fun z => ?_, fun z1 z2 => ?_, fun z1 z2 p hp => ?_⟩
    · refine q S H _ (.refl hs) (evg (of_tup t2 ?_))
      have l := l1.append l2
      rw [z, List.nil_append] at l
      exact l
    · refine q S H _ (.refl hs) (evg (of_tup t1 ?_))
      have l := l1.append l2
      rw [z2, List.append_nil] at l
      exact l
    · have g : Grow S H (upd S p (.tup (vs ++ us))) (upd H p (.tup (vs ++ us))) := Grow.stable hs hp
      exact q _ _ _ g (evg (of_tup (SqT.of upd_same) ((l1.append l2).same g.s)))
def dNeg : D → Option EV
  | .int i => some (.d (.int (-i)))
  | _ => none
theorem unm_neg {K : PySem.W.Frag} : UnM K (rU fun i => .int (-i)) dNeg := by
  intro S H x dx ev Q hs sx e q
  cases dx <;> simp only [dNeg, reduceCtorEq] at e
  cases e
  exact ⟨_, seen_int sx, q S H _ (.refl hs) (evg of_int)⟩
section
variable {X : Cx} {xc : XC} {W : WX} {a b : Expr} {pos : Pos} {ma mb : Rho → R EV}
theorem r_add (ha : ME X xc W a ma) (hb : ME X xc W b mb) : ME X xc W (.BinOp a .Add b pos) (mOp dAdd ma mb) := r_op (opr_or op_add op_catA) opm_add ha hb
theorem r_neg (ha : ME X xc W a ma) : ME X xc W (.UnaryOp .USub a pos) (mUn dNeg ma) := r_un un_neg unm_neg ha
end
/-- a[i] -/
def dIx : D → D → Option EV
  | .tup xs, .int i => (atI xs i).map .d
  | .lst xs, .int i => (atI xs i).map .d
  | _, _ => none
theorem atI_den {K : PySem.W.Frag} {S : Hp} {ds : List D} {vs : List V} {i : Int} {d : D} (l : DenL K S ds vs) (e : atI ds i = some d) : ∃ v, atI vs i = some v ∧ Den K S d v := by
  unfold atI at e ⊢
  rw [l.length]
  cases q : ixN ds.length i with
  | none => rw [q] at e; cases e
  | some j =>
    rw [q] at e
    exact l.get e
theorem opm_ix {K : PySem.W.Frag} : OpM K (rIx K) dIx := by
  intro S H x y dx dy ev Q hs sx sy e q
  cases dx <;> cases dy <;> simp only [dIx, reduceCtorEq, Option.map_eq_some_iff] at e
  · obtain ⟨d, e1, rfl⟩ := e
    obtain ⟨a, vs, r1, t1, l1⟩ := seen_tup sx
    obtain ⟨v, e2, hv⟩ := atI_den l1 e1
    exact .inr (.inl ⟨a, vs, _, v, r1, seen_int sy, sqT_same hs t1, e2, q S H _ (.refl hs) (evg hv)⟩)
  · obtain ⟨d, e1, rfl⟩ := e
    obtain ⟨a, vs, r1, t1, l1⟩ := seen_lst sx
    obtain ⟨v, e2, hv⟩ := atI_den l1 e1
    exact .inl ⟨a, vs, _, v, r1, seen_int sy, t1, e2, q S H _ (.refl hs) (evg hv)⟩
section
variable {X : Cx} {xc : XC} {W : WX} {a b c : Expr} {pos : Pos} {ma mb : Rho → R EV} {es : List Expr} {rest : List Expr}
theorem r_ix (ha : ME X xc W a ma) (hb : ME X xc W b mb) (hs : PlainIx b := by exact fun _ _ => rfl) : ME X xc W (.Subscript a b pos) (mOp dIx ma mb) := mkE (pe_ix ix_seq ha hb hs) (je_op opm_ix je_cE je_cE)
/-! ### arguments, displays -/
theorem a_nil : MA X xc W [] mNil := mkA pa_nil ja_nil
theorem a_cons {mr : Rho → R (List EV)} (ha : ME X xc W a ma) (hr : MA X xc W es mr) (hs : starEach (a :: es) X.env = (false, eval a X.env) :: starEach es X.env := by rfl) : MA X xc W (a :: es) (mCons ma mr) := mkA (pa_cons ha hr hs) (ja_cons je_cE ja_cA)
theorem r_frz (ha : ME X xc W a ma) : ME X xc W a (mFrz ma) := mkE ha (je_frz je_cE)
theorem r_tup {x1} {m : Rho → R (List EV)} (h : MA X xc W es m) : ME X xc W (.Tuple es x1 pos) (mTup m) := mkE (pe_tup h) (je_tup ja_cA)
theorem r_lst {m : Rho → R (List EV)} (h : MA X xc W es m) : ME X xc W (.List es pos) (mLst m) := mkE (pe_lst h) (je_lst ja_cA)
/-! ### tests -/
variable {mt mu : Rho → R Bool}
theorem je_truth {K : PySem.W.Frag} {t : TE} {m : Rho → R EV} (ha : JE K xc W t m) : JT K xc W (fun σ H Q => t σ H fun x H' => ∃ k, TruV K x H' k ∧ Q k H') (mTru m) := by
  intro S H σ ρ Q R h
  refine ha S H σ ρ _ R (ROk.mono (ROk.bind h) (fun ev ρ1 h1 => ?_) fun _ _ z => z)
  intro S1 H1 x s1 R1 e1
  obtain ⟨k, q, hq⟩ := ROk.of h1
  simp only [Option.bind_eq_some_iff] at q
  obtain ⟨d, q1, q2⟩ := q
  have sn := rd_seen R1 e1 q1
  refine ⟨k, ?_, hq S1 H1 s1 R1⟩
  have emp : ∀ {ds : List D} {vs : List V} {S : Hp}, DenL K S ds vs → (!ds.isEmpty) = !vs.isEmpty := fun {ds vs S} l => by
    have := l.length
    cases ds <;> cases vs <;> simp at this ⊢
  cases d with
  | non => rw [seen_non sn]; simp only [truD, Option.some.injEq] at q2; exact q2.symm
  | bl b => rw [seen_bl sn]; simp only [truD, Option.some.injEq] at q2; exact q2.symm
  | int i => rw [seen_int sn]; simp only [truD, Option.some.injEq] at q2; exact q2.symm
  | str s => simp [truD] at q2
  | ref s => simp [truD] at q2
  | emp => simp [truD] at q2
  | tup ds =>
    obtain ⟨a, vs, r, t1, l⟩ := seen_tup sn
    rw [r]
    simp only [truD, Option.some.injEq] at q2
    exact .inr (.inl ⟨vs, sqT_same R1.sub t1, by rw [← q2]; exact emp l⟩)
  | lst ds =>
    obtain ⟨a, vs, r, t1, l⟩ := seen_lst sn
    rw [r]
    simp only [truD, Option.some.injEq] at q2
    exact .inl ⟨vs, t1, by rw [← q2]; exact emp l⟩
theorem t_tru (ha : ME X xc W a ma) (he : ∀ whole, isTrue a X.env whole = (do let v ← whole; standAt a.pos; holding [v] (truthy v)) := by exact fun _ => rfl) : MT X xc W a (mTru ma) := mkT (pt_truth ha he) (je_truth je_cE)
theorem t_not (ha : MT X xc W a mt) : MT X xc W (.UnaryOp .Not a pos) (mNotT mt) := mkT (pt_not ha) (jt_not jt_cT)
theorem w_and1 (ha : MT X xc W a mt) : MW X xc W (.BoolOp .And [a] pos) mt := mkW (pw_and1 ha) jt_cT
theorem w_or1 (ha : MT X xc W a mt) : MW X xc W (.BoolOp .Or [a] pos) mt := mkW (pw_or1 ha) jt_cT
theorem w_and (ha : MT X xc W a mt) (hb : MW X xc W (.BoolOp .And (b :: rest) pos) mu) : MW X xc W (.BoolOp .And (a :: b :: rest) pos) (mAndT mt mu) := mkW (pw_and ha hb) (jt_and jt_cT jt_cT)
theorem w_or (ha : MT X xc W a mt) (hb : MW X xc W (.BoolOp .Or (b :: rest) pos) mu) : MW X xc W (.BoolOp .Or (a :: b :: rest) pos) (mOrT mt mu) := mkW (pw_or ha hb) (jt_or jt_cT jt_cT)
theorem t_w (h : MW X xc W a mt) : MT X xc W a mt := h.pt
theorem r_one {op} (h : ME X xc W a ma) : ME X xc W (.BoolOp op [a] pos) ma := mkE (pe_one h) je_cE
theorem r_andV (ha : ME X xc W a ma) (hb : ME X xc W (.BoolOp .And (b :: rest) pos) mb) : ME X xc W (.BoolOp .And (a :: b :: rest) pos) (mAndV ma mb) := mkE (pe_and ha hb) (je_andV je_cE je_cE)
theorem r_orV (ha : ME X xc W a ma) (hb : ME X xc W (.BoolOp .Or (b :: rest) pos) mb) : ME X xc W (.BoolOp .Or (a :: b :: rest) pos) (mOrV ma mb) := mkE (pe_or ha hb) (je_orV je_cE je_cE)
theorem r_notV (ha : ME X xc W a ma) : ME X xc W (.UnaryOp .Not a pos) (mNotV ma) := mkE (pe_not ha) (je_notV je_cE)
theorem r_ife (hc : MT X xc W c mt) (ha : ME X xc W a ma) (hb : ME X xc W b mb) : ME X xc W (.IfExp c a b pos) (mIfE mt ma mb) := mkE (pe_ifExp hc ha hb) (je_if jt_cT je_cE je_cE)
/-! ### statements -/
variable {st : Stmt} {sts ss : List Stmt} {m n : Rho → Out}
theorem s_nil : MSs X xc W [] mNext := mkSs pss_nil js_next
theorem s_cons (h1 : MS X xc W st m) (h2 : MSs X xc W sts n) : MSs X xc W (st :: sts) (mSeq m n) := mkSs (pss_cons h1 h2) (js_seq js_cS js_cS)
theorem s_one (h1 : MS X xc W st m) : MSs X xc W [st] m := mkSs (pss_one h1) js_cS
theorem s_if (hc : MT X xc W c mt) (ha : MSs X xc W sts m) (hb : MSs X xc W ss n) : MS X xc W (.If c sts ss pos) (mIfS mt m n) := mkS (ps_if hc ha hb) (js_if jt_cT js_cS js_cS)
theorem s_ret (ha : ME X xc W a ma) : MS X xc W (.Return (some a) pos) (mRet ma) := mkS (ps_ret ha) (js_ret je_cE)
theorem s_retN : MS X xc W (.Return none pos) mRetN := mkS ps_retN js_retN
theorem s_cont : MS X xc W (.Continue pos) mCont := mkS ps_continue js_cont
theorem s_brk : MS X xc W (.Break pos) mBrk := mkS ps_break js_brk
theorem s_pass : MS X xc W (.Pass pos) mNext := mkS ps_pass js_next
theorem s_expr (ha : ME X xc W a ma) (hs : swapsWith a none pos.line X.env = pure false := by rfl) : MS X xc W (.Expr a pos) (mDrop ma) := mkS (ps_expr ha hs) (js_drop je_cE)
theorem s_set {i : Nat} {x : Str} {pos' : Pos} (hN : X.N.Nodup) (hi : X.N[i]? = some x) (hx : Loc X.env.scope x) (he : ME X xc W a ma) (hs : swapsWith a (some (.Name x pos')) pos.line X.env = pure false := by rfl) (hf : X.fn x = true ∨ X.env.scope.names.lookup x = some .local := by first | exact .inl rfl | exact .inr rfl | assumption) :
    MS X xc W (.Assign [.Name x pos'] a pos) (mSet i ma) := mkS (ps_set hN hi hx he hs hf) (js_set je_cE)
theorem s_while (hp : PassesOwn (model X.prog X.w) X.A X.env X.xe) (hc : MT X xc W c mt) (hb : MSs X xc W sts m) : MS X xc W (.While c sts [] pos) (mWhile mt m) := mkS (ps_while hp hc hb) (js_while jt_cT js_cS)
end
end Mi

set_option Elab.async false
set_option linter.all false
set_option maxRecDepth 100000
set_option autoImplicit false
namespace Mi
open PySem L2
/-! ### built-ins by values -/
section
variable {K : PySem.W.Frag} {S H : Hp}
theorem seenL1 {d : D} {vs : List V} (h : SeenL K S H [d] vs) : ∃ v, vs = [v] ∧ Seen K S H d v := by
  match vs, h with
  | [v], h => exact ⟨v, rfl, h.1⟩
theorem seenL2 {d e : D} {vs : List V} (h : SeenL K S H [d, e] vs) : ∃ v u, vs = [v, u] ∧ Seen K S H d v ∧ Seen K S H e u := by
  match vs, h with
  | [v, u], h => exact ⟨v, u, rfl, h.1, h.2.1⟩
end
def bLen : List D → Option EV
  | [.tup ds] => some (.d (.int ds.length))
  | [.lst ds] => some (.d (.int ds.length))
  | _ => none
theorem cam_len {K : PySem.W.Frag} : CaM K (fun xs H Q => ∃ p ys, xs = [.ref p] ∧ (SqL K H p ys ∨ SqT K H p ys) ∧ Q (.int ys.length) H) bLen := by
  intro S H xs ds ev Q hs sx e q
  match ds, sx, e with
  | [.tup ds], sx, e =>
    simp only [bLen, Option.some.injEq] at e; subst e
    obtain ⟨v, rfl, sv⟩ := seenL1 sx
    obtain ⟨a, vs, rfl, t, l⟩ := seen_tup sv
    exact ⟨a, vs, rfl, .inr (sqT_same hs t), q S H _ (.refl hs) (evg (by rw [l.length]; exact of_int))⟩
  | [.lst ds], sx, e =>
    simp only [bLen, Option.some.injEq] at e; subst e
    obtain ⟨v, rfl, sv⟩ := seenL1 sx
    obtain ⟨a, vs, rfl, t, l⟩ := seen_lst sv
    exact ⟨a, vs, rfl, .inl t, q S H _ (.refl hs) (evg (by rw [l.length]; exact of_int))⟩
def bTuple : List D → Option EV
  | [.tup ds] => some (.d (.tup ds))
  | [.lst ds] => some (.d (.tup ds))
  | _ => none
theorem cam_tuple {K : PySem.W.Frag} : CaM K (fun xs H Q => ∃ p ys, xs = [.ref p] ∧ ((SqL K H p ys ∧ ∀ l, H l = none → Q (.ref l) (upd H l (.tup ys))) ∨ (SqT K H p ys ∧ Q (.ref p) H))) bTuple := by
  intro S H xs ds ev Q hs sx e q
  match ds, sx, e with
  | [.tup ds], sx, e =>
    simp only [bTuple, Option.some.injEq] at e; subst e
    obtain ⟨v, rfl, sv⟩ := seenL1 sx
    obtain ⟨a, vs, rfl, t, l⟩ := seen_tup sv
    exact ⟨a, vs, rfl, .inr ⟨sqT_same hs t, q S H _ (.refl hs) (evg (of_tup t l))⟩⟩
  | [.lst ds], sx, e =>
    simp only [bTuple, Option.some.injEq] at e; subst e
    obtain ⟨v, rfl, sv⟩ := seenL1 sx
    obtain ⟨a, vs, rfl, t, l⟩ := seen_lst sv
    refine ⟨a, vs, rfl, .inl ⟨t, fun p hp => ?_⟩⟩
    have g : Grow S H (upd S p (.tup vs)) (upd H p (.tup vs)) := Grow.stable hs hp
    exact q _ _ _ g (evg (of_tup (SqT.of upd_same) (l.same g.s)))
def bList : List D → Option EV
  | [.tup ds] => some (.new (.lst ds))
  | [.lst ds] => some (.new (.lst ds))
  | _ => none
theorem evg_lst {K : PySem.W.Frag} {S H : Hp} {p : Addr} {ds : List D} {vs : List V} (hs : Same S H) (hp : H p = none) (l : DenL K S ds vs) : EvG K H S (upd H p (.lst vs)) (.ref p) (.new (.lst ds)) :=
  ⟨p, _, rfl, hp, upd_same, L2.Same.free hs hp, vs, rfl, l⟩
theorem cam_list {K : PySem.W.Frag} : CaM K (fun xs H Q => ∃ p ys, xs = [.ref p] ∧ (SqL K H p ys ∨ SqT K H p ys) ∧ ∀ l, H l = none → Q (.ref l) (upd H l (.lst ys))) bList := by
  intro S H xs ds ev Q hs sx e q
  match ds, sx, e with
  | [.tup ds], sx, e =>
    simp only [bList, Option.some.injEq] at e; subst e
    obtain ⟨v, rfl, sv⟩ := seenL1 sx
    obtain ⟨a, vs, rfl, t, l⟩ := seen_tup sv
    exact ⟨a, vs, rfl, .inr (sqT_same hs t), fun p hp => q _ _ _ (Grow.loose hs hp) (evg_lst hs hp l)⟩
  | [.lst ds], sx, e =>
    simp only [bList, Option.some.injEq] at e; subst e
    obtain ⟨v, rfl, sv⟩ := seenL1 sx
    obtain ⟨a, vs, rfl, t, l⟩ := seen_lst sv
    exact ⟨a, vs, rfl, .inl t, fun p hp => q _ _ _ (Grow.loose hs hp) (evg_lst hs hp l)⟩
/-- the ints of a list of data -/
def intsOf : List D → Option (List Int)
  | [] => some []
  | .int i :: r => (intsOf r).bind fun ns => some (i :: ns)
  | _ :: _ => none
theorem intsOf_eq : ∀ {ds : List D} {ns : List Int}, intsOf ds = some ns → ds = ns.map D.int
  | [], ns, e => by simp only [intsOf, Option.some.injEq] at e; subst e; rfl
  | .int i :: r, ns, e => by
    simp only [intsOf, Option.bind_eq_some_iff, Option.some.injEq] at e
    obtain ⟨ms, e1, e2⟩ := e
    subst e2
    rw [intsOf_eq e1]; rfl
  | .non :: _, _, e => by simp [intsOf] at e
  | .bl _ :: _, _, e => by simp [intsOf] at e
  | .str _ :: _, _, e => by simp [intsOf] at e
  | .ref _ :: _, _, e => by simp [intsOf] at e
  | .tup _ :: _, _, e => by simp [intsOf] at e
  | .lst _ :: _, _, e => by simp [intsOf] at e
theorem intsOf_map : ∀ ns : List Int, intsOf (ns.map D.int) = some ns
  | [] => rfl
  | n :: ns => by simp only [List.map_cons, intsOf, intsOf_map ns, Option.bind_some]
def leI (a b : Int) : Bool := decide (a ≤ b)
def geI (a b : Int) : Bool := decide (b ≤ a)
def bSorted : List D → Option EV
  | [.lst ds] => (intsOf ds).map fun ns => .new (.lst ((ns.mergeSort leI).map D.int))
  | _ => none
theorem perm_le {xs ys : List Int} (hp : xs.Perm ys) (h1 : xs.Pairwise (· ≤ ·)) (h2 : ys.Pairwise (· ≤ ·)) : xs = ys := hp.eq_of_pairwise (fun a b _ _ h1 h2 => Int.le_antisymm h1 h2) h1 h2
theorem perm_ge {xs ys : List Int} (hp : xs.Perm ys) (h1 : xs.Pairwise (· ≥ ·)) (h2 : ys.Pairwise (· ≥ ·)) : xs = ys := hp.eq_of_pairwise (fun a b _ _ h1 h2 => Int.le_antisymm h2 h1) h1 h2
theorem ms_le (ns : List Int) : (ns.mergeSort leI).Pairwise (· ≤ ·) :=
  (List.pairwise_mergeSort (le := leI) (fun a b c h1 h2 => by simp only [leI, decide_eq_true_eq] at *; omega) (fun a b => by simp only [leI, Bool.or_eq_true, decide_eq_true_eq]; omega) ns).imp fun h => by simpa [leI] using h
theorem ms_ge (ns : List Int) : (ns.mergeSort geI).Pairwise (· ≥ ·) :=
  (List.pairwise_mergeSort (le := geI) (fun a b c h1 h2 => by simp only [geI, decide_eq_true_eq] at *; omega) (fun a b => by simp only [geI, Bool.or_eq_true, decide_eq_true_eq]; omega) ns).imp fun h => by simpa [geI] using h
theorem cam_sorted {K : PySem.W.Frag} : CaM K (rSortedI K) bSorted := by
  intro S H xs ds ev Q hs sx e q
  match ds, sx, e with
  | [.lst ds], sx, e =>
    simp only [bSorted, Option.map_eq_some_iff] at e
    obtain ⟨ns, e1, e2⟩ := e
    subst e2
    obtain ⟨v, rfl, sv⟩ := seenL1 sx
    obtain ⟨a, vs, rfl, t, l⟩ := seen_lst sv
    rw [intsOf_eq e1] at l
    rw [l.ints] at t
    refine ⟨a, ns, rfl, t, ?_⟩
    intro ns' p h1 h2 hp
    have e3 : ns' = ns.mergeSort leI := perm_le (h1.trans (List.mergeSort_perm _ _).symm) h2 (ms_le ns)
    subst e3
    exact q _ _ _ (Grow.loose hs hp) (evg_lst hs hp DenL.of_ints)
def blsOf : List D → Option (List Bool)
  | [] => some []
  | .bl i :: r => (blsOf r).bind fun ns => some (i :: ns)
  | _ :: _ => none
def bAll : List D → Option EV
  | [.lst ds] => (blsOf ds).map fun bs => .d (.bl (bs.all id))
  | _ => none
theorem blsOf_eq : ∀ {ds : List D} {ns : List Bool}, blsOf ds = some ns → ds = ns.map D.bl
  | [], ns, e => by simp only [blsOf, Option.some.injEq] at e; subst e; rfl
  | .bl i :: r, ns, e => by
    simp only [blsOf, Option.bind_eq_some_iff, Option.some.injEq] at e
    obtain ⟨ms, e1, e2⟩ := e
    subst e2
    rw [blsOf_eq e1]; rfl
  | .non :: _, _, e => by simp [blsOf] at e
  | .int _ :: _, _, e => by simp [blsOf] at e
  | .str _ :: _, _, e => by simp [blsOf] at e
  | .ref _ :: _, _, e => by simp [blsOf] at e
  | .tup _ :: _, _, e => by simp [blsOf] at e
  | .lst _ :: _, _, e => by simp [blsOf] at e
theorem blsOf_map : ∀ ns : List Bool, blsOf (ns.map D.bl) = some ns
  | [] => rfl
  | n :: ns => by simp only [List.map_cons, blsOf, blsOf_map ns, Option.bind_some]
theorem cam_all {K : PySem.W.Frag} : CaM K (rAll K) bAll := by
  intro S H xs ds ev Q hs sx e q
  match ds, sx, e with
  | [.lst ds], sx, e =>
    simp only [bAll, Option.map_eq_some_iff] at e
    obtain ⟨bs, e1, e2⟩ := e
    subst e2
    obtain ⟨v, rfl, sv⟩ := seenL1 sx
    obtain ⟨a, vs, rfl, t, l⟩ := seen_lst sv
    rw [blsOf_eq e1] at l
    rw [l.bls] at t
    exact ⟨a, bs, rfl, t, q S H _ (.refl hs) (evg of_bl)⟩
def bAbs : List D → Option EV
  | [.int i] => some (.d (.int (if i < 0 then -i else i)))
  | _ => none
theorem cam_abs {K : PySem.W.Frag} : CaM K (fun xs H Q => ∃ i, xs = [.int i] ∧ Q (.int (if i < 0 then -i else i)) H) bAbs := by
  intro S H xs ds ev Q hs sx e q
  match ds, sx, e with
  | [.int i], sx, e =>
    simp only [bAbs, Option.some.injEq] at e; subst e
    obtain ⟨v, rfl, sv⟩ := seenL1 sx
    exact ⟨i, by rw [seen_int sv], q S H _ (.refl hs) (evg of_int)⟩
def bInt : List D → Option EV
  | [.int i] => some (.d (.int i))
  | _ => none
theorem cam_int {K : PySem.W.Frag} : CaM K (fun xs H Q => (∃ i, xs = [.int i] ∧ Q (.int i) H) ∨ ∃ k, xs = [.bl k] ∧ Q (.int (if k then 1 else 0)) H) bInt := by
  intro S H xs ds ev Q hs sx e q
  match ds, sx, e with
  | [.int i], sx, e =>
    simp only [bInt, Option.some.injEq] at e; subst e
    obtain ⟨v, rfl, sv⟩ := seenL1 sx
    exact .inl ⟨i, by rw [seen_int sv], q S H _ (.refl hs) (evg of_int)⟩
def bMin : List D → Option EV
  | [.int i, .int j] => some (.d (.int (if j < i then j else i)))
  | _ => none
theorem cam_min {K : PySem.W.Frag} : CaM K (fun xs H Q => ∃ i j, xs = [.int i, .int j] ∧ Q (.int (if j < i then j else i)) H) bMin := by
  intro S H xs ds ev Q hs sx e q
  match ds, sx, e with
  | [.int i, .int j], sx, e =>
    simp only [bMin, Option.some.injEq] at e; subst e
    obtain ⟨v, u, rfl, s1, s2⟩ := seenL2 sx
    exact ⟨i, j, by rw [seen_int s1, seen_int s2], q S H _ (.refl hs) (evg of_int)⟩
def bMax : List D → Option EV
  | [.int i, .int j] => some (.d (.int (if j > i then j else i)))
  | _ => none
theorem cam_max {K : PySem.W.Frag} : CaM K (fun xs H Q => ∃ i j, xs = [.int i, .int j] ∧ Q (.int (if j > i then j else i)) H) bMax := by
  intro S H xs ds ev Q hs sx e q
  match ds, sx, e with
  | [.int i, .int j], sx, e =>
    simp only [bMax, Option.some.injEq] at e; subst e
    obtain ⟨v, u, rfl, s1, s2⟩ := seenL2 sx
    exact ⟨i, j, by rw [seen_int s1, seen_int s2], q S H _ (.refl hs) (evg of_int)⟩
/-- lcm of two ints -/
def lcmOk (a b : Int) : Bool := decide (a.natAbs < 2 ^ 64) && decide (b.natAbs < 2 ^ 64)
def bLcm : List D → Option EV
  | [.int i, .int j] => if lcmOk i j then some (.d (.int ((Nat.lcm i.natAbs j.natAbs : Nat) : Int))) else none
  | _ => none
def rLcm : List V → Hp → VK → Prop := fun vs H Q => ∃ a b : Int, vs = [.int a, .int b] ∧ lcmOk a b = true ∧ Q (.int ((Nat.lcm a.natAbs b.natAbs : Nat) : Int)) H
theorem one_lcm (n : Nat) : Nat.lcm 1 n = n := by simp [Nat.lcm]
theorem lcm_small {a b : Int} (h : lcmOk a b = true) : ((((Nat.lcm 1 a.natAbs).lcm b.natAbs : Nat) : Int)).natAbs.log2 < PySem.bitsLine := by
  simp only [lcmOk, Bool.and_eq_true, decide_eq_true_eq] at h
  rw [one_lcm, Int.natAbs_natCast]
  have h1 : Nat.lcm a.natAbs b.natAbs ≤ a.natAbs * b.natAbs := by
    rcases Nat.eq_zero_or_pos (a.natAbs * b.natAbs) with z | z
    · rcases Nat.mul_eq_zero.mp z with y | y <;> simp [y]
    · exact Nat.le_of_dvd z (Nat.lcm_dvd_mul _ _)
  have h2 : a.natAbs * b.natAbs < 2 ^ 128 := by
    have := Nat.mul_lt_mul'' h.1 h.2
    calc _ < 2 ^ 64 * 2 ^ 64 := this
      _ = 2 ^ 128 := by decide
  have h3 : (Nat.lcm a.natAbs b.natAbs).log2 < 128 := by
    rcases Nat.eq_zero_or_pos (Nat.lcm a.natAbs b.natAbs) with z | z
    · rw [z]; decide
    · exact (Nat.log2_lt (by omega)).mpr (by omega)
  exact Nat.lt_of_lt_of_le h3 (by decide +kernel)
theorem cr_lcm {X : Cx} : CallR X (.builtin "math.lcm") rLcm := by
  intro pins s σ H vs us Q I r h
  obtain ⟨a, b, rfl, hok, q⟩ := h
  obtain ⟨t, u, rfl⟩ := Vals.int2 r
  have hk := hok
  simp only [lcmOk, Bool.and_eq_true, decide_eq_true_eq] at hk
  refine PySem.W.mg_lcm hk.1 hk.2 (lcm_small hok) ⟨.int _, H, I.tok _, ⟨_, rfl⟩, ?_⟩
  rw [one_lcm]
  exact q
theorem cam_lcm {K : PySem.W.Frag} : CaM K rLcm bLcm := by
  intro S H xs ds ev Q hs sx e q
  match ds, sx, e with
  | [.int i, .int j], sx, e =>
    simp only [bLcm] at e
    obtain ⟨e1, e2⟩ := some_ite e
    subst e2
    obtain ⟨v, u, rfl, s1, s2⟩ := seenL2 sx
    exact ⟨i, j, by rw [seen_int s1, seen_int s2], e1, q S H _ (.refl hs) (evg of_int)⟩
section
variable {X : Cx} {xc : XC} {W : WX} {a b c e : Expr} {es : List Expr} {p pos : Pos} {ma mb : Rho → R EV} {m : Rho → R (List EV)} {x : Str} {r : List V → Hp → VK → Prop} {f : List D → Option EV}
theorem r_callB {id : String} (hc : CallR X (.builtin id) r) (hm : CaM X.K r f) (hg : Gl X x) (hmg : X.mg x = none) (hv : bootBuiltins x = some (.builtin id)) (ha : MA X xc W (e :: es) m) (hn : x ≠ "__name__" := by decide) (hdb : (x == ("__debug__" : Str)) = false := by decide)
    (he : starEach (e :: es) X.env = (false, eval e X.env) :: starEach es X.env := by rfl) (hpl : (backTo pos (starEach es X.env)).any (·.1) = false := by rfl) : ME X xc W (.Call (.Name x p) (e :: es) [] pos) (mCB f m) := mkE (pe_callB hc hg hmg hv ha hn hdb he hpl) (je_cb hm ja_cA)
theorem r_callTy {T : String} (hc : CallR X (.type T) r) (hm : CaM X.K r f) (hg : Gl X x) (hmg : X.mg x = none) (hv : bootBuiltins x = some (.type T)) (ha : MA X xc W (e :: es) m) (hn : x ≠ "__name__" := by decide) (hdb : (x == ("__debug__" : Str)) = false := by decide)
    (he : starEach (e :: es) X.env = (false, eval e X.env) :: starEach es X.env := by rfl) (hpl : (backTo pos (starEach es X.env)).any (·.1) = false := by rfl) : ME X xc W (.Call (.Name x p) (e :: es) [] pos) (mCB f m) := mkE (pe_callTy hc hg hmg hv ha hn hdb he hpl) (je_cb hm ja_cA)
theorem r_callF {id : String} (hc : CallR X (.builtin id) r) (hm : CaM X.K r f) (hg : Gl X x) (hmg : X.mg x = some (.builtin id)) (ha : MA X xc W (e :: es) m) (hdb : (x == ("__debug__" : Str)) = false := by decide)
    (he : starEach (e :: es) X.env = (false, eval e X.env) :: starEach es X.env := by rfl) (hpl : (backTo pos (starEach es X.env)).any (·.1) = false := by rfl) : ME X xc W (.Call (.Name x p) (e :: es) [] pos) (mCB f m) := mkE (pe_callBfun hc hg hmg ha hdb he hpl) (je_cb hm ja_cA)
theorem r_len (hg : Gl X "len") (hmg : X.mg "len" = none) (ha : MA X xc W [e] m) (he : starEach [e] X.env = (false, eval e X.env) :: starEach [] X.env := by rfl) : ME X xc W (.Call (.Name "len" p) [e] [] pos) (mCB bLen m) := r_callB call_len_seq cam_len hg hmg PySem.boot_len ha (by decide) (by decide) he
theorem r_tuple (hg : Gl X "tuple") (hmg : X.mg "tuple" = none) (ha : MA X xc W [e] m) (he : starEach [e] X.env = (false, eval e X.env) :: starEach [] X.env := by rfl) : ME X xc W (.Call (.Name "tuple" p) [e] [] pos) (mCB bTuple m) := r_callTy call_tuple_of cam_tuple hg hmg (by decide +kernel) ha (by decide) (by decide) he
theorem r_list (hg : Gl X "list") (hmg : X.mg "list" = none) (ha : MA X xc W [e] m) (he : starEach [e] X.env = (false, eval e X.env) :: starEach [] X.env := by rfl) : ME X xc W (.Call (.Name "list" p) [e] [] pos) (mCB bList m) := r_callTy call_list_of cam_list hg hmg (by decide +kernel) ha (by decide) (by decide) he
theorem r_sorted (hg : Gl X "sorted") (hmg : X.mg "sorted" = none) (ha : MA X xc W [e] m) (he : starEach [e] X.env = (false, eval e X.env) :: starEach [] X.env := by rfl) : ME X xc W (.Call (.Name "sorted" p) [e] [] pos) (mCB bSorted m) := r_callB cr_sortedI cam_sorted hg hmg (by decide +kernel) ha (by decide) (by decide) he
theorem r_all (hc : X.calm = true) (hg : Gl X "all") (hmg : X.mg "all" = none) (ha : MA X xc W [e] m) (he : starEach [e] X.env = (false, eval e X.env) :: starEach [] X.env := by rfl) : ME X xc W (.Call (.Name "all" p) [e] [] pos) (mCB bAll m) := r_callB (cr_all hc) cam_all hg hmg (by decide +kernel) ha (by decide) (by decide) he
theorem r_abs (hg : Gl X "abs") (hmg : X.mg "abs" = none) (ha : MA X xc W [e] m) (he : starEach [e] X.env = (false, eval e X.env) :: starEach [] X.env := by rfl) : ME X xc W (.Call (.Name "abs" p) [e] [] pos) (mCB bAbs m) := r_callB call_abs cam_abs hg hmg (by decide +kernel) ha (by decide) (by decide) he
theorem r_int_ (hg : Gl X "int") (hmg : X.mg "int" = none) (ha : MA X xc W [e] m) (he : starEach [e] X.env = (false, eval e X.env) :: starEach [] X.env := by rfl) : ME X xc W (.Call (.Name "int" p) [e] [] pos) (mCB bInt m) := r_callTy call_int1 cam_int hg hmg (by decide +kernel) ha (by decide) (by decide) he
theorem r_min (hc : X.calm = true) (hg : Gl X "min") (hmg : X.mg "min" = none) (ha : MA X xc W [a, b] m) (he : starEach [a, b] X.env = (false, eval a X.env) :: starEach [b] X.env := by rfl) (hpl : (backTo pos (starEach [b] X.env)).any (·.1) = false := by rfl) : ME X xc W (.Call (.Name "min" p) [a, b] [] pos) (mCB bMin m) := r_callB (call_min2 hc) cam_min hg hmg (by decide +kernel) ha (by decide) (by decide) he hpl
theorem r_max (hc : X.calm = true) (hg : Gl X "max") (hmg : X.mg "max" = none) (ha : MA X xc W [a, b] m) (he : starEach [a, b] X.env = (false, eval a X.env) :: starEach [b] X.env := by rfl) (hpl : (backTo pos (starEach [b] X.env)).any (·.1) = false := by rfl) : ME X xc W (.Call (.Name "max" p) [a, b] [] pos) (mCB bMax m) := r_callB (call_max2 hc) cam_max hg hmg (by decide +kernel) ha (by decide) (by decide) he hpl
theorem r_lcm (hg : Gl X "lcm") (hmg : X.mg "lcm" = some (.builtin "math.lcm")) (ha : MA X xc W [a, b] m) (he : starEach [a, b] X.env = (false, eval a X.env) :: starEach [b] X.env := by rfl) (hpl : (backTo pos (starEach [b] X.env)).any (·.1) = false := by rfl) : ME X xc W (.Call (.Name "lcm" p) [a, b] [] pos) (mCB bLcm m) := r_callF cr_lcm cam_lcm hg hmg ha (by decide) he hpl
end

/-! ### isinstance with a written built-in class -/
inductive Ty where
  | int | bool | str | tuple | list
def Ty.nm : Ty → String
  | .int => "int" | .bool => "bool" | .str => "str" | .tuple => "tuple" | .list => "list"
def Ty.nmS : Ty → Str
  | .int => "int" | .bool => "bool" | .str => "str" | .tuple => "tuple" | .list => "list"
def dIsi : Ty → D → Option EV
  | _, .ref _ => none
  | .int, .int _ => some (.d (.bl true))
  | .int, .bl _ => some (.d (.bl true))
  | .bool, .bl _ => some (.d (.bl true))
  | .str, .str _ => some (.d (.bl true))
  | .tuple, .tup _ => some (.d (.bl true))
  | .list, .lst _ => some (.d (.bl true))
  | _, _ => some (.d (.bl false))
def D.ty : D → Option String
  | .non => some "NoneType" | .bl _ => some "bool" | .int _ => some "int" | .str _ => some "str" | .tup _ => some "tuple" | .lst _ => some "list" | .emp => some "dict" | .ref _ => none
theorem tyX_of {K : PySem.W.Frag} {S H : Hp} (hs : Same S H) {d : D} {v : V} {n : String} (h : Seen K S H d v) (e : d.ty = some n) : TyX K H v (.type n) := by
  cases d <;> simp only [D.ty, reduceCtorEq, Option.some.injEq] at e <;> subst e
  · rw [seen_non h]; exact .base .non
  · rw [seen_bl h]; exact .base (.bl _)
  · rw [seen_int h]; exact .base (.int _)
  · rw [seen_str h]; exact .base (.str _)
  · obtain ⟨a, vs, rfl, t, l⟩ := seen_tup h
    rcases sqT_same hs t with (t | ⟨o, t⟩) | ⟨o, its, n, k, c, _⟩
    · exact .base (.tup t)
    · exact .fTuple t
    · exact .kTuple k c
  · obtain ⟨a, vs, rfl, t, l⟩ := seen_lst h
    rcases t with (t | ⟨o, t⟩) | ⟨o, its, n, k, c, _⟩
    · exact .base (.lst t)
    · exact .base (.frz t)
    · exact .kList k c
  · obtain ⟨a, rfl, t⟩ := seen_emp h
    exact .base (.dK (hs _ _ t))
def tIsi (K : PySem.W.Frag) (T : String) (ta : TE) : TE := tCB (rIsi K) (tCons ta (tCons (tC (.ty T)) tNil))
def mIsi (T : Ty) (ma : Rho → R EV) (ρ : Rho) : R EV := (ma ρ).bind fun ea ρ1 => R.of ((rd ρ1 ea).bind fun x => dIsi T x) ρ1
theorem kit_all (K : PySem.W.Frag) (T : Ty) (d : D) (n : String) (ev : EV) (e : d.ty = some n) (h : dIsi T d = some ev) : ∃ b, ev = .d (.bl b) ∧ PySem.W.kitOne K (.type n) (.type T.nm) = some b := by
  cases d <;> simp only [D.ty, reduceCtorEq, Option.some.injEq] at e <;> subst e <;> cases T <;> simp only [dIsi, Option.some.injEq] at h <;> subst h <;> exact ⟨_, rfl, by first | rfl | kernel_rfl⟩
theorem je_isi {K : PySem.W.Frag} {xc : XC} {W : WX} {T : Ty} {ta : TE} {ma : Rho → R EV} (ha : JE K xc W ta ma) : JE K xc W (tIsi K T.nm ta) (mIsi T ma) := by
  intro S H σ ρ Q R h
  refine ha S H σ ρ _ R (ROk.mono (ROk.bind h) (fun ea ρ1 h1 => ?_) fun _ _ z => z)
  intro S1 H1 x s1 R1 e1
  obtain ⟨ev, q, hq⟩ := ROk.of h1
  simp only [Option.bind_eq_some_iff] at q
  obtain ⟨d, q1, q2⟩ := q
  have sn := rd_seen R1 e1 q1
  have hty : ∃ n, d.ty = some n := by
    cases d <;> first | exact ⟨_, rfl⟩ | (cases T <;> simp [dIsi] at q2)
  obtain ⟨n, hn⟩ := hty
  obtain ⟨b, rfl, hk⟩ := kit_all K T d n ev hn q2
  exact ⟨x, .ty T.nm, _, _, b, rfl, .ty _, tyX_of R1.sub sn hn, hk, hq S1 H1 _ s1 R1 (show Den K S1 (.bl b) _ from of_bl)⟩
section
variable {X : Cx} {xc : XC} {W : WX} {a : Expr} {p p2 pos : Pos} {ma : Rho → R EV}
theorem r_isi (T : Ty) (hg : Gl X "isinstance") (hmg : X.mg "isinstance" = none) (hgT : Gl X T.nmS) (hmT : X.mg T.nmS = none) (ha : ME X xc W a ma)
    (he : starEach [a, .Name T.nmS p2] X.env = (false, eval a X.env) :: starEach [.Name T.nmS p2] X.env := by rfl)
    (he2 : starEach [.Name T.nmS p2] X.env = (false, eval (.Name T.nmS p2) X.env) :: starEach [] X.env := by rfl)
    (hpl : (backTo pos (starEach [.Name T.nmS p2] X.env)).any (·.1) = false := by rfl) : ME X xc W (.Call (.Name "isinstance" p) [a, .Name T.nmS p2] [] pos) (mIsi T ma) := by
  have hT : PE X (.Name T.nmS p2) (tC (.ty T.nm)) := by
    cases T
    · exact pe_bltn hgT hmT (by decide +kernel) rfl (by decide) (by decide)
    · exact pe_bltn hgT hmT (by decide +kernel) rfl (by decide) (by decide)
    · exact pe_bltn hgT hmT (by decide +kernel) rfl (by decide) (by decide)
    · exact pe_bltn hgT hmT (by decide +kernel) rfl (by decide) (by decide)
    · exact pe_bltn hgT hmT (by decide +kernel) rfl (by decide) (by decide)
  exact mkE (pe_callB call_isi hg hmg (by decide +kernel) (pa_cons ha (pa_cons hT pa_nil he2) he) (by decide) (by decide) he hpl) (je_isi je_cE)
end
end Mi

set_option Elab.async false
set_option linter.all false
set_option maxRecDepth 100000
set_option autoImplicit false
namespace Mi
open PySem L2
section
variable {K : PySem.W.Frag} {xc : XC} {W : WX} {S S1 S' H H1 H' H0 : Hp} {σ σ1 σ' σ0 : Sg} {ρ ρ1 ρ' ρ0 : Rho}
/-! ### an owned object is changed in its slot -/
theorem own_upd {i : Nat} {b : Bool} {o o' : Mo} {a : Addr} {ho' : HO} (R : Rel K S H σ ρ) (q : ρ[i]? = some (.own b o)) (hv : σ[i]? = some (some (.ref a))) (hm : MoOk K S o' ho') :
    Stp S H σ ρ S (upd H a ho') σ (ρ.set i (.own b o')) ∧ Rel K S (upd H a ho') σ (ρ.set i (.own b o')) := by
  have hi : i < ρ.length := (List.getElem?_eq_some_iff.mp q).1
  obtain ⟨a', ho, k1, k2, k3, k4⟩ := R.cell i _ q
  rw [hv] at k1; cases k1
  have oa : Own σ ρ a := ⟨i, b, o, q, hv⟩
  have fwd : ∀ c, Own σ (ρ.set i (.own b o')) c → Own σ ρ c := fun c ⟨j, bb, m, z1, z2⟩ => by
    rw [get_set] at z1
    split at z1
    · rename_i e; subst e
      exact ⟨i, b, o, q, z2⟩
    · exact ⟨j, bb, m, z1, z2⟩
  have fwdF : ∀ c, OwnF σ (ρ.set i (.own b o')) c → OwnF σ ρ c := fun c ⟨j, m, z1, z2⟩ => by
    rw [get_set] at z1
    split at z1
    · rename_i e; subst e
      rw [if_pos hi] at z1
      cases z1
      exact ⟨i, o, q, z2⟩
    · exact ⟨j, m, z1, z2⟩
  refine ⟨⟨Same.refl _, fun c u h n => ?_, fun c h => ?_, fun c u h => .inl h, fun c h => .inl (fwd c h), fun c h => .inl (fwdF c h), fun j m h => ⟨rfl, ?_⟩, by rw [List.length_set]⟩, ⟨fun c u h => ?_, by rw [List.length_set]; exact R.len, fun j c z => ?_, fun j1 j2 b1 b2 o1 o2 z1 z2 z3 => ?_, R.tab⟩⟩
  · rw [upd_ne fun z => n (by rw [z]; exact oa)]; exact h
  · by_cases z : c = a
    · subst z; rw [upd_same] at h; cases h
    · rw [upd_ne z] at h; exact h
  · by_cases ji : i = j
    · subst ji
      rw [q] at h; cases h
      exact ⟨o', by rw [get_set, if_pos rfl, if_pos hi]⟩
    · exact ⟨m, by rw [get_set, if_neg ji]; exact h⟩
  · have ne : c ≠ a := fun z => by subst z; rw [k3] at h; cases h
    rw [upd_ne ne]; exact R.sub c u h
  · by_cases ji : i = j
    · subst ji
      rw [get_set, if_pos rfl, if_pos hi] at z
      cases z
      exact ⟨a, ho', hv, upd_same, k3, hm⟩
    · rw [get_set, if_neg ji] at z
      have k := R.cell j c z
      cases c with
      | no => trivial
      | val d => exact k
      | own bb m =>
        obtain ⟨a2, h2, y1, y2, y3, y4⟩ := k
        have ne : a2 ≠ a := fun w => ji (R.dist i j _ _ _ _ q z (by rw [hv, y1, w]))
        exact ⟨a2, h2, y1, by rw [upd_ne ne]; exact y2, y3, y4⟩
  · have e1 : ∃ bb m, ρ[j1]? = some (.own bb m) := by
      rw [get_set] at z1
      split at z1
      · rename_i e; subst e; exact ⟨b, o, q⟩
      · exact ⟨_, _, z1⟩
    have e2 : ∃ bb m, ρ[j2]? = some (.own bb m) := by
      rw [get_set] at z2
      split at z2
      · rename_i e; subst e; exact ⟨b, o, q⟩
      · exact ⟨_, _, z2⟩
    obtain ⟨_, _, e1⟩ := e1
    obtain ⟨_, _, e2⟩ := e2
    exact R.dist j1 j2 _ _ _ _ e1 e2 z3
/-- the owned list of a slot -/
def ownL (i : Nat) (ρ : Rho) : Option (Bool × List D) := match ρ[i]? with
  | some (.own b (.lst xs)) => some (b, xs)
  | _ => none
def ownD (i : Nat) (ρ : Rho) : Option (Bool × List (Key × D)) := match ρ[i]? with
  | some (.own b (.dic xs)) => some (b, xs)
  | _ => none
theorem ownL_eq {i : Nat} {b : Bool} {xs : List D} (h : ownL i ρ = some (b, xs)) : ρ[i]? = some (.own b (.lst xs)) := by
  unfold ownL at h
  split at h
  · rename_i e; simp only [Option.some.injEq, Prod.mk.injEq] at h; obtain ⟨rfl, rfl⟩ := h; exact e
  · cases h
theorem ownD_eq {i : Nat} {b : Bool} {xs : List (Key × D)} (h : ownD i ρ = some (b, xs)) : ρ[i]? = some (.own b (.dic xs)) := by
  unfold ownD at h
  split at h
  · rename_i e; simp only [Option.some.injEq, Prod.mk.injEq] at h; obtain ⟨rfl, rfl⟩ := h; exact e
  · cases h
/-- slot i's list, read off -/
theorem own_lst (R : Rel K S H σ ρ) {i : Nat} {b : Bool} {xs : List D} (q : ρ[i]? = some (.own b (.lst xs))) : ∃ a vs, σ[i]? = some (some (.ref a)) ∧ H a = some (.lst vs) ∧ DenL K S xs vs := by
  obtain ⟨a, ho, k1, k2, k3, vs, rfl, l⟩ := R.cell i _ q
  exact ⟨a, vs, k1, k2, l⟩
theorem own_dic (R : Rel K S H σ ρ) {i : Nat} {b : Bool} {xs : List (Key × D)} (q : ρ[i]? = some (.own b (.dic xs))) : ∃ a vs, σ[i]? = some (some (.ref a)) ∧ H a = some (.dK vs) ∧ KDen K S xs vs := by
  obtain ⟨a, ho, k1, k2, k3, vs, rfl, l⟩ := R.cell i _ q
  exact ⟨a, vs, k1, k2, l⟩
/-- xs.append(e) -/
def mApp (i : Nat) (m : Rho → R EV) (ρ : Rho) : R EV := match ownL i ρ with
  | none => .stuck
  | some _ => (mFrz m ρ).bind fun ev ρ1 => match ev, ownL i ρ1 with
    | .d d, some (b, xs) => if szOk xs.length then .ok (.d .non) (ρ1.set i (.own b (.lst (xs ++ [d])))) else .stuck
    | _, _ => .stuck
theorem je_app {i : Nat} {t : TE} {m : Rho → R EV} (ha : JE K xc W t m) : JE K xc W (tBM K "list" rAppend (tVar i) (tCons t tNil)) (mApp i m) := by
  intro S H σ ρ Q R h
  unfold mApp at h
  cases q0 : ownL i ρ with
  | none => rw [q0] at h; exact h.elim
  | some p0 =>
    rw [q0] at h
    obtain ⟨a, vs0, hv, h0, _⟩ := own_lst R (ownL_eq (b := p0.1) (xs := p0.2) q0)
    refine ⟨.ref a, hv, .inl ⟨rfl, _, SqL.of h0⟩, ?_⟩
    refine je_frz ha S H σ ρ _ R (ROk.mono (ROk.bind h) (fun ev ρ1 h1 => ?_) fun _ _ z => z)
    intro S1 H1 x s1 R1 e1
    cases ev with
    | new o => exact h1.elim
    | slot j => exact h1.elim
    | d d =>
      cases q1 : ownL i ρ1 with
      | none => simp only [q1] at h1; exact h1.elim
      | some p1 =>
        obtain ⟨b, xs⟩ := p1
        simp only [q1] at h1
        have qi := ownL_eq q1
        obtain ⟨a1, vs, hv1, hl, l⟩ := own_lst R1 qi
        rw [hv] at hv1; cases hv1
        by_cases c : szOk xs.length = true
        · rw [if_pos c] at h1
          have l2 : DenL K S1 (xs ++ [d]) (vs ++ [x]) := l.append (DenL.cons e1 DenL.nil)
          obtain ⟨s2, R2⟩ := own_upd R1 qi hv (o' := .lst (xs ++ [d])) (ho' := .lst (vs ++ [x])) ⟨_, rfl, l2⟩
          exact ⟨a, vs, x, rfl, rfl, hl, by rw [l.length]; exact szOk.le c, h1 _ _ _ (s1.trans s2) R2 (show Den K S1 .non .non from by unfold Den; rfl)⟩
        · rw [if_neg c] at h1; exact h1.elim
/-- xs.pop(e) -/
def popAt (xs : List D) (k : Int) : Option (D × List D) := if decide (-(2 ^ 63) ≤ k) && decide (k < 2 ^ 63) then (PySem.seqIndex? k xs.length).bind fun j => (xs[j]?).map fun d => (d, xs.eraseIdx j) else none
def mPop (i : Nat) (m : Rho → R EV) (ρ : Rho) : R EV := match ownL i ρ with
  | none => .stuck
  | some _ => (m ρ).bind fun ev ρ1 => match ev, ownL i ρ1 with
    | .d (.int k), some (b, xs) => match popAt xs k with
      | some p => .ok (.d p.1) (ρ1.set i (.own b (.lst p.2)))
      | none => .stuck
    | _, _ => .stuck
theorem je_pop {i : Nat} {t : TE} {m : Rho → R EV} (ha : JE K xc W t m) : JE K xc W (tBM K "list" rPopAt (tVar i) (tCons t tNil)) (mPop i m) := by
  intro S H σ ρ Q R h
  unfold mPop at h
  cases q0 : ownL i ρ with
  | none => rw [q0] at h; exact h.elim
  | some p0 =>
    rw [q0] at h
    obtain ⟨a, vs0, hv, h0, _⟩ := own_lst R (ownL_eq (b := p0.1) (xs := p0.2) q0)
    refine ⟨.ref a, hv, .inl ⟨rfl, _, SqL.of h0⟩, ?_⟩
    refine ha S H σ ρ _ R (ROk.mono (ROk.bind h) (fun ev ρ1 h1 => ?_) fun _ _ z => z)
    intro S1 H1 x s1 R1 e1
    match ev, h1, e1 with
    | .d (.int k), h1, e1 =>
      cases q1 : ownL i ρ1 with
      | none => simp only [q1] at h1; exact h1.elim
      | some p1 =>
        obtain ⟨b, xs⟩ := p1
        simp only [q1] at h1
        have qi := ownL_eq q1
        obtain ⟨a1, vs, hv1, hl, l⟩ := own_lst R1 qi
        rw [hv] at hv1; cases hv1
        cases qp : popAt xs k with
        | none => rw [qp] at h1; exact h1.elim
        | some p =>
          simp only [qp] at h1
          unfold popAt at qp
          split at qp
          · rename_i c
            simp only [Bool.and_eq_true, decide_eq_true_eq] at c
            simp only [Option.bind_eq_some_iff, Option.map_eq_some_iff] at qp
            obtain ⟨j, w1, d, w2, rfl⟩ := qp
            obtain ⟨y, w3, w4⟩ := l.get w2
            obtain ⟨s2, R2⟩ := own_upd R1 qi hv (o' := .lst (xs.eraseIdx j)) (ho' := .lst (vs.eraseIdx j)) ⟨_, rfl, l.eraseIdx j⟩
            have ex : x = .int k := den_int (show Den K S1 (.int k) x from e1)
            exact ⟨a, vs, k, j, y, rfl, by rw [ex], hl, c.1, c.2, by rw [l.length]; exact w1, w3, h1 _ _ _ (s1.trans s2) R2 (show Den K S1 d y from w4)⟩
          · cases qp
    | .d .non, h1, _ => exact h1.elim
    | .d (.bl _), h1, _ => exact h1.elim
    | .d (.str _), h1, _ => exact h1.elim
    | .d (.ref _), h1, _ => exact h1.elim
    | .d (.tup _), h1, _ => exact h1.elim
    | .d (.lst _), h1, _ => exact h1.elim
    | .new _, h1, _ => exact h1.elim
    | .slot _, h1, _ => exact h1.elim
/-- xs[k] = e -/
def stAt (xs : List D) (k : Int) (d : D) : Option (List D) := (ixN xs.length k).map fun j => xs.set j d
def mStore (i : Nat) (mk mv : Rho → R EV) (ρ : Rho) : Out := (mFrz mv ρ).out fun ev ρ1 => match ev, ownL i ρ1 with
  | .d d, some _ => (mk ρ1).out fun kv ρ2 => match kv, ownL i ρ2 with
    | .d (.int k), some (b, xs) => Out.of ((stAt xs k d).map fun ys => ρ2.set i (.own b (.lst ys)))
    | _, _ => .stuck
  | _, _ => .stuck
theorem js_store {i : Nat} {tk tv : TE} {mk mv : Rho → R EV} (hk : JE K xc W tk mk) (hv : JE K xc W tv mv) : JS K xc W (tAsg tv (gSub (tVar i) tk rSetL)) (mStore i mk mv) := by
  intro S H σ ρ D R h
  refine je_frz hv S H σ ρ _ R (ROk.mono (SPost.out h) (fun ev ρ1 h1 => ?_) fun _ _ z => z)
  intro S1 H1 x s1 R1 e1
  cases ev with
  | new o => exact h1.elim
  | slot j => exact h1.elim
  | d d =>
    cases q0 : ownL i ρ1 with
    | none => simp only [q0] at h1; exact h1.elim
    | some p0 =>
      simp only [q0] at h1
      obtain ⟨a, vs0, ha, h0, _⟩ := own_lst R1 (ownL_eq (b := p0.1) (xs := p0.2) q0)
      refine ⟨.ref a, ha, ?_⟩
      refine hk S1 H1 σ ρ1 _ R1 (ROk.mono (SPost.out (h1.step s1)) (fun kv ρ2 h2 => ?_) fun _ _ z => z)
      intro S2 H2 y s2 R2 e2
      match kv, h2, e2 with
      | .d (.int k), h2, e2 =>
        cases q1 : ownL i ρ2 with
        | none => simp only [q1] at h2; exact h2.elim
        | some p1 =>
          obtain ⟨b, xs⟩ := p1
          simp only [q1] at h2
          have qi := ownL_eq q1
          obtain ⟨a1, vs, hv1, hl, l⟩ := own_lst R2 qi
          rw [ha] at hv1; cases hv1
          cases qs : stAt xs k d with
          | none => rw [qs] at h2; exact h2.elim
          | some ys =>
            rw [qs] at h2
            simp only [stAt, Option.map_eq_some_iff] at qs
            obtain ⟨j, w1, rfl⟩ := qs
            have hd : Den K S2 d x := Den.same s2.ex e1
            obtain ⟨s3, R3⟩ := own_upd R2 qi ha (o' := .lst (xs.set j d)) (ho' := .lst (vs.set j x)) ⟨_, rfl, l.set j hd⟩
            have ey : y = .int k := den_int (show Den K S2 (.int k) y from e2)
            exact ⟨a, vs, k, j, rfl, ey, hl, by rw [l.length]; exact w1, (h2.step s2) S2 _ σ s3 R3⟩
      | .d .non, h2, _ => exact h2.elim
      | .d (.bl _), h2, _ => exact h2.elim
      | .d (.str _), h2, _ => exact h2.elim
      | .d (.ref _), h2, _ => exact h2.elim
      | .d (.tup _), h2, _ => exact h2.elim
      | .d (.lst _), h2, _ => exact h2.elim
      | .new _, h2, _ => exact h2.elim
      | .slot _, h2, _ => exact h2.elim
/-! ### dicts with int and text keys -/
def keyOf : D → Option Key
  | .int i => some (.inl i)
  | .str x => some (.inr x)
  | _ => none
theorem keyOf_v {d : D} {k : Key} {v : V} (h : Den K S d v) (e : keyOf d = some k) : v = kV k := by
  cases d <;> simp only [keyOf, reduceCtorEq, Option.some.injEq] at e <;> subst e
  · exact den_int h
  · exact den_str h
def lookD (kvs : List (Key × D)) (k : Key) : Option D := (kvs.find? fun p => decide (p.1 = k)).map (·.2)
def putD (kvs : List (Key × D)) (k : Key) (d : D) : List (Key × D) :=
  if kvs.any (fun p => decide (p.1 = k)) then kvs.map fun p => if p.1 = k then (p.1, d) else p else kvs ++ [(k, d)]
theorem kden_look : ∀ {kvs : List (Key × D)} {vs : List (Key × V)} {k : Key}, KDen K S kvs vs → (lookD kvs k = none ∧ valV vs k = none) ∨ ∃ d v, lookD kvs k = some d ∧ valV vs k = some v ∧ Den K S d v
  | [], vs, k, h => by
    have e : vs = [] := h
    subst e
    exact .inl ⟨rfl, rfl⟩
  | (k0, d0) :: kvs, vs, k, h => by
    obtain ⟨v, r, rfl, h1, h2⟩ := h
    by_cases c : k0 = k
    · refine .inr ⟨d0, v, ?_, ?_, h1⟩
      · simp [lookD, List.find?, c]
      · simp [valV, List.find?, c]
    · have ih := kden_look (k := k) h2
      have e1 : lookD ((k0, d0) :: kvs) k = lookD kvs k := by simp [lookD, List.find?, c]
      have e2 : valV ((k0, v) :: r) k = valV r k := by simp [valV, List.find?, c]
      rw [e1, e2]
      exact ih
theorem kden_any : ∀ {kvs : List (Key × D)} {vs : List (Key × V)} {k : Key}, KDen K S kvs vs → (kvs.any fun p => decide (p.1 = k)) = vs.any fun p => decide (p.1 = k)
  | [], vs, k, h => by
    have e : vs = [] := h
    subst e; rfl
  | (k0, d0) :: kvs, vs, k, h => by
    obtain ⟨v, r, rfl, h1, h2⟩ := h
    simp only [List.any_cons]
    rw [kden_any h2]
theorem kden_app : ∀ {kvs : List (Key × D)} {vs : List (Key × V)} {k : Key} {d : D} {v : V}, KDen K S kvs vs → Den K S d v → KDen K S (kvs ++ [(k, d)]) (vs ++ [(k, v)])
  | [], vs, k, d, v, h, hd => by
    have e : vs = [] := h
    subst e
    exact ⟨v, [], rfl, hd, rfl⟩
  | (k0, d0) :: kvs, vs, k, d, v, h, hd => by
    obtain ⟨u, r, rfl, h1, h2⟩ := h
    exact ⟨u, _, rfl, h1, kden_app h2 hd⟩
theorem kden_map : ∀ {kvs : List (Key × D)} {vs : List (Key × V)} {k : Key} {d : D} {v : V}, KDen K S kvs vs → Den K S d v → KDen K S (kvs.map fun p => if p.1 = k then (p.1, d) else p) (vs.map fun p => if p.1 = k then (p.1, v) else p)
  | [], vs, k, d, v, h, hd => by
    have e : vs = [] := h
    subst e; rfl
  | (k0, d0) :: kvs, vs, k, d, v, h, hd => by
    obtain ⟨u, r, rfl, h1, h2⟩ := h
    have ih := kden_map (k := k) h2 hd
    by_cases c : k0 = k
    · exact ⟨v, _, by simp [c], by simpa [c] using hd, ih⟩
    · exact ⟨u, _, by simp [c], by simpa [c] using h1, ih⟩
theorem kden_put {kvs : List (Key × D)} {vs : List (Key × V)} {k : Key} {d : D} {v : V} (h : KDen K S kvs vs) (hd : Den K S d v) : KDen K S (putD kvs k d) (putK vs k v) := by
  unfold putD putK
  rw [kden_any h]
  by_cases c : (vs.any fun p => decide (p.1 = k)) = true
  · rw [if_pos c, if_pos c]; exact kden_map h hd
  · rw [if_neg c, if_neg c]; exact kden_app h hd
theorem kden_len : ∀ {kvs : List (Key × D)} {vs : List (Key × V)}, KDen K S kvs vs → vs.length = kvs.length
  | [], vs, h => by
    have e : vs = [] := h
    subst e; rfl
  | (k0, d0) :: kvs, vs, h => by
    obtain ⟨u, r, rfl, h1, h2⟩ := h
    simp [kden_len h2]
def mDnew (ρ : Rho) : R EV := .ok (.new (.dic [])) ρ
theorem je_dnew : JE K xc W tDNewK mDnew := fun S H σ ρ Q R h p hp =>
  have g : Grow S H S (upd H p (.dK [])) := Grow.loose R.sub hp
  h _ _ _ (.laid g) (R.laid g) (EvG.ok R (show EvG K H S _ (.ref p) (.new (.dic [])) from ⟨p, _, rfl, hp, upd_same, L2.Same.free R.sub hp, [], rfl, rfl⟩))
/-- y in d, y not in d; d a slot -/
def mIn (neg : Bool) (i : Nat) (m : Rho → R EV) (ρ : Rho) : R EV := (m ρ).bind fun ev ρ1 => match ev, ownD i ρ1 with
  | .d d, some (_, kvs) => R.of ((keyOf d).map fun k => .d (.bl (xor neg (lookD kvs k).isSome))) ρ1
  | _, _ => .stuck
theorem je_notin {i : Nat} {t : TE} {m : Rho → R EV} (ha : JE K xc W t m) : JE K xc W (tDNotIn t (tVar i)) (mIn true i m) := by
  intro S H σ ρ Q R h
  refine ha S H σ ρ _ R (ROk.mono (ROk.bind h) (fun ev ρ1 h1 => ?_) fun _ _ z => z)
  intro S1 H1 x s1 R1 e1
  cases ev with
  | new o => exact h1.elim
  | slot j => exact h1.elim
  | d d =>
    cases q0 : ownD i ρ1 with
    | none => simp only [q0] at h1; exact h1.elim
    | some p0 =>
      obtain ⟨b, kvs⟩ := p0
      simp only [q0] at h1
      obtain ⟨a, vs, ha, h0, l⟩ := own_dic R1 (ownD_eq q0)
      obtain ⟨ev, w1, w2⟩ := ROk.of h1
      simp only [Option.map_eq_some_iff] at w1
      obtain ⟨k, w3, rfl⟩ := w1
      have ex := keyOf_v (show Den K S1 d x from e1) w3
      refine ⟨.ref a, ha, a, valV vs k, rfl, by rw [ex]; exact DGet.k h0, ?_⟩
      refine w2 S1 H1 _ s1 R1 ?_
      show Den K S1 (.bl _) _
      rcases kden_look (k := k) l with ⟨z1, z2⟩ | ⟨d', v', z1, z2, _⟩
      · rw [z1, z2]; exact of_bl
      · rw [z1, z2]; exact of_bl
theorem je_in {i : Nat} {t : TE} {m : Rho → R EV} (ha : JE K xc W t m) : JE K xc W (tDIn t (tVar i)) (mIn false i m) := by
  intro S H σ ρ Q R h
  refine ha S H σ ρ _ R (ROk.mono (ROk.bind h) (fun ev ρ1 h1 => ?_) fun _ _ z => z)
  intro S1 H1 x s1 R1 e1
  cases ev with
  | new o => exact h1.elim
  | slot j => exact h1.elim
  | d d =>
    cases q0 : ownD i ρ1 with
    | none => simp only [q0] at h1; exact h1.elim
    | some p0 =>
      obtain ⟨b, kvs⟩ := p0
      simp only [q0] at h1
      obtain ⟨a, vs, ha, h0, l⟩ := own_dic R1 (ownD_eq q0)
      obtain ⟨ev, w1, w2⟩ := ROk.of h1
      simp only [Option.map_eq_some_iff] at w1
      obtain ⟨k, w3, rfl⟩ := w1
      have ex := keyOf_v (show Den K S1 d x from e1) w3
      refine ⟨.ref a, ha, a, valV vs k, rfl, by rw [ex]; exact DGet.k h0, ?_⟩
      refine w2 S1 H1 _ s1 R1 ?_
      show Den K S1 (.bl _) _
      rcases kden_look (k := k) l with ⟨z1, z2⟩ | ⟨d', v', z1, z2, _⟩
      · rw [z1, z2]; exact of_bl
      · rw [z1, z2]; exact of_bl
/-- d[y] = e; d a slot -/
def mDput (i : Nat) (mk mv : Rho → R EV) (ρ : Rho) : Out := (mFrz mv ρ).out fun ev ρ1 => match ev, ownD i ρ1 with
  | .d d, some _ => (mk ρ1).out fun kv ρ2 => match kv, ownD i ρ2 with
    | .d kd, some (b, kvs) => Out.of ((keyOf kd).bind fun k => if szOk kvs.length then some (ρ2.set i (.own b (.dic (putD kvs k d)))) else none)
    | _, _ => .stuck
  | _, _ => .stuck
theorem js_dput {i : Nat} {tk tv : TE} {mk mv : Rho → R EV} (hk : JE K xc W tk mk) (hv : JE K xc W tv mv) : JS K xc W (sDPut (tVar i) tk tv) (mDput i mk mv) := by
  intro S H σ ρ D R h
  refine je_frz hv S H σ ρ _ R (ROk.mono (SPost.out h) (fun ev ρ1 h1 => ?_) fun _ _ z => z)
  intro S1 H1 x s1 R1 e1
  cases ev with
  | new o => exact h1.elim
  | slot j => exact h1.elim
  | d d =>
    cases q0 : ownD i ρ1 with
    | none => simp only [q0] at h1; exact h1.elim
    | some p0 =>
      simp only [q0] at h1
      obtain ⟨a, vs0, ha, h0, _⟩ := own_dic R1 (ownD_eq (b := p0.1) (xs := p0.2) q0)
      refine ⟨.ref a, ha, ?_⟩
      refine hk S1 H1 σ ρ1 _ R1 (ROk.mono (SPost.out (h1.step s1)) (fun kv ρ2 h2 => ?_) fun _ _ z => z)
      intro S2 H2 y s2 R2 e2
      cases kv with
      | new o => exact h2.elim
      | slot j => exact h2.elim
      | d kd =>
        cases q1 : ownD i ρ2 with
        | none => simp only [q1] at h2; exact h2.elim
        | some p1 =>
          obtain ⟨b, kvs⟩ := p1
          simp only [q1] at h2
          have qi := ownD_eq q1
          obtain ⟨a1, vs, hv1, hl, l⟩ := own_dic R2 qi
          rw [ha] at hv1; cases hv1
          cases qk : keyOf kd with
          | none => rw [qk] at h2; exact h2.elim
          | some k =>
            by_cases c : szOk kvs.length = true
            · simp only [qk, Option.bind_some, if_pos c, Out.of] at h2
              have hd : Den K S2 d x := Den.same s2.ex e1
              obtain ⟨s3, R3⟩ := own_upd R2 qi ha (o' := .dic (putD kvs k d)) (ho' := .dK (putK vs k x)) ⟨_, rfl, kden_put l hd⟩
              have ey := keyOf_v (show Den K S2 kd y from e2) qk
              exact ⟨a, _, rfl, by rw [ey]; exact DPut.k hl (by rw [kden_len l]; exact szOk.le c), (h2.step s2) S2 _ σ s3 R3⟩
            · simp only [qk, Option.bind_some, if_neg c, Out.of] at h2; exact h2.elim
/-! ### two names at once -/
theorem putC_eq {i : Nat} {ev : EV} {ρ2 : Rho} (h : putC i ev ρ = some ρ2) : ∃ c, ρ2 = ρ.set i c ∧ ∀ b o, c = .own b o → ev = .new o := by
  unfold putC at h
  split at h
  · cases h
  · cases h
  · split at h
    · cases h; exact ⟨_, rfl, fun b o z => nomatch z⟩
    · cases h; exact ⟨_, rfl, fun b o z => by cases z; rfl⟩
    · cases h
def mPar (i j : Nat) (ma mb : Rho → R EV) (ρ : Rho) : Out := (ma ρ).out fun ea ρ1 => (mb ρ1).out fun eb ρ2 => Out.of ((putC i ea ρ2).bind fun ρ3 => putC j eb ρ3)
theorem js_par {i j : Nat} {ta tb : TE} {ma mb : Rho → R EV} (ha : JE K xc W ta ma) (hb : JE K xc W tb mb) : JS K xc W (tPar i j (tCons ta (tCons tb tNil))) (mPar i j ma mb) := by
  intro S H σ ρ D R h
  refine ha S H σ ρ _ R (ROk.mono (SPost.out h) (fun ea ρ1 h1 => ?_) fun _ _ z => z)
  intro S1 H1 x s1 R1 e1
  refine hb S1 H1 σ ρ1 _ R1 (ROk.mono (SPost.out h1) (fun eb ρ2 h2 => ?_) fun _ _ z => z.step s1)
  intro S2 H2 y s2 R2 e2
  refine ⟨x, y, rfl, ?_⟩
  cases q1 : putC i ea ρ2 with
  | none => rw [q1] at h2; exact h2.elim
  | some ρ3 =>
    simp only [q1, Option.bind_some] at h2
    cases q2 : putC j eb ρ3 with
    | none => rw [q2] at h2; exact h2.elim
    | some ρ4 =>
      rw [q2] at h2
      obtain ⟨s3, R3⟩ := put_ok (s1.trans s2) R2 (e1.step s2) q1
      have e3 : EvOk K σ ρ H S2 H2 (σ.set i (some x)) ρ3 y eb := by
        cases eb with
        | slot k =>
          obtain ⟨c, _, _⟩ := putC_eq q2
          unfold putC at q2
          split at q2
          · cases q2
          · cases q2
          · cases q2
        | d d => exact e2
        | new o =>
          have e2' := EvOk.back s1 e2
          obtain ⟨a2, ho, k1, k2, k3, k4, k5, k6⟩ := e2
          obtain ⟨a3, ho3, w1, w2, w3, w4, w5, w6⟩ := e2'
          rw [k1] at w1
          cases w1
          refine ⟨a2, ho, k1, k2, k3, fun ⟨k, bb, m, z1, z2⟩ => ?_, k5, w6⟩
          obtain ⟨c, rfl, hc⟩ := putC_eq q1
          by_cases ik : i = k
          · subst ik
            have hi : i < ρ2.length := by
              have z := (List.getElem?_eq_some_iff.mp z1).1
              rw [List.length_set] at z; exact z
            rw [get_set, if_pos rfl, if_pos hi] at z1
            have ec := hc _ _ (Option.some.inj z1)
            subst ec
            obtain ⟨a1, _, y1, y2, _, y4, _⟩ := e1
            have hi' : i < σ.length := by rw [R2.len]; exact hi
            rw [get_set, if_pos rfl, if_pos hi'] at z2
            have z3 : x = .ref a2 := by simpa using z2
            rw [y1] at z3
            cases z3
            rcases k6 with z | z
            · rw [y2] at z; cases z
            · exact y4 z.own
          · rw [get_set, if_neg ik] at z1 z2
            exact k4 ⟨k, bb, m, z1, z2⟩
      obtain ⟨s4, R4⟩ := put_ok s3 R3 e3 q2
      exact h2 S2 H2 _ s4 R4
end
section
variable {X : Cx} {xc : XC} {W : WX} {a b e : Expr} {es : List Expr} {p pos pos' apos : Pos} {ma mb mk : Rho → R EV} {x y : Str}
theorem r_app {i : Nat} (hN : X.N[i]? = some x) (hv : Vis X.env.scope x) (ha : ME X xc W e ma) (hd : (x == ("__debug__" : Str)) = false := by decide) (hcd : (x == ("__classdict__" : Str)) = false := by decide)
    (hbase : attributeBase (.Name x p) "append" X.env (eval (.Name x p) X.env) = eval (.Name x p) X.env := by rfl)
    (hfew : ((backTo pos (starEach [e] X.env)).all (fun x => !x.1) && (backToKw pos (keywordEach [] X.env)).all (fun x => x.1.isSome)
      && decide (([e] : List Expr).length + ([] : List Keyword).length + (if ([] : List Keyword).isEmpty then 0 else 1) < 30)) = true := by rfl)
    (hline : (apos.endLine == pos.line) = true := by rfl) (hs : starEach [e] X.env = (false, eval e X.env) :: starEach [] X.env := by rfl) :
    ME X xc W (.Call (.Attribute (.Name x p) "append" apos) [e] [] pos) (mApp i ma) :=
  mkE (pe_bm PySem.F.plainAttrs_list PySem.F.slot_list_append PySem.F.type_list_append mt_append (pe_var hN hv hd hcd) (pa_cons ha pa_nil hs) hbase hfew hline hs) (je_app je_cE)
theorem r_pop {i : Nat} (hN : X.N[i]? = some x) (hv : Vis X.env.scope x) (ha : ME X xc W e ma) (hd : (x == ("__debug__" : Str)) = false := by decide) (hcd : (x == ("__classdict__" : Str)) = false := by decide)
    (hbase : attributeBase (.Name x p) "pop" X.env (eval (.Name x p) X.env) = eval (.Name x p) X.env := by rfl)
    (hfew : ((backTo pos (starEach [e] X.env)).all (fun x => !x.1) && (backToKw pos (keywordEach [] X.env)).all (fun x => x.1.isSome)
      && decide (([e] : List Expr).length + ([] : List Keyword).length + (if ([] : List Keyword).isEmpty then 0 else 1) < 30)) = true := by rfl)
    (hline : (apos.endLine == pos.line) = true := by rfl) (hs : starEach [e] X.env = (false, eval e X.env) :: starEach [] X.env := by rfl) :
    ME X xc W (.Call (.Attribute (.Name x p) "pop" apos) [e] [] pos) (mPop i ma) :=
  mkE (pe_bm PySem.F.plainAttrs_list PySem.F.slot_list_pop PySem.F.type_list_pop mt_popAt (pe_var hN hv hd hcd) (pa_cons ha pa_nil hs) hbase hfew hline hs) (je_pop je_cE)
theorem s_store {i : Nat} (hN : X.N[i]? = some x) (hv : Vis X.env.scope x) (hk : ME X xc W b mk) (he : ME X xc W e ma) (hd : (x == ("__debug__" : Str)) = false := by decide) (hcd : (x == ("__classdict__" : Str)) = false := by decide)
    (hs : swapsWithSole [.Subscript (.Name x p) b apos] e pos.line X.env = pure false := by rfl) (hw : swappedStores [.Subscript (.Name x p) b apos] e X.env = pure none := by rfl)
    (hg : ∀ v, assign (.Subscript (.Name x p) b apos) X.env v = (do
      let ov ← holding [v] (eval (.Name x p) X.env)
      let iv ← holding [v, ov] (eval b X.env)
      standAt apos
      holding [v, ov, iv] (setItem ov iv v)
      release [v, ov, iv] []) := by intro _; rfl) :
    MS X xc W (.Assign [.Subscript (.Name x p) b apos] e pos) (mStore i mk ma) := mkS (ps_asg he (pg_sub (pe_var hN hv hd hcd) hk set_list hg) hs hw) (js_store je_cE je_cE)
theorem s_dput {i : Nat} (hu : X.A.units + 1 < cLine) (hN : X.N[i]? = some x) (hv : Vis X.env.scope x) (hk : ME X xc W b mk) (he : ME X xc W e ma) (hd : (x == ("__debug__" : Str)) = false := by decide) (hcd : (x == ("__classdict__" : Str)) = false := by decide)
    (hs : swapsWith e (some (.Subscript (.Name x p) b pos')) pos.line X.env = pure false := by rfl) :
    MS X xc W (.Assign [.Subscript (.Name x p) b pos'] e pos) (mDput i mk ma) := mkS (ps_dput hu (pe_var hN hv hd hcd) hk he hs) (js_dput je_cE je_cE)
theorem r_dnew : ME X xc W (.Dict [] [] pos) mDnew := mkE pe_dnewK je_dnew
theorem t_notin {i : Nat} (hu : X.A.units + 1 < cLine) (hN : X.N[i]? = some x) (hv : Vis X.env.scope x) (ha : ME X xc W a ma) (hd : (x == ("__debug__" : Str)) = false := by decide) (hcd : (x == ("__classdict__" : Str)) = false := by decide) :
    MT X xc W (.Compare a [.NotIn] [.Name x p] pos) (mTst (mIn true i ma)) := mkT (pt_cmp (pc_dnotin hu ha (pe_var hN hv hd hcd)) (by rfl)) (jt_test (je_notin je_cE))
theorem t_in {i : Nat} (hu : X.A.units + 1 < cLine) (hN : X.N[i]? = some x) (hv : Vis X.env.scope x) (ha : ME X xc W a ma) (hd : (x == ("__debug__" : Str)) = false := by decide) (hcd : (x == ("__classdict__" : Str)) = false := by decide) :
    MT X xc W (.Compare a [.In] [.Name x p] pos) (mTst (mIn false i ma)) := mkT (pt_cmp (pc_din hu ha (pe_var hN hv hd hcd)) (by rfl)) (jt_test (je_in je_cE))
theorem s_par {i j : Nat} {px py pt : Pos} {kt k2 pt2} (hc : X.calm = true) (hN : X.N.Nodup) (hi : X.N[i]? = some x) (hj : X.N[j]? = some y) (hij : i ≠ j)
    (hx : X.env.scope.names.lookup x = some .local) (hy : X.env.scope.names.lookup y = some .local) (ha : ME X xc W a ma) (hb : ME X xc W b mb)
    (hw : swappedStores [.Tuple [.Name x px, .Name y py] kt pt] (.Tuple [a, b] k2 pt2) X.env = pure (some [x, y]))
    (hs : swapsWithSole [.Tuple [.Name x px, .Name y py] kt pt] (.Tuple [a, b] k2 pt2) pos.line X.env = pure false := by rfl)
    (h1 : starEach [a, b] X.env = (false, eval a X.env) :: starEach [b] X.env := by rfl) (h2 : starEach [b] X.env = (false, eval b X.env) :: starEach [] X.env := by rfl) :
    MS X xc W (.Assign [.Tuple [.Name x px, .Name y py] kt pt] (.Tuple [a, b] k2 pt2) pos) (mPar i j ma mb) := mkS (ps_par hc hN hi hj hij hx hy (pa_cons ha (pa_cons hb pa_nil h2) h1) hw hs) (js_par je_cE je_cE)
end
end Mi

set_option Elab.async false
set_option linter.all false
set_option maxRecDepth 100000
set_option autoImplicit false
namespace Mi
open PySem L2
/-! ### what a loop walks -/
section
variable {X : Cx} {tg : Expr}
def iSq (K : PySem.W.Frag) (tl : TE) : TI := fun σ H Rq => tl σ H fun x H1 => ∃ a, x = .ref a ∧ (((∃ xs, SqL K H1 a xs) ∧ Rq (Itl K a) H1) ∨ ((∃ xs, SqT K H1 a xs) ∧ Rq (Itt K a) H1))
theorem pi_sq {l : Expr} {tl : TE} (hl : PE X l tl) : PI X tg l (iSq X.K tl) := by
  constructor
  intro pins s σ H Rq I h
  refine thn (hl.run pins s σ H _ I h) ?_
  rintro v s1 ⟨x, H1, I1, r1, a, rfl, q1⟩
  cases r1
  have fresh : ∀ b ∈ [s1.heap.objs.size], FpOk X pins H1 b := by
    intro b hb
    have e : b = s1.heap.objs.size := by simpa using hb
    rw [e]
    exact I1.fpOk (Nat.le_refl _) (I1.hok.fresh (Nat.le_refl _))
  rcases q1 with ⟨⟨xs, hq⟩, q⟩ | ⟨⟨xs, hq⟩, q⟩
  · obtain ⟨its, rv, pl, hz⟩ := I1.list hq
    refine wpAny_pyIter_list pl.isList ?_
    have I2 := I1.kept (t' := s1.toks) (h' := s1.heap.push { cls := .type "list_iterator", data := .fields #[.ref a, .int 0 0] }) fun b o e => Heap.get?_push_of_some _ e
    exact ⟨_, _, _, _, H1, rfl, I2, turn_list a _, ⟨_, Heap.get?_push_size _ rfl, rfl, rfl⟩, fresh, q⟩
  · obtain ⟨its, rv, pl, hz⟩ := I1.tuple hq
    refine wpAny_pyIter_tuple (show s1.heap.IsTuple a its.toArray from pl) ?_
    have I2 := I1.kept (t' := s1.toks) (h' := s1.heap.push { cls := .type "tuple_iterator", data := .fields #[.ref a, .int 0 0] }) fun b o e => Heap.get?_push_of_some _ e
    exact ⟨_, _, _, _, H1, rfl, I2, turn_tuple a _, ⟨_, Heap.get?_push_size _ rfl, rfl, rfl⟩, fresh, q⟩
end
section
variable {K : PySem.W.Frag} {xc : XC} {W : WX} {S S1 S' H H1 H' H0 : Hp} {σ σ1 σ2 σ' σ0 : Sg} {ρ ρ1 ρ2 ρ' ρ0 : Rho}
def mIt (m : Rho → R EV) (ρ : Rho) : R (List D) := (mFrz m ρ).bind fun ev ρ1 => match ev with
  | .d (.lst ds) => .ok ds ρ1
  | .d (.tup ds) => .ok ds ρ1
  | _ => .stuck
theorem it_lst {a : Addr} {vs : List V} {ds : List D} (t : SqL K S a vs) (l : DenL K S ds vs) : ItOk K S ds (Itl K a) := by
  intro S1 H1 h1 h2 i
  have t1 := sqL_same (h1.trans h2) t
  refine ⟨fun c => ?_, fun c => ⟨vs, t1, by rw [l.length]; exact c⟩⟩
  obtain ⟨v, e1, e2⟩ := l.get (List.getElem?_eq_getElem c)
  refine ⟨⟨vs, v, t1, e1⟩, fun x H2 ⟨hH, hx⟩ => ?_⟩
  subst hH
  have e3 := hx vs t1
  rw [e1] at e3
  cases e3
  exact ⟨S1, .refl h2, _, List.getElem?_eq_getElem c, e2.same h1⟩
theorem it_tup {a : Addr} {vs : List V} {ds : List D} (t : SqT K S a vs) (l : DenL K S ds vs) : ItOk K S ds (Itt K a) := by
  intro S1 H1 h1 h2 i
  have t1 := sqT_same (h1.trans h2) t
  refine ⟨fun c => ?_, fun c => ⟨vs, t1, by rw [l.length]; exact c⟩⟩
  obtain ⟨v, e1, e2⟩ := l.get (List.getElem?_eq_getElem c)
  refine ⟨⟨vs, v, t1, e1⟩, fun x H2 ⟨hH, hx⟩ => ?_⟩
  subst hH
  have e3 := hx vs t1
  rw [e1] at e3
  cases e3
  exact ⟨S1, .refl h2, _, List.getElem?_eq_getElem c, e2.same h1⟩
theorem ji_sq {t : TE} {m : Rho → R EV} (ha : JE K xc W t m) : JI K xc W (iSq K t) (mIt m) := by
  intro S H σ ρ Q R h
  refine je_frz ha S H σ ρ _ R (ROk.mono (ROk.bind h) (fun ev ρ1 h1 => ?_) fun _ _ z => z)
  intro S1 H1 x s1 R1 e1
  match ev, h1, e1 with
  | .d (.lst ds), h1, e1 =>
    obtain ⟨a, vs, rfl, t, l⟩ := den_lst (show Den K S1 (.lst ds) x from e1)
    exact ⟨a, rfl, .inl ⟨⟨vs, sqL_same R1.sub t⟩, h1 S1 H1 _ s1 R1 (it_lst t l)⟩⟩
  | .d (.tup ds), h1, e1 =>
    obtain ⟨a, vs, rfl, t, l⟩ := den_tup (show Den K S1 (.tup ds) x from e1)
    exact ⟨a, rfl, .inr ⟨⟨vs, sqT_same R1.sub t⟩, h1 S1 H1 _ s1 R1 (it_tup t l)⟩⟩
  | .d .non, h1, _ => exact h1.elim
  | .d (.bl _), h1, _ => exact h1.elim
  | .d (.int _), h1, _ => exact h1.elim
  | .d (.str _), h1, _ => exact h1.elim
  | .d (.ref _), h1, _ => exact h1.elim
  | .new _, h1, _ => exact h1.elim
  | .slot _, h1, _ => exact h1.elim
/-- lo, lo + 1, .. -/
def rngD (lo : Int) (n : Nat) : List D := (List.range n).map fun i : Nat => D.int (lo + i)
def rngOk (i : Int) : Bool := decide (-1000000 ≤ i) && decide (i ≤ 1000000)
theorem it_rng {lo : Int} {n : Nat} : ItOk K S (rngD lo n) (Itr lo n) := by
  intro S1 H1 h1 h2 i
  have hl : (rngD lo n).length = n := by unfold rngD; rw [List.length_map, List.length_range]
  rw [hl]
  refine ⟨fun c => ⟨c, fun x H2 ⟨hH, hx⟩ => ?_⟩, fun c => c⟩
  subst hH
  refine ⟨S1, .refl h2, .int (lo + i), ?_, by rw [hx]; exact of_int⟩
  unfold rngD
  rw [List.getElem?_map, List.getElem?_range c]
  rfl
def mRng1 (m : Rho → R EV) (ρ : Rho) : R (List D) := (m ρ).bind fun ev ρ1 => match ev with
  | .d (.int j) => if rngOk j then .ok (rngD 0 j.toNat) ρ1 else .stuck
  | _ => .stuck
theorem ji_rng1 {t : TE} {m : Rho → R EV} (ha : JE K xc W t m) : JI K xc W (iRng1 (tCons t tNil)) (mRng1 m) := by
  intro S H σ ρ Q R h
  refine ha S H σ ρ _ R (ROk.mono (ROk.bind h) (fun ev ρ1 h1 => ?_) fun _ _ z => z)
  intro S1 H1 x s1 R1 e1
  match ev, h1, e1 with
  | .d (.int j), h1, e1 =>
    have ex := den_int (show Den K S1 (.int j) x from e1)
    by_cases c : rngOk j = true
    · simp only [if_pos c] at h1
      simp only [rngOk, Bool.and_eq_true, decide_eq_true_eq] at c
      exact ⟨j, by rw [ex], by omega, by omega, h1 S1 H1 _ s1 R1 it_rng⟩
    · simp only [if_neg c] at h1; exact h1.elim
  | .d .non, h1, _ => exact h1.elim
  | .d (.bl _), h1, _ => exact h1.elim
  | .d (.str _), h1, _ => exact h1.elim
  | .d (.ref _), h1, _ => exact h1.elim
  | .d (.tup _), h1, _ => exact h1.elim
  | .d (.lst _), h1, _ => exact h1.elim
  | .new _, h1, _ => exact h1.elim
  | .slot _, h1, _ => exact h1.elim
def mRng2 (m n : Rho → R EV) (ρ : Rho) : R (List D) := (m ρ).bind fun ev ρ1 => (n ρ1).bind fun ew ρ2 => match ev, ew with
  | .d (.int i), .d (.int j) => if rngOk i && rngOk j then .ok (rngD i (j - i).toNat) ρ2 else .stuck
  | _, _ => .stuck
theorem ev_int {σ0 : Sg} {v : V} {ev : EV} (h : EvOk K σ0 ρ0 H0 S H σ ρ v ev) {i : Int} (e : ev = .d (.int i)) : v = .int i := by subst e; exact den_int (show Den K S (.int i) v from h)
theorem ji_rng2 {t u : TE} {m n : Rho → R EV} (ha : JE K xc W t m) (hb : JE K xc W u n) : JI K xc W (iRng2 (tCons t (tCons u tNil))) (mRng2 m n) := by
  intro S H σ ρ Q R h
  refine ha S H σ ρ _ R (ROk.mono (ROk.bind h) (fun ev ρ1 h1 => ?_) fun _ _ z => z)
  intro S1 H1 x s1 R1 e1
  refine hb S1 H1 σ ρ1 _ R1 (ROk.mono (ROk.bind h1) (fun ew ρ2 h2 => ?_) fun _ _ z => z.step s1)
  intro S2 H2 y s2 R2 e2
  split at h2
  · rename_i i j
    by_cases c : (rngOk i && rngOk j) = true
    · simp only [if_pos c] at h2
      simp only [rngOk, Bool.and_eq_true, decide_eq_true_eq] at c
      exact ⟨i, j, by rw [ev_int e1 rfl, ev_int e2 rfl], ⟨by omega, by omega, by omega, by omega⟩, h2 S2 H2 _ (s1.trans s2) R2 it_rng⟩
    · simp only [if_neg c] at h2; exact h2.elim
  · exact h2.elim
/-! list(range(..)), tuple(range(..)) -/
theorem den_rng {lo hi : Int} : DenL K S (rngD lo (hi - lo).toNat) (rgV lo hi) := by
  unfold rngD rgV
  generalize (hi - lo).toNat = n
  induction n with
  | zero => exact DenL.nil
  | succ n ih =>
    rw [List.range_succ, List.map_append, List.map_append]
    exact ih.append (DenL.cons of_int DenL.nil)
def mLstRg1 (m : Rho → R EV) (ρ : Rho) : R EV := (mRng1 m ρ).bind fun ds ρ1 => .ok (.new (.lst ds)) ρ1
def mTupRg1 (m : Rho → R EV) (ρ : Rho) : R EV := (mRng1 m ρ).bind fun ds ρ1 => .ok (.d (.tup ds)) ρ1
theorem je_lstRg1 {t : TE} {m : Rho → R EV} (ha : JE K xc W t m) : JE K xc W (tLstRg (tRg1 t)) (mLstRg1 m) := by
  intro S H σ ρ Q R h
  refine ha S H σ ρ _ R (ROk.mono (ROk.bind (ROk.bind h)) (fun ev ρ1 h1 => ?_) fun _ _ z => z)
  intro S1 H1 x s1 R1 e1
  split at h1
  · rename_i j
    by_cases c : rngOk j = true
    · simp only [if_pos c, ROk] at h1
      simp only [rngOk, Bool.and_eq_true, decide_eq_true_eq] at c
      refine ⟨j, ev_int e1 rfl, ⟨by omega, by omega, by omega, by omega, by omega⟩, fun p hp => ?_⟩
      have g : Grow S1 H1 S1 (upd H1 p (.lst (rgV 0 j))) := Grow.loose R1.sub hp
      have l : DenL K S1 (rngD 0 j.toNat) (rgV 0 j) := by
        have z := den_rng (K := K) (S := S1) (lo := 0) (hi := j)
        rw [Int.sub_zero] at z; exact z
      exact h1 _ _ _ (s1.trans (.laid g)) (R1.laid g) (EvOk.back s1 ((evg_lst R1.sub hp l).ok R1))
    · simp only [if_neg c] at h1; exact h1.elim
  · exact h1.elim
theorem je_tupRg1 {t : TE} {m : Rho → R EV} (ha : JE K xc W t m) : JE K xc W (tTupRg (tRg1 t)) (mTupRg1 m) := by
  intro S H σ ρ Q R h
  refine ha S H σ ρ _ R (ROk.mono (ROk.bind (ROk.bind h)) (fun ev ρ1 h1 => ?_) fun _ _ z => z)
  intro S1 H1 x s1 R1 e1
  split at h1
  · rename_i j
    by_cases c : rngOk j = true
    · simp only [if_pos c, ROk] at h1
      simp only [rngOk, Bool.and_eq_true, decide_eq_true_eq] at c
      refine ⟨j, ev_int e1 rfl, ⟨by omega, by omega, by omega, by omega, by omega⟩, fun p hp => ?_⟩
      have g : Grow S1 H1 (upd S1 p (.tup (rgV 0 j))) (upd H1 p (.tup (rgV 0 j))) := Grow.stable R1.sub hp
      have l : DenL K S1 (rngD 0 j.toNat) (rgV 0 j) := by
        have z := den_rng (K := K) (S := S1) (lo := 0) (hi := j)
        rw [Int.sub_zero] at z; exact z
      exact h1 _ _ _ (s1.trans (.laid g)) (R1.laid g) (show Den K _ (.tup _) _ from of_tup (SqT.of upd_same) (l.same g.s))
    · simp only [if_neg c] at h1; exact h1.elim
  · exact h1.elim
/-! [c] * n -/
def mRep (ma mb : Rho → R EV) (ρ : Rho) : R EV := (ma ρ).bind fun ea ρ1 => (mb ρ1).bind fun eb ρ2 => match ea, eb with
  | .new (.lst xs), .d (.int k) => if decide (-1000000 ≤ k) && decide (k ≤ 1000000) && decide (xs.length * k.toNat ≤ 1000000) then .ok (.new (.lst (List.replicate k.toNat xs).flatten)) ρ2 else .stuck
  | _, _ => .stuck
theorem den_rep {ds : List D} {vs : List V} (l : DenL K S ds vs) : ∀ n : Nat, DenL K S (List.replicate n ds).flatten (List.replicate n vs).flatten
  | 0 => DenL.nil
  | n + 1 => by
    rw [List.replicate_succ, List.replicate_succ, List.flatten_cons, List.flatten_cons]
    exact l.append (den_rep l n)
theorem je_rep {ta tb : TE} {ma mb : Rho → R EV} (ha : JE K xc W ta ma) (hb : JE K xc W tb mb) : JE K xc W (tOp rRep ta tb) (mRep ma mb) := by
  intro S H σ ρ Q R h
  refine ha S H σ ρ _ R (ROk.mono (ROk.bind h) (fun ev ρ1 h1 => ?_) fun _ _ z => z)
  intro S1 H1 x s1 R1 e1
  refine hb S1 H1 σ ρ1 _ R1 (ROk.mono (ROk.bind h1) (fun ew ρ2 h2 => ?_) fun _ _ z => z.step s1)
  intro S2 H2 y s2 R2 e2
  split at h2
  · rename_i xs k
    by_cases c : (decide (-1000000 ≤ k) && decide (k ≤ 1000000) && decide (xs.length * k.toNat ≤ 1000000)) = true
    · simp only [if_pos c] at h2
      simp only [Bool.and_eq_true, decide_eq_true_eq] at c
      obtain ⟨a, ho, k1, k2, k3, k4, ⟨vs, rfl, l⟩, k6⟩ := e1.step s2
      have hz : vs.length * k.toNat ≤ sizeLine := by rw [l.length, sizeLine_eq]; omega
      refine ⟨a, k, vs, k1, ev_int e2 rfl, k2, by omega, by omega, hz, fun p hp => ?_⟩
      have g : Grow S2 H2 S2 (upd H2 p (.lst (List.replicate k.toNat vs).flatten)) := Grow.loose R2.sub hp
      exact h2 _ _ _ ((s1.trans s2).trans (.laid g)) (R2.laid g) (EvOk.back (s1.trans s2) ((evg_lst R2.sub hp (den_rep l _)).ok R2))
    · simp only [if_neg c] at h2; exact h2.elim
  · exact h2.elim
/-! xs[::-1], xs[lo:hi] -/
def mRev (m : Rho → R EV) (ρ : Rho) : R EV := (m ρ).bind fun ev ρ1 => match rd ρ1 ev with
  | some (.lst ds) => .ok (.new (.lst ds.reverse)) ρ1
  | _ => .stuck
theorem je_rev {t : TE} {m : Rho → R EV} (ha : JE K xc W t m) : JE K xc W (tRevL K t) (mRev m) := by
  intro S H σ ρ Q R h
  refine ha S H σ ρ _ R (ROk.mono (ROk.bind h) (fun ev ρ1 h1 => ?_) fun _ _ z => z)
  intro S1 H1 x s1 R1 e1
  split at h1
  · rename_i ds q
    obtain ⟨a, vs, rfl, t, l⟩ := seen_lst (rd_seen R1 e1 q)
    refine ⟨a, vs, rfl, t, fun p hp => ?_⟩
    have g : Grow S1 H1 S1 (upd H1 p (.lst vs.reverse)) := Grow.loose R1.sub hp
    exact h1 _ _ _ (s1.trans (.laid g)) (R1.laid g) (EvOk.back s1 ((evg_lst R1.sub hp l.reverse).ok R1))
  · exact h1.elim
def cutD (xs : List D) (lo hi : Option Int) : List D := (xs.drop (HT.sIx xs.length 0 lo)).take (HT.sIx xs.length xs.length hi - HT.sIx xs.length 0 lo)
theorem den_cut {ds : List D} {vs : List V} (l : DenL K S ds vs) (lo hi : Option Int) : DenL K S (cutD ds lo hi) (cutV vs lo hi) := by
  unfold cutD cutV
  rw [l.length]
  exact (l.drop _).take _
/-- a bound that is written -/
inductive JO (K : PySem.W.Frag) : TO → Option Int → Prop where
  | no : JO K tNoPart none
  | int (i : Int) : JO K (tPart (tC (.int i))) (some i)
theorem jo_run {to : TO} {o : Option Int} (h : JO K to o) {Q : Option Int → Hp → Prop} (q : Q o H) : to σ H Q := by
  cases h with
  | no => exact q
  | int i => exact ⟨i, rfl, q⟩
def mCut (lo hi : Option Int) (m : Rho → R EV) (ρ : Rho) : R EV := (m ρ).bind fun ev ρ1 => match rd ρ1 ev with
  | some (.lst ds) => .ok (.new (.lst (cutD ds lo hi))) ρ1
  | _ => .stuck
theorem je_cut {t : TE} {tl th : TO} {lo hi : Option Int} {m : Rho → R EV} (ha : JE K xc W t m) (hl : JO K tl lo) (hh : JO K th hi) : JE K xc W (tSl (rSlL K) t tl th) (mCut lo hi m) := by
  intro S H σ ρ Q R h
  refine ha S H σ ρ _ R (ROk.mono (ROk.bind h) (fun ev ρ1 h1 => ?_) fun _ _ z => z)
  intro S1 H1 x s1 R1 e1
  refine jo_run hl (jo_run hh ?_)
  split at h1
  · rename_i ds q
    obtain ⟨a, vs, rfl, t, l⟩ := seen_lst (rd_seen R1 e1 q)
    refine ⟨a, vs, rfl, t, fun p hp => ?_⟩
    have g : Grow S1 H1 S1 (upd H1 p (.lst (cutV vs lo hi))) := Grow.loose R1.sub hp
    exact h1 _ _ _ (s1.trans (.laid g)) (R1.laid g) (EvOk.back s1 ((evg_lst R1.sub hp (den_cut l lo hi)).ok R1))
  · exact h1.elim
/-! sorted(xs, reverse=True) -/
def mSortR (m : Rho → R EV) (ρ : Rho) : R EV := (m ρ).bind fun ev ρ1 => match rd ρ1 ev with
  | some (.lst ds) => R.of ((intsOf ds).map fun ns => .new (.lst ((ns.mergeSort geI).map D.int))) ρ1
  | _ => .stuck
theorem je_sortR {t : TE} {m : Rho → R EV} (ha : JE K xc W t m) : JE K xc W (tCKw (rSortedKw K true [.bl true]) (tCons t tNil) (tCons (tC (.bl true)) tNil)) (mSortR m) := by
  intro S H σ ρ Q R h
  refine ha S H σ ρ _ R (ROk.mono (ROk.bind h) (fun ev ρ1 h1 => ?_) fun _ _ z => z)
  intro S1 H1 x s1 R1 e1
  split at h1
  · rename_i ds q
    obtain ⟨a, vs, rfl, t, l⟩ := seen_lst (rd_seen R1 e1 q)
    obtain ⟨ev2, w1, w2⟩ := ROk.of h1
    simp only [Option.map_eq_some_iff] at w1
    obtain ⟨ns, w3, rfl⟩ := w1
    rw [intsOf_eq w3] at l
    rw [l.ints] at t
    refine ⟨a, ns, rfl, rfl, t, fun ns' p h1 h2 hp => ?_⟩
    have e3 : ns' = ns.mergeSort geI := perm_ge (h1.trans (List.mergeSort_perm _ _).symm) h2 (ms_ge ns)
    subst e3
    have g : Grow S1 H1 S1 (upd H1 p (.lst ((ns.mergeSort geI).map V.int))) := Grow.loose R1.sub hp
    exact w2 _ _ _ (s1.trans (.laid g)) (R1.laid g) (EvOk.back s1 ((evg_lst R1.sub hp DenL.of_ints).ok R1))
  · exact h1.elim
end
section
variable {X : Cx} {xc : XC} {W : WX} {a b e tg : Expr} {es : List Expr} {p p2 p3 pos pos' apos : Pos} {ma mb mk : Rho → R EV} {x y : Str} {sl : List Nat} {mt : D → Rho → Option Rho} {mi : Rho → R (List D)} {m : Rho → Out} {sts : List Stmt}
theorem i_sq (ha : ME X xc W e ma) : MI X xc W tg e (mIt ma) := mkI (pi_sq ha) (ji_sq je_cE)
theorem i_rng1 (hg : Gl X "range") (hm : X.mg "range" = none) (ha : ME X xc W a ma) (hs : starEach [a] X.env = [(false, eval a X.env)] := by rfl) (hs' : starEach [a] X.env = (false, eval a X.env) :: starEach [] X.env := by rfl) :
    MI X xc W tg (.Call (.Name "range" p) [a] [] pos) (mRng1 ma) := mkI (pi_range1 hg hm (pa_cons ha pa_nil hs') hs) (ji_rng1 je_cE)
theorem i_rng2 (hg : Gl X "range") (hm : X.mg "range" = none) (ha : ME X xc W a ma) (hb : ME X xc W b mb) (hs : starEach [a, b] X.env = [(false, eval a X.env), (false, eval b X.env)] := by rfl) (hs2 : starEach [b] X.env = [(false, eval b X.env)] := by rfl) :
    MI X xc W tg (.Call (.Name "range" p) [a, b] [] pos) (mRng2 ma mb) := mkI (pi_range2 hg hm (pa_cons ha (pa_cons hb pa_nil (by rw [hs2]; rfl)) (by rw [hs, hs2])) hs hs2) (ji_rng2 je_cE je_cE)
theorem r_lstRg1 (hc : X.calm = true) (hg : Gl X "list") (hm : X.mg "list" = none) (hg2 : Gl X "range") (hm2 : X.mg "range" = none) (ha : ME X xc W a ma) (na : starEach [a] X.env = (false, eval a X.env) :: starEach [] X.env := by rfl)
    (na2 : starEach [.Call (.Name "range" p2) [a] [] p3] X.env = (false, eval (.Call (.Name "range" p2) [a] [] p3) X.env) :: starEach [] X.env := by rfl) : ME X xc W (.Call (.Name "list" p) [.Call (.Name "range" p2) [a] [] p3] [] pos) (mLstRg1 ma) :=
  mkE (pe_listRg hc hg hm (prg_1 hg2 hm2 ha na) na2) (je_lstRg1 je_cE)
theorem r_tupRg1 (hc : X.calm = true) (hg : Gl X "tuple") (hm : X.mg "tuple" = none) (hg2 : Gl X "range") (hm2 : X.mg "range" = none) (ha : ME X xc W a ma) (na : starEach [a] X.env = (false, eval a X.env) :: starEach [] X.env := by rfl)
    (na2 : starEach [.Call (.Name "range" p2) [a] [] p3] X.env = (false, eval (.Call (.Name "range" p2) [a] [] p3) X.env) :: starEach [] X.env := by rfl) : ME X xc W (.Call (.Name "tuple" p) [.Call (.Name "range" p2) [a] [] p3] [] pos) (mTupRg1 ma) :=
  mkE (pe_tupRg hc hg hm (prg_1 hg2 hm2 ha na) na2) (je_tupRg1 je_cE)
theorem r_rep (ha : ME X xc W a ma) (hb : ME X xc W b mb) : ME X xc W (.BinOp a .Mult b pos) (mRep ma mb) := mkE (pe_op op_rep ha hb) (je_rep je_cE je_cE)
theorem r_rev {k : Nat} {p1 p2 p3 : Pos} (ha : ME X xc W e ma) : ME X xc W (.Subscript e (.Slice none none (some (.UnaryOp .USub (.Constant (.int 1) k p1) p2)) p3) pos) (mRev ma) := mkE (pe_revL ha) (je_rev je_cE)
theorem r_cutTo {k : Nat} {i : Int} (ha : ME X xc W e ma) : ME X xc W (.Subscript e (.Slice none (some (.Constant (.int i) k p2)) none p3) pos) (mCut none (some i) ma) := mkE (pe_slice sl_list ha po_none (po_some pe_int)) (je_cut je_cE .no (.int i))
theorem r_sortR {k : Nat} {kp cp : Pos} (hg : Gl X "sorted") (hmg : X.mg "sorted" = none) (ha : ME X xc W e ma)
    (hs : starEach [e] X.env = (false, eval e X.env) :: starEach [] X.env := by rfl)
    (he : backTo pos (starEach [e] X.env) = (false, eval e X.env) :: backTo pos (starEach [] X.env) := by rfl) (hpl : (backTo pos (starEach [e] X.env)).any (·.1) = false := by rfl) :
    ME X xc W (.Call (.Name "sorted" p) [e] [⟨some "reverse", .Constant (.bool true) k cp, kp⟩] pos) (mSortR ma) :=
  mkE (pe_callBK cr_sortedRev hg hmg (by decide +kernel) (pa_cons ha pa_nil hs) (pk_cons pe_bl pk_nil) (by decide) (by decide) he hpl (by rfl) (by rfl) (by rfl)) (je_sortR je_cE)
theorem g_name {i : Nat} (hN : X.N.Nodup) (hi : X.N[i]? = some x) (hx : Loc X.env.scope x) (hf : X.fn x = true ∨ X.env.scope.names.lookup x = some .local := by first | exact .inl rfl | exact .inr rfl | assumption) : MG X (.Name x pos) [i] (gtN i) := mkG (pg_name hN hi hx hf) (jg_name i)
theorem s_for (hp : PassesOwn (model X.prog X.w) X.A X.env X.xe) (hc : X.calm = true) (hi : MI X xc W tg e mi) (hg : MG X tg sl mt) (hb : MSs X xc W sts m) (hs : ∀ x, foldedSetIterable e X.env x = pure x := by intro _; rfl) : MS X xc W (.For tg e sts [] pos) (mFor mi mt m) := mkS (ps_for hp hc hi hg hb hs) (js_for ji_cI jg_cG js_cS)
end
end Mi

set_option Elab.async false
set_option linter.all false
set_option maxRecDepth 100000
set_option autoImplicit false
namespace Mi
open PySem L2
section
variable {K : PySem.W.Frag} {xc : XC} {W : WX} {S S1 S' H H1 H' H0 S0 : Hp} {σ σ1 σ2 σ' σ0 : Sg} {ρ ρ1 ρ2 ρ' ρ0 : Rho}
/-! ### slots forgotten -/
def Sub (σ1 : Sg) (ρ1 : Rho) (σ2 : Sg) (ρ2 : Rho) : Prop := σ2.length = σ1.length ∧ ρ2.length = ρ1.length ∧ ∀ (i : Nat) (c : Cell), ρ2[i]? = some c → c = .no ∨ (ρ1[i]? = some c ∧ σ2[i]? = σ1[i]?)
theorem Sub.own (h : Sub σ1 ρ1 σ2 ρ2) {a : Addr} (o : Own σ2 ρ2 a) : Own σ1 ρ1 a := by
  obtain ⟨i, b, m, e, f⟩ := o
  rcases h.2.2 i _ e with z | ⟨z1, z2⟩
  · cases z
  · exact ⟨i, b, m, z1, by rw [← z2]; exact f⟩
theorem Sub.ownF (h : Sub σ1 ρ1 σ2 ρ2) {a : Addr} (o : OwnF σ2 ρ2 a) : OwnF σ1 ρ1 a := by
  obtain ⟨i, m, e, f⟩ := o
  rcases h.2.2 i _ e with z | ⟨z1, z2⟩
  · cases z
  · exact ⟨i, m, z1, by rw [← z2]; exact f⟩
theorem Sub.rel (h : Sub σ1 ρ1 σ2 ρ2) (R : Rel K S H σ1 ρ1) : Rel K S H σ2 ρ2 where
  sub := R.sub
  tab := R.tab
  len := by rw [h.1, h.2.1]; exact R.len
  cell := fun i c e => by
    rcases h.2.2 i c e with z | ⟨z1, z2⟩
    · subst z; trivial
    · rw [z2]; exact R.cell i c z1
  dist := fun i j b b' o o' e1 e2 e3 => by
    rcases h.2.2 i _ e1 with z | ⟨z1, z2⟩
    · cases z
    · rcases h.2.2 j _ e2 with y | ⟨y1, y2⟩
      · cases y
      · exact R.dist i j _ _ _ _ z1 y1 (by rw [← z2, ← y2]; exact e3)
theorem Sub.stp (h : Sub σ1 ρ1 σ2 ρ2) (s : Stp S0 H0 σ0 ρ0 S H σ1 ρ1) (hb : ∀ (i : Nat) o, ρ0[i]? = some (.own true o) → σ2[i]? = σ1[i]? ∧ ρ2[i]? = ρ1[i]?) : Stp S0 H0 σ0 ρ0 S H σ2 ρ2 where
  ex := s.ex
  fr := s.fr
  th := s.th
  nw := s.nw
  ow := fun b o => s.ow b (h.own o)
  owf := fun b o => s.owf b (h.ownF o)
  bo := fun i o e => by
    obtain ⟨e1, o1, e2⟩ := s.bo i o e
    obtain ⟨f1, f2⟩ := hb i o e
    exact ⟨f1.trans e1, o1, f2.trans e2⟩
  ln := h.2.1.trans s.ln
def wipeR (ρ : Rho) : List Nat → Rho
  | [] => ρ
  | v :: vs => (wipeR ρ vs).set v .no
theorem wipeR_length (ρ : Rho) : ∀ vs : List Nat, (wipeR ρ vs).length = ρ.length
  | [] => rfl
  | v :: vs => by unfold wipeR; rw [List.length_set, wipeR_length ρ vs]
theorem wipeR_out {i : Nat} : ∀ {vs : List Nat}, i ∉ vs → (wipeR ρ vs)[i]? = ρ[i]?
  | [], _ => rfl
  | v :: vs, h => by
    unfold wipeR
    rw [List.getElem?_set_ne fun e => h (by rw [e]; exact List.mem_cons_self)]
    exact wipeR_out fun m => h (List.mem_cons_of_mem _ m)
theorem wipeR_in {i : Nat} : ∀ {vs : List Nat} {c : Cell}, i ∈ vs → (wipeR ρ vs)[i]? = some c → c = .no
  | v :: vs, c, h, e => by
    unfold wipeR at e
    rw [get_set] at e
    split at e
    · split at e
      · cases e; rfl
      · cases e
    · rename_i ne
      rcases List.mem_cons.mp h with z | z
      · exact (ne z.symm).elim
      · exact wipeR_in z e
theorem wipe_in {i : Nat} : ∀ {vs : List Nat}, i ∈ vs → (wipe σ vs)[i]? = if i < σ.length then some none else none
  | v :: vs, h => by
    unfold wipe
    rw [get_set, wipe_length]
    split
    · rfl
    · rename_i ne
      rcases List.mem_cons.mp h with z | z
      · exact (ne z.symm).elim
      · exact wipe_in z
theorem wipe_eq {vs : List Nat} (hl : σ'.length = σ.length) (h : ∀ j : Nat, j ∉ vs → σ'[j]? = σ[j]?) : wipe σ' vs = wipe σ vs := by
  apply List.ext_getElem?
  intro i
  by_cases c : i ∈ vs
  · rw [wipe_in c, wipe_in c, hl]
  · rw [wipe_out c, wipe_out c]; exact h i c
def wipeOk (ρ : Rho) (vs : List Nat) : Bool := vs.all fun v => match ρ[v]? with | some (.own true _) => false | _ => true
theorem wipeOk_no {vs : List Nat} (h : wipeOk ρ vs = true) {i : Nat} {o : Mo} (e : ρ[i]? = some (.own true o)) : i ∉ vs := fun m => by
  have z := List.all_eq_true.mp h i m
  rw [e] at z
  cases z
/-! ### list comprehensions -/
def lcL (vs : List Nat) (mt : D → Rho → Option Rho) (tst : Rho → R Bool) (el : Rho → R EV) : List D → List D → Rho → R (List D)
  | [], acc, ρ => .ok acc ρ
  | d :: ds, acc, ρ => match mt d ρ with
    | none => .stuck
    | some ρ1 => match tst ρ1 with
      | .ok false ρ2 => lcL vs mt tst el ds acc (wipeR ρ2 vs)
      | .ok true ρ2 => match mFrz el ρ2 with
        | .ok (.d y) ρ3 => if szOk acc.length then lcL vs mt tst el ds (acc ++ [y]) (wipeR ρ3 vs) else .stuck
        | _ => .stuck
      | _ => .stuck
def mLc (mi : Rho → R (List D)) (vs : List Nat) (mt : D → Rho → Option Rho) (tst : Rho → R Bool) (el : Rho → R EV) (ρ : Rho) : R EV :=
  (mi ρ).bind fun ds ρ1 => if wipeOk ρ1 vs then (lcL vs mt tst el ds [] (wipeR ρ1 vs)).bind fun acc ρ2 => .ok (.new (.lst acc)) ρ2 else .stuck
def WF : WX := fun _ _ _ _ => False
theorem rel_upd (R : Rel K S H σ ρ) {a : Addr} {o : HO} (h1 : S a = none) (h2 : ¬ Own σ ρ a) : Rel K S (upd H a o) σ ρ where
  sub := fun b u e => by
    have ne : b ≠ a := fun z => by subst z; rw [h1] at e; cases e
    rw [upd_ne ne]; exact R.sub b u e
  tab := R.tab
  len := R.len
  cell := fun i c e => by
    have k := R.cell i c e
    cases c with
    | no => trivial
    | val d => exact k
    | own b m =>
      obtain ⟨a2, ho, k1, k2, k3, k4⟩ := k
      have ne : a2 ≠ a := fun z => h2 ⟨i, b, m, e, by rw [← z]; exact k1⟩
      exact ⟨a2, ho, k1, by rw [upd_ne ne]; exact k2, k3, k4⟩
  dist := R.dist
theorem stp_upd (s : Stp S0 H0 σ0 ρ0 S H σ ρ) {a : Addr} {o : HO} (h : H0 a = none) : Stp S0 H0 σ0 ρ0 S (upd H a o) σ ρ where
  ex := s.ex
  fr := fun b u e n => by rw [upd_ne (ne_of_none e h)]; exact s.fr b u e n
  th := fun b e => by
    by_cases z : b = a
    · subst z; exact h
    · rw [upd_ne z] at e; exact s.th b e
  nw := s.nw
  ow := s.ow
  owf := s.owf
  bo := s.bo
  ln := s.ln
theorem je_lc {wi : TI} {g : TG} {tt : TT} {te : TE} {vs sl : List Nat} {mi : Rho → R (List D)} {mt : D → Rho → Option Rho} {tst : Rho → R Bool} {el : Rho → R EV} (hi : JI K xc W wi mi) (hg : JG K g sl mt) (ht : JT K xc WF tt tst) (he : JE K xc WF te el) (hsl : ∀ j ∈ sl, j ∈ vs) :
    JE K xc W (tLc wi g tt te vs) (mLc mi vs mt tst el) := by
  intro S H σ ρ Q R h
  refine hi S H σ ρ _ R (ROk.mono (ROk.bind h) (fun ds ρ1 h1 => ?_) fun _ _ z => z)
  intro S1 H1 J s1 R1 ok
  by_cases cw : wipeOk ρ1 vs = true
  · rw [if_pos cw] at h1
    replace h1 := ROk.bind h1
    intro Da hD
    -- behind the wiping
    have subW : ∀ {σa : Sg} {ρa : Rho}, Sub σa ρa σa (wipeR ρa vs) := fun {σa ρa} => ⟨rfl, wipeR_length _ _, fun i c e => by
      by_cases ci : i ∈ vs
      · exact .inl (wipeR_in ci e)
      · rw [wipeR_out ci] at e; exact .inr ⟨e, rfl⟩⟩
    have bo1 : ∀ (i : Nat) o, ρ1[i]? = some (.own true o) → i ∉ vs := fun i o e => wipeOk_no cw e
    have sD : S1 Da = none := L2.Same.free R1.sub hD
    refine ⟨fun i m H' => ∃ S' ρ' acc va, Stp S1 H1 σ ρ1 S' H' σ ρ' ∧ Rel K S' H' σ ρ' ∧ (∀ v ∈ vs, ∀ c, ρ'[v]? = some c → c = .no) ∧ H' Da = some (.lst va) ∧ DenL K S' acc va ∧ S' Da = none ∧ ¬ Own σ ρ' Da ∧ m = ds.length - i ∧ i ≤ ds.length ∧
        ROk (fun acc ρ2 => EPost K S H σ ρ Q (.new (.lst acc)) ρ2) (XPost K xc W S H σ ρ) (lcL vs mt tst el (ds.drop i) acc ρ'), ?_, ?_⟩
    · have g0 : Grow S1 H1 S1 (upd H1 Da (.lst [])) := Grow.loose R1.sub hD
      have st0 : Stp S1 H1 σ ρ1 S1 (upd H1 Da (.lst [])) σ (wipeR ρ1 vs) := subW.stp (.laid g0) fun i o e => ⟨rfl, wipeR_out (bo1 i o e)⟩
      have nOwn : ¬ Own σ (wipeR ρ1 vs) Da := fun z => by
        obtain ⟨o, e, _⟩ := R1.own_some (subW.own z)
        rw [hD] at e; cases e
      exact ⟨_, S1, wipeR ρ1 vs, [], [], st0, subW.rel (R1.laid g0), fun v hv c e => wipeR_in hv e, upd_same, DenL.nil, sD, nOwn, rfl, Nat.zero_le _, h1⟩
    · rintro i m H' ⟨S', ρ', acc, va, st, R', hno, hDa, la, sDa, nDa, rfl, hi2, h2⟩
      obtain ⟨go, stop⟩ := ok S' H' st.ex R'.sub i
      by_cases c : i < ds.length
      · obtain ⟨g1, yl⟩ := go c
        refine .inr ⟨g1, fun H3 => ∃ S3 ρ3 acc3 va3, Stp S1 H1 σ ρ1 S3 H3 σ ρ3 ∧ Rel K S3 H3 σ ρ3 ∧ (∀ v ∈ vs, ∀ c, ρ3[v]? = some c → c = .no) ∧ H3 Da = some (.lst va3) ∧ DenL K S3 acc3 va3 ∧ S3 Da = none ∧ ¬ Own σ ρ3 Da ∧
          ROk (fun acc ρ2 => EPost K S H σ ρ Q (.new (.lst acc)) ρ2) (XPost K xc W S H σ ρ) (lcL vs mt tst el (ds.drop (i + 1)) acc3 ρ3), ?_, ?_⟩
        · rintro H3 ⟨S3, ρ3, acc3, va3, a1, a2, a3, a4, a5, a6, a7, a8⟩
          exact ⟨ds.length - (i + 1), by omega, S3, ρ3, acc3, va3, a1, a2, a3, a4, a5, a6, a7, rfl, c, a8⟩
        · intro x H3 yx
          obtain ⟨S3, gr, d, ed, hd⟩ := yl x H3 yx
          have dr : ds.drop i = d :: ds.drop (i + 1) := by
            rw [List.drop_eq_getElem_cons c]
            congr 1
            rw [List.getElem?_eq_getElem c] at ed
            exact Option.some.inj ed
          rw [dr] at h2
          simp only [lcL] at h2
          -- into the block's slots
          have subIn : Sub σ ρ' (wipe σ vs) ρ' := ⟨wipe_length _ _, rfl, fun j cc e => by
            by_cases cj : j ∈ vs
            · exact .inl (hno j cj cc e)
            · exact .inr ⟨e, wipe_out cj⟩⟩
          have R3 := subIn.rel (R'.laid gr)
          have st3 : Stp S1 H1 σ ρ1 S3 H3 (wipe σ vs) ρ' := subIn.stp (st.trans (.laid gr)) fun j o e => ⟨wipe_out (bo1 j o e), rfl⟩
          cases qt : mt d ρ' with
          | none => simp only [qt] at h2; exact h2.elim
          | some ρ4 =>
            simp only [qt] at h2
            refine hg S3 H3 (wipe σ vs) ρ' x d ρ4 _ R3 hd qt fun σ4 s4 R4 hk => ?_
            have hl4 : σ4.length = σ.length := by rw [hk.1, wipe_length]
            have keep4 : ∀ j : Nat, j ∉ vs → σ4[j]? = σ[j]? := fun j hj => by rw [hk.2 j fun z => hj (hsl j z)]; exact wipe_out hj
            refine ⟨wipe_eq hl4 keep4, ?_⟩
            -- back out of the block's slots
            have subOut : ∀ {ρx : Rho}, ρx.length = ρ4.length → Sub σ4 ρx σ (wipeR ρx vs) := fun {ρx} _ => ⟨hl4.symm, wipeR_length _ _, fun j cc e => by
              by_cases cj : j ∈ vs
              · exact .inl (wipeR_in cj e)
              · rw [wipeR_out cj] at e; exact .inr ⟨e, (keep4 j cj).symm⟩⟩
            have nD4 : ¬ Own σ4 ρ4 Da := fun z => by
              rcases s4.ow _ z with y | y
              · exact nDa (subIn.own y)
              · rw [gr.h _ _ hDa] at y; cases y
            have st4 := st3.trans s4
            cases qs : tst ρ4 with
            | stuck => simp only [qs] at h2; exact h2.elim
            | exn e ρ5 => simp only [qs] at h2; exact h2.elim
            | ok b ρ5 =>
              refine ht S3 H3 σ4 ρ4 _ R4 ?_
              rw [qs]
              intro S5 H5 s5 R5
              have d5 : H5 Da = some (.lst va) := s5.fr _ _ (gr.h _ _ hDa) nD4
              have st5 := st4.trans s5
              have nD5 : ¬ Own σ4 ρ5 Da := fun z => by
                rcases s5.ow _ z with y | y
                · exact nD4 y
                · rw [gr.h _ _ hDa] at y; cases y
              have sD5 : S5 Da = none := by
                cases z : S5 Da with
                | none => rfl
                | some u =>
                  rcases s5.nw _ _ z with y | y | y
                  · rcases gr.nw _ _ y with w | w
                    · rw [sDa] at w; cases w
                    · rw [hDa] at w; cases w
                  · rw [gr.h _ _ hDa] at y; cases y
                  · exact (nD4 y).elim
              have la5 : DenL K S5 acc va := (la.same gr.s).same s5.ex
              have len5 : ρ5.length = ρ4.length := by rw [← R5.len, ← R4.len]
              cases b with
              | false =>
                rw [if_neg Bool.false_ne_true]
                simp only [qs] at h2
                have sb := subOut len5
                exact ⟨S5, wipeR ρ5 vs, acc, va, sb.stp st5 fun j o e => ⟨(keep4 j (bo1 j o e)).symm, wipeR_out (bo1 j o e)⟩, sb.rel R5, fun v hv c e => wipeR_in hv e, d5, la5, sD5, fun z => nD5 (sb.own z), h2⟩
              | true =>
                rw [if_pos rfl]
                simp only [qs] at h2
                cases qe : mFrz el ρ5 with
                | stuck => simp only [qe] at h2; exact h2.elim
                | exn e ρ6 => simp only [qe] at h2; exact h2.elim
                | ok ev ρ6 =>
                  cases ev with
                  | new o => simp only [qe] at h2; exact h2.elim
                  | slot j => simp only [qe] at h2; exact h2.elim
                  | d y =>
                    simp only [qe] at h2
                    by_cases cz : szOk acc.length = true
                    · rw [if_pos cz] at h2
                      refine je_frz he S5 H5 σ4 ρ5 _ R5 ?_
                      rw [qe]
                      intro S6 H6 v s6 R6 hv
                      have d6 : H6 Da = some (.lst va) := s6.fr _ _ d5 nD5
                      have st6 := st5.trans s6
                      have nD6 : ¬ Own σ4 ρ6 Da := fun z => by
                        rcases s6.ow _ z with w | w
                        · exact nD5 w
                        · rw [d5] at w; cases w
                      have sD6 : S6 Da = none := by
                        cases z : S6 Da with
                        | none => rfl
                        | some u =>
                          rcases s6.nw _ _ z with w | w | w
                          · rw [sD5] at w; cases w
                          · rw [d5] at w; cases w
                          · exact (nD5 w).elim
                      have len6 : ρ6.length = ρ4.length := by rw [← R6.len, ← R4.len]
                      have sb := subOut len6
                      refine ⟨va, d6, by rw [la5.length]; exact szOk.le cz, ?_⟩
                      have l6 : DenL K S6 (acc ++ [y]) (va ++ [v]) := (la5.same s6.ex).append (DenL.cons hv DenL.nil)
                      have nW : ¬ Own σ (wipeR ρ6 vs) Da := fun z => nD6 (sb.own z)
                      exact ⟨S6, wipeR ρ6 vs, acc ++ [y], va ++ [v], stp_upd (sb.stp st6 fun j o e => ⟨(keep4 j (bo1 j o e)).symm, wipeR_out (bo1 j o e)⟩) hD, rel_upd (sb.rel R6) sD6 nW, fun v hv c e => wipeR_in hv e, upd_same, l6, sD6, nW, h2⟩
                    · rw [if_neg cz] at h2; exact h2.elim
      · have c' : ds.length ≤ i := Nat.le_of_not_lt c
        refine .inl ⟨stop c', ?_⟩
        rw [List.drop_eq_nil_of_le c'] at h2
        exact h2 S' H' _ (s1.trans st) R' ⟨Da, _, rfl, hDa, sDa, nDa, ⟨va, rfl, la⟩, .inl (s1.th _ hD)⟩
  · rw [if_neg cw] at h1; exact h1.elim
end
end Mi

set_option Elab.async false
set_option linter.all false
set_option maxRecDepth 100000
set_option autoImplicit false
namespace Mi
open PySem L2
/-! ### list comprehensions by syntax -/
section
variable {X : Cx} {xc : XC} {W : WX} {elt tg iter e : Expr} {ifs : List Expr} {scope : Scope} {pos pos' spos py : Pos} {mi : Rho → R (List D)} {sl : List Nat} {mt : D → Rho → Option Rho} {tst : Rho → R Bool} {el : Rho → R EV}
def mYes (ρ : Rho) : R Bool := .ok true ρ
theorem ts_nil : PTs X [] (cT X.K xc W mYes) := ⟨fun pins s σ H Q I ⟨S, ρ, R, k⟩ => pts_nil.run pins s σ H Q I (k S H .refl R)⟩
theorem ts_one {c : Expr} (h : MT X xc W c tst) : PTs X [c] (cT X.K xc W tst) := pts_one h
theorem r_lc {own : List (Str × Nat)} (hc : X.calm = true) (hN : X.N.Nodup) (hi : MI X xc W tg iter mi) (ok : BlkOk X.N X.env.scope scope own)
    (hg : ∀ (s : Shared) (H : Hp) (C : Addr) (cl : List (Str × Addr)) (fp : List Addr), MG (X.blk s H scope (compEnvC scope cl C X.env) fp) tg sl mt)
    (ht : ∀ (s : Shared) (H : Hp) (C : Addr) (cl : List (Str × Addr)) (fp : List Addr), PTs (X.blk s H scope (compEnvC scope cl C X.env) fp) ifs (cT X.K xc WF tst))
    (he : ∀ (s : Shared) (H : Hp) (C : Addr) (cl : List (Str × Addr)) (fp : List Addr), ME (X.blk s H scope (compEnvC scope cl C X.env) fp) xc WF elt el) (hsl : ∀ j ∈ sl, j ∈ own.map (·.2)) (hs : ∀ x, foldedSetIterable iter X.env x = pure x := by intro _; rfl) :
    ME X xc W (.ListComp elt [⟨tg, iter, ifs, 0⟩] scope pos) (mLc mi (own.map (·.2)) mt tst el) := mkE (pe_lc hc hN hi ok hg ht he hs) (je_lc ji_cI jg_cG jt_cT je_cE hsl)
theorem s_setLc {own : List (Str × Nat)} {i : Nat} {y : Str} (hc : X.calm = true) (hN : X.N.Nodup) (hy : X.N[i]? = some y) (hyl : X.env.scope.names.lookup y = some .local)
    (hsw : swapsWith (.ListComp elt [⟨tg, iter, ifs, 0⟩] scope pos) (some (.Name y py)) spos.line X.env = pure true) (hi : MI X xc W tg iter mi) (ok : BlkOk X.N X.env.scope scope own)
    (hg : ∀ (s : Shared) (H : Hp) (C : Addr) (cl : List (Str × Addr)) (fp : List Addr), MG (X.blk s H scope (compEnvC scope cl C X.env) fp) tg sl mt)
    (ht : ∀ (s : Shared) (H : Hp) (C : Addr) (cl : List (Str × Addr)) (fp : List Addr), PTs (X.blk s H scope (compEnvC scope cl C X.env) fp) ifs (cT X.K xc WF tst))
    (he : ∀ (s : Shared) (H : Hp) (C : Addr) (cl : List (Str × Addr)) (fp : List Addr), ME (X.blk s H scope (compEnvC scope cl C X.env) fp) xc WF elt el) (hsl : ∀ j ∈ sl, j ∈ own.map (·.2)) (hs : ∀ x, foldedSetIterable iter X.env x = pure x := by intro _; rfl) :
    MS X xc W (.Assign [.Name y py] (.ListComp elt [⟨tg, iter, ifs, 0⟩] scope pos) spos) (mSet i (mLc mi (own.map (·.2)) mt tst el)) := mkS (ps_setLc hc hN hy hyl hsw hi ok hg ht he hs) (js_set (je_lc ji_cI jg_cG jt_cT je_cE hsl))
end

/-! ### a def as a function of cells -/
inductive CR where
  | ok (e : EV) (outs : List Cell) | exn (x : Exn) | stuck
def keepB : List Cell → Rho → List Cell
  | .own true _ :: cs, c :: ρ => c :: keepB cs ρ
  | _ :: cs, _ :: ρ => .no :: keepB cs ρ
  | _, _ => []
def noOwn (cs : List Cell) : Bool := cs.all fun c => match c with | .own _ _ => false | _ => true
def callOf (n : Nat) (body : Rho → Out) (cs : List Cell) : CR := match body (cs ++ List.replicate (n - cs.length) .no) with
  | .rt (.slot _) _ => .stuck
  | .rt e ρ => .ok e (keepB cs ρ)
  | .nx ρ => .ok (.d .non) (keepB cs ρ)
  | .exn x _ => if noOwn cs then .exn x else .stuck
  | _ => .stuck
section
variable (K : PySem.W.Frag) (xc : XC)
def CPost (S H : Hp) (vs : List V) (cs : List Cell) (Q : VK) (E : XK) : CR → Prop
  | .ok e outs => ∀ S' H' v, Stp S H (vs.map some) cs S' H' (vs.map some) outs → Rel K S' H' (vs.map some) outs → EvOk K (vs.map some) cs H S' H' (vs.map some) outs v e → Q v H'
  | .exn x => ∀ S' H' c dx, Grow S H S' H' → XOk K xc S' H' x c dx → E c dx H'
  | .stuck => False
/-- called with cells as f's: f's value -/
def FSp (n : Nat) (f : List Cell → CR) : Sp := fun vs H Q E => vs.length = n ∧ ∃ S cs, Rel K S H (vs.map some) cs ∧ (∀ (i : Nat) o, cs[i]? ≠ some (.own false o)) ∧ CPost K xc S H vs cs Q E (f cs)
end
section
variable {K : PySem.W.Frag} {xc : XC} {W : WX} {S S1 S' H H1 H' H0 S0 : Hp} {σ σ1 σ2 σ' σ0 : Sg} {ρ ρ1 ρ2 ρ' ρ0 : Rho}
def Sb (σ1 : Sg) (ρ1 : Rho) (σ2 : Sg) (ρ2 : Rho) : Prop := ∀ (i : Nat) (c : Cell), ρ2[i]? = some c → c = .no ∨ (ρ1[i]? = some c ∧ σ2[i]? = σ1[i]?)
theorem Sb.own (h : Sb σ1 ρ1 σ2 ρ2) {a : Addr} (o : Own σ2 ρ2 a) : Own σ1 ρ1 a := by
  obtain ⟨i, b, m, e, f⟩ := o
  rcases h i _ e with z | ⟨z1, z2⟩
  · cases z
  · exact ⟨i, b, m, z1, by rw [← z2]; exact f⟩
theorem Sb.ownF (h : Sb σ1 ρ1 σ2 ρ2) {a : Addr} (o : OwnF σ2 ρ2 a) : OwnF σ1 ρ1 a := by
  obtain ⟨i, m, e, f⟩ := o
  rcases h i _ e with z | ⟨z1, z2⟩
  · cases z
  · exact ⟨i, m, z1, by rw [← z2]; exact f⟩
theorem Sb.rel (h : Sb σ1 ρ1 σ2 ρ2) (R : Rel K S H σ1 ρ1) (hl : σ2.length = ρ2.length) : Rel K S H σ2 ρ2 where
  sub := R.sub
  tab := R.tab
  len := hl
  cell := fun i c e => by
    rcases h i c e with z | ⟨z1, z2⟩
    · subst z; trivial
    · rw [z2]; exact R.cell i c z1
  dist := fun i j b b' o o' e1 e2 e3 => by
    rcases h i _ e1 with z | ⟨z1, z2⟩
    · cases z
    · rcases h j _ e2 with y | ⟨y1, y2⟩
      · cases y
      · exact R.dist i j _ _ _ _ z1 y1 (by rw [← z2, ← y2]; exact e3)
theorem keepB_get : ∀ {cs : List Cell} {ρ : Rho} {i : Nat} {c : Cell}, (keepB cs ρ)[i]? = some c → c = .no ∨ (ρ[i]? = some c ∧ ∃ o, cs[i]? = some (.own true o))
  | [], _, i, c, h => by simp [keepB] at h
  | x :: cs, [], i, c, h => by cases x <;> simp [keepB] at h
  | x :: cs, y :: ρ, 0, c, h => by
    cases x with
    | no => simp [keepB] at h; exact .inl h.symm
    | val d => simp [keepB] at h; exact .inl h.symm
    | own b o =>
      cases b with
      | false => simp [keepB] at h; exact .inl h.symm
      | true => simp [keepB] at h; exact .inr ⟨by simp [h], o, rfl⟩
  | x :: cs, y :: ρ, i + 1, c, h => by
    have h' : (keepB cs ρ)[i]? = some c := by
      cases x with
      | no => simpa [keepB] using h
      | val d => simpa [keepB] using h
      | own b o => cases b <;> simpa [keepB] using h
    simpa using keepB_get h'
theorem keepB_len : ∀ {cs : List Cell} {ρ : Rho}, cs.length ≤ ρ.length → (keepB cs ρ).length = cs.length
  | [], _, _ => by simp [keepB]
  | x :: cs, [], h => by simp at h
  | x :: cs, y :: ρ, h => by
    have ih := keepB_len (cs := cs) (ρ := ρ) (by simpa using h)
    cases x with
    | no => simp [keepB, ih]
    | val d => simp [keepB, ih]
    | own b o => cases b <;> simp [keepB, ih]
theorem keepB_own : ∀ {cs : List Cell} {ρ : Rho} {i : Nat} {o o' : Mo}, cs[i]? = some (.own true o) → ρ[i]? = some (.own true o') → (keepB cs ρ)[i]? = some (.own true o')
  | [], _, i, o, o', h, _ => by simp at h
  | x :: cs, [], i, o, o', _, h => by simp at h
  | x :: cs, y :: ρ, 0, o, o', h, h' => by
    simp at h h'
    subst h h'
    simp [keepB]
  | x :: cs, y :: ρ, i + 1, o, o', h, h' => by
    have ih := keepB_own (cs := cs) (ρ := ρ) (i := i) (by simpa using h) (by simpa using h')
    cases x with
    | no => simpa [keepB] using ih
    | val d => simpa [keepB] using ih
    | own b o => cases b <;> simpa [keepB] using ih
theorem noOwn_no {cs : List Cell} (h : noOwn cs = true) {i : Nat} {b : Bool} {o : Mo} : cs[i]? ≠ some (.own b o) := fun e => by
  have z := List.all_eq_true.mp h _ (List.mem_of_getElem? e)
  cases z
variable {P : Program} {w : World} {mg : Str → Option Value} {base : Heap}
/-- THE RULE for a def, its code object told -/
theorem fn_okC {x qual : Str} {st : Stmt} {f : Addr} {fd : FuncData} {N ps : List Str} {k : Nat} {body : Rho → Out} {oc : Value} {od an : Option Addr} {osl : Array (Option Value)} {kV doc pm cdv ct : Value}
    (hfd : fd = PySem.W.fnOf x qual (defArgs st) (defBody st) (defScope st) .none kV doc pm an cdv ct) (lk : K.lookup f = some ⟨oc, od, .func fd, osl⟩) (hcd : PySem.W.codeIn K cdv qual = true) (Sc : FnScope N ps (defScope st)) (hps : ps.length ≤ N.length)
    (hbody : ∀ (A : Around) (outer : List PySem.Env) (s : Shared) (H : Hp) (E : XK), Room k (A.deeper (PyProof.Rows.envOfC qual (defScope st) s.heap.objs.size f cdv)) →
      MSs (cxOf (L2.CX P w) P w K mg base N qual (defScope st) f cdv A outer s H E) xc (fun c d _ H' => E c d H') (defBody st) body) :
    FnOk P w K mg base (L2.CX P w) (k + 1) f fd ps (FSp K xc ps.length (callOf N.length body)) := by
  subst hfd
  refine fn_of lk hcd Sc (fun vs H Q E h => h.1) fun A outer s H vs Q E hr h => ?_
  obtain ⟨hl, S, cs, R, nf, hp⟩ := h
  refine ⟨_, hbody A outer s H E hr, ?_⟩
  have lcs : cs.length = vs.length := by rw [← R.len, List.length_map]
  have st_eq : start N vs = vs.map some ++ List.replicate (N.length - vs.length) none := rfl
  have gσ : ∀ {i : Nat} {v : V}, (vs.map some)[i]? = some (some v) → (start N vs)[i]? = some (some v) := fun {i v} e => by
    rw [st_eq, List.getElem?_append_left (List.getElem?_eq_some_iff.mp e).1]; exact e
  have lt_cs : ∀ {i : Nat} {c : Cell}, cs[i]? = some c → i < vs.length := fun {i c} e => by rw [← lcs]; exact (List.getElem?_eq_some_iff.mp e).1
  have σ_eq : ∀ {i : Nat}, i < vs.length → (start N vs)[i]? = (vs.map some)[i]? := fun {i} hi => by
    rw [st_eq, List.getElem?_append_left (by rw [List.length_map]; exact hi)]
  have ρ_get : ∀ {i : Nat} {c : Cell}, (cs ++ List.replicate (N.length - cs.length) Cell.no)[i]? = some c → c = .no ∨ cs[i]? = some c := fun {i c} e => by
    by_cases hi : i < cs.length
    · rw [List.getElem?_append_left hi] at e; exact .inr e
    · rw [List.getElem?_append_right (by omega)] at e
      exact .inl (List.eq_of_mem_replicate (List.mem_of_getElem? e))
  have sb : Sb (vs.map some) cs (start N vs) (cs ++ List.replicate (N.length - cs.length) .no) := fun i c e => by
    rcases ρ_get e with z | z
    · exact .inl z
    · exact .inr ⟨z, σ_eq (lt_cs z)⟩
  have R0 : Rel K S H (start N vs) (cs ++ List.replicate (N.length - cs.length) .no) := sb.rel R (by
    rw [st_eq, List.length_append, List.length_append, List.length_map, List.length_replicate, List.length_replicate, lcs])
  have fwd : ∀ {b : Addr}, Own (vs.map some) cs b → Own (start N vs) (cs ++ List.replicate (N.length - cs.length) .no) b := fun {b} ⟨i, bb, m, e, f⟩ =>
    ⟨i, bb, m, by rw [List.getElem?_append_left (List.getElem?_eq_some_iff.mp e).1]; exact e, by rw [σ_eq (lt_cs e)]; exact f⟩
  refine ⟨S, _, R0, ?_⟩
  -- behind the body, seen by the caller
  have back : ∀ {S' H' : Hp} {σ' : Sg} {ρ' : Rho}, Stp S H (start N vs) (cs ++ List.replicate (N.length - cs.length) .no) S' H' σ' ρ' → Rel K S' H' σ' ρ' →
      Stp S H (vs.map some) cs S' H' (vs.map some) (keepB cs ρ') ∧ Rel K S' H' (vs.map some) (keepB cs ρ') ∧ Sb σ' ρ' (vs.map some) (keepB cs ρ') := fun {S' H' σ' ρ'} s R' => by
    have bo : ∀ (i : Nat) o, cs[i]? = some (.own true o) → σ'[i]? = (vs.map some)[i]? ∧ ∃ o', ρ'[i]? = some (.own true o') := fun i o e => by
      obtain ⟨e1, o', e2⟩ := s.bo i o (by rw [List.getElem?_append_left (List.getElem?_eq_some_iff.mp e).1]; exact e)
      exact ⟨e1.trans (σ_eq (lt_cs e)), o', e2⟩
    have sk : Sb σ' ρ' (vs.map some) (keepB cs ρ') := fun i c e => by
      rcases keepB_get e with z | ⟨z, o, y⟩
      · exact .inl z
      · exact .inr ⟨z, (bo i o y).1.symm⟩
    have lρ : cs.length ≤ ρ'.length := by
      rw [s.ln, List.length_append]; omega
    refine ⟨⟨s.ex, fun b o e n => s.fr b o e fun z => n (sb.own z), s.th, fun b o e => ?_, fun b z => ?_, fun b z => ?_, fun i o e => ?_, keepB_len lρ⟩, sk.rel R' (by rw [keepB_len lρ, List.length_map, lcs]), sk⟩
    · rcases s.nw b o e with z | z | z
      · exact .inl z
      · exact .inr (.inl z)
      · exact .inr (.inr (sb.own z))
    · rcases s.ow b (sk.own z) with z | z
      · exact .inl (sb.own z)
      · exact .inr z
    · rcases s.owf b (sk.ownF z) with z | z
      · exact .inl (sb.ownF z)
      · exact .inr z
    · obtain ⟨_, o', e2⟩ := bo i o e
      exact ⟨rfl, o', keepB_own e e2⟩
  have noF : ∀ a, ¬ OwnF (start N vs) (cs ++ List.replicate (N.length - cs.length) .no) a := fun a z => by
    obtain ⟨i, o, e, _⟩ := sb.ownF z
    exact nf i o e
  have evb : ∀ {S' H' : Hp} {σ' : Sg} {ρ' : Rho} {v : V} {e : EV}, (∀ i, e ≠ .slot i) → Sb σ' ρ' (vs.map some) (keepB cs ρ') → EvOk K (start N vs) (cs ++ List.replicate (N.length - cs.length) .no) H S' H' σ' ρ' v e →
      EvOk K (vs.map some) cs H S' H' (vs.map some) (keepB cs ρ') v e := fun {S' H' σ' ρ' v e} ns sk k => by
    cases e with
    | d d => exact k
    | slot i => exact (ns i rfl).elim
    | new o =>
      obtain ⟨a, ho, k1, k2, k3, k4, k5, k6⟩ := k
      exact ⟨a, ho, k1, k2, k3, fun z => k4 (sk.own z), k5, .inl (k6.elim id fun z => (noF a z).elim)⟩
  unfold callOf at hp
  cases q : body (cs ++ List.replicate (N.length - cs.length) .no) with
  | nx ρ' =>
    rw [q] at hp
    intro S' H' σ' s R'
    obtain ⟨s2, R2, sk⟩ := back s R'
    exact hp S' H' .non s2 R2 (show Den K S' .non .non from by unfold Den; rfl)
  | rt e ρ' =>
    rw [q] at hp
    intro S' H' σ' v s R' k
    obtain ⟨s2, R2, sk⟩ := back s R'
    cases e with
    | slot i => exact hp.elim
    | d d => exact hp S' H' v s2 R2 (evb (fun i z => nomatch z) sk k)
    | new o => exact hp S' H' v s2 R2 (evb (fun i z => nomatch z) sk k)
  | bk ρ' => rw [q] at hp; exact hp.elim
  | ct ρ' => rw [q] at hp; exact hp.elim
  | stuck => rw [q] at hp; exact hp.elim
  | exn x ρ' =>
    rw [q] at hp
    by_cases c : noOwn cs = true
    · simp only [if_pos c] at hp
      intro S' H' σ' cc dx s R' xo
      obtain ⟨s2, R2, _⟩ := back s R'
      have no : ∀ b, ¬ Own (vs.map some) cs b := fun b ⟨i, bb, m, e, _⟩ => noOwn_no c e
      exact hp S' H' cc dx ⟨fun b o e => s2.fr b o e (no b), s2.ex, R2.sub, fun b o e => (s2.nw b o e).elim .inl fun z => z.elim .inr fun y => (no b y).elim⟩ xo
    · simp only [if_neg c] at hp; exact hp.elim
/-- THE RULE for a def -/
theorem fn_ok {x qual : Str} {st : Stmt} {f : Addr} {fd : FuncData} {N ps : List Str} {k : Nat} {body : Rho → Out} (F : Fun K x qual st f fd) (Sc : FnScope N ps (defScope st)) (hps : ps.length ≤ N.length)
    (hbody : ∀ (cdv : Value) (A : Around) (outer : List PySem.Env) (s : Shared) (H : Hp) (E : XK), Room k (A.deeper (PyProof.Rows.envOfC qual (defScope st) s.heap.objs.size f cdv)) →
      MSs (cxOf (L2.CX P w) P w K mg base N qual (defScope st) f cdv A outer s H E) xc (fun c d _ H' => E c d H') (defBody st) body) :
    FnOk P w K mg base (L2.CX P w) (k + 1) f fd ps (FSp K xc ps.length (callOf N.length body)) := by
  obtain ⟨oc, od, kV, doc, pm, an, cdv, ct, osl, hfd, lk, hcd⟩ := F.ex
  exact fn_okC hfd lk hcd Sc hps fun A outer s H E hr => hbody cdv A outer s H E hr
/-! ### a call -/
def cellOf (ρ : Rho) : EV → Option Cell
  | .d d => some (.val d)
  | .slot j => match ρ[j]? with
    | some (.own _ o) => some (.own true o)
    | _ => none
  | .new _ => none
def cellsOf (ρ : Rho) : List EV → Option (List Cell)
  | [] => some []
  | e :: es => (cellOf ρ e).bind fun c => (cellsOf ρ es).bind fun cs => some (c :: cs)
def hasSlot (j : Nat) : List EV → Bool
  | [] => false
  | .slot i :: es => decide (i = j) || hasSlot j es
  | _ :: es => hasSlot j es
def slotsNd : List EV → Bool
  | [] => true
  | .slot i :: es => !hasSlot i es && slotsNd es
  | _ :: es => slotsNd es
def slotPos (j : Nat) : List EV → Option Nat
  | [] => none
  | .slot i :: es => if i = j then some 0 else (slotPos j es).map (· + 1)
  | _ :: es => (slotPos j es).map (· + 1)
def wbCell (evs : List EV) (outs : List Cell) (j : Nat) : Cell → Cell
  | .own b o => match slotPos j evs with
    | none => .own b o
    | some p => match outs[p]? with
      | some (.own _ o') => .own b o'
      | _ => .own b o
  | c => c
def wback (evs : List EV) (outs : List Cell) (ρ : Rho) : Rho := ρ.mapIdx fun j c => wbCell evs outs j c
theorem cellsOf_get : ∀ {evs : List EV} {cs : List Cell} {i : Nat} {c : Cell}, cellsOf ρ evs = some cs → cs[i]? = some c → ∃ e, evs[i]? = some e ∧ cellOf ρ e = some c
  | [], cs, i, c, h, e => by simp only [cellsOf, Option.some.injEq] at h; subst h; simp at e
  | x :: evs, cs, i, c, h, e => by
    simp only [cellsOf, Option.bind_eq_some_iff, Option.some.injEq] at h
    obtain ⟨c0, h1, cs0, h2, rfl⟩ := h
    cases i with
    | zero => simp at e; subst e; exact ⟨x, rfl, h1⟩
    | succ i =>
      obtain ⟨e', a, b⟩ := cellsOf_get h2 (by simpa using e)
      exact ⟨e', by simpa using a, b⟩
theorem cellsOf_get' : ∀ {evs : List EV} {cs : List Cell} {i : Nat} {e : EV}, cellsOf ρ evs = some cs → evs[i]? = some e → ∃ c, cs[i]? = some c ∧ cellOf ρ e = some c
  | [], cs, i, c, h, e => by simp at e
  | x :: evs, cs, i, c, h, e => by
    simp only [cellsOf, Option.bind_eq_some_iff, Option.some.injEq] at h
    obtain ⟨c0, h1, cs0, h2, rfl⟩ := h
    cases i with
    | zero => simp at e; subst e; exact ⟨c0, rfl, h1⟩
    | succ i =>
      obtain ⟨e', a, b⟩ := cellsOf_get' h2 (by simpa using e)
      exact ⟨e', by simpa using a, b⟩
theorem cellsOf_len : ∀ {evs : List EV} {cs : List Cell}, cellsOf ρ evs = some cs → cs.length = evs.length
  | [], cs, h => by simp only [cellsOf, Option.some.injEq] at h; subst h; rfl
  | x :: evs, cs, h => by
    simp only [cellsOf, Option.bind_eq_some_iff, Option.some.injEq] at h
    obtain ⟨c0, h1, cs0, h2, rfl⟩ := h
    simp [cellsOf_len h2]
theorem hasSlot_of : ∀ {evs : List EV} {i j : Nat}, evs[i]? = some (.slot j) → hasSlot j evs = true
  | [], i, j, h => by simp at h
  | x :: evs, 0, j, h => by simp at h; subst h; simp [hasSlot]
  | x :: evs, i + 1, j, h => by
    have ih := hasSlot_of (evs := evs) (i := i) (j := j) (by simpa using h)
    cases x <;> simp [hasSlot, ih]
theorem slotsNd_inj : ∀ {evs : List EV} {i i' j : Nat}, slotsNd evs = true → evs[i]? = some (.slot j) → evs[i']? = some (.slot j) → i = i'
  | [], i, i', j, _, h, _ => by simp at h
  | x :: evs, 0, 0, j, _, _, _ => rfl
  | x :: evs, 0, i' + 1, j, n, h, h' => by
    simp at h; subst h
    have := hasSlot_of (evs := evs) (i := i') (j := j) (by simpa using h')
    simp [slotsNd, this] at n
  | x :: evs, i + 1, 0, j, n, h, h' => by
    simp at h'; subst h'
    have := hasSlot_of (evs := evs) (i := i) (j := j) (by simpa using h)
    simp [slotsNd, this] at n
  | x :: evs, i + 1, i' + 1, j, n, h, h' => by
    have n' : slotsNd evs = true := by cases x <;> simp [slotsNd] at n <;> first | exact n | exact n.2
    exact congrArg (· + 1) (slotsNd_inj (i := i) (i' := i') (j := j) n' (by simpa using h) (by simpa using h'))
theorem slotPos_some : ∀ {evs : List EV} {j p : Nat}, slotPos j evs = some p → evs[p]? = some (.slot j)
  | [], j, p, h => by simp [slotPos] at h
  | x :: evs, j, p, h => by
    have step : (slotPos j evs).map (· + 1) = some p → (x :: evs)[p]? = some (.slot j) := fun h => by
      simp only [Option.map_eq_some_iff] at h
      obtain ⟨p', h1, rfl⟩ := h
      simpa using slotPos_some h1
    cases x with
    | d d => exact step h
    | new o => exact step h
    | slot i =>
      simp only [slotPos] at h
      split at h
      · rename_i e; cases h; rw [e]; rfl
      · exact step h
theorem slotPos_none : ∀ {evs : List EV} {j : Nat}, slotPos j evs = none → ∀ i : Nat, evs[i]? ≠ some (.slot j)
  | [], j, h, i => by simp
  | x :: evs, j, h, i => by
    have step : (slotPos j evs).map (· + 1) = none → x ≠ .slot j → (x :: evs)[i]? ≠ some (.slot j) := fun h n => by
      simp only [Option.map_eq_none_iff] at h
      cases i with
      | zero => simpa using n
      | succ i => simpa using slotPos_none h i
    cases x with
    | d d => exact step h (fun z => nomatch z)
    | new o => exact step h (fun z => nomatch z)
    | slot k =>
      simp only [slotPos] at h
      split at h
      · cases h
      · rename_i ne; exact step h fun z => by cases z; exact ne rfl
theorem evsOk_get : ∀ {vs : List V} {evs : List EV} {i : Nat} {e : EV}, EvsOk K σ0 ρ0 H0 S H σ ρ vs evs → evs[i]? = some e → ∃ v, vs[i]? = some v ∧ EvOk K σ0 ρ0 H0 S H σ ρ v e
  | [], [], i, e, _, h => by simp at h
  | v :: vs, x :: evs, 0, e, k, h => by simp at h; subst h; exact ⟨v, rfl, k.1⟩
  | v :: vs, x :: evs, i + 1, e, k, h => by
    obtain ⟨u, a, b⟩ := evsOk_get k.2 (by simpa using h)
    exact ⟨u, by simpa using a, b⟩
  | [], _ :: _, _, _, k, _ => k.elim
  | _ :: _, [], _, _, k, _ => k.elim
theorem evsOk_len : ∀ {vs : List V} {evs : List EV}, EvsOk K σ0 ρ0 H0 S H σ ρ vs evs → vs.length = evs.length
  | [], [], _ => rfl
  | v :: vs, x :: evs, k => by simp [evsOk_len k.2]
  | [], _ :: _, k => k.elim
  | _ :: _, [], k => k.elim
def CR.toR (evs : List EV) (ρ : Rho) : CR → R EV
  | .ok (.slot _) _ => .stuck
  | .ok e outs => .ok e (wback evs outs ρ)
  | .exn x => .exn x ρ
  | .stuck => .stuck
def callR (f : List Cell → CR) (n : Nat) (evs : List EV) (ρ : Rho) : R EV := match cellsOf ρ evs with
  | none => .stuck
  | some cs => if slotsNd evs && decide (evs.length = n) then (f cs).toR evs ρ else .stuck
def mCall (f : List Cell → CR) (n : Nat) (ma : Rho → R (List EV)) (ρ : Rho) : R EV := (ma ρ).bind fun evs ρ1 => callR f n evs ρ1
theorem call_post {n : Nat} {f : List Cell → CR} {evs : List EV} {cs : List Cell} {vs : List V} {Q : VK} {S0 : Hp} (s1 : Stp S0 H0 σ ρ0 S H σ ρ) (R1 : Rel K S H σ ρ) (k : EvsOk K σ ρ0 H0 S H σ ρ vs evs) (hc : cellsOf ρ evs = some cs) (hn : slotsNd evs = true) (hl : evs.length = n)
    (h : ROk (EPost K S0 H0 σ ρ0 Q) (XPost K xc W S0 H0 σ ρ0) ((f cs).toR evs ρ)) : FSp K xc n f vs H Q (WE W σ) := by
  have lv := evsOk_len k
  have lc := cellsOf_len hc
  have at_ : ∀ {i : Nat} {c : Cell}, cs[i]? = some c → ∃ e v, evs[i]? = some e ∧ cellOf ρ e = some c ∧ (vs.map some)[i]? = some (some v) ∧ EvOk K σ ρ0 H0 S H σ ρ v e := fun {i c} e => by
    obtain ⟨e', a, b⟩ := cellsOf_get hc e
    obtain ⟨v, a2, b2⟩ := evsOk_get k a
    exact ⟨e', v, a, b, by rw [List.getElem?_map, a2]; rfl, b2⟩
  have ownAt : ∀ {i : Nat} {b : Bool} {o : Mo}, cs[i]? = some (.own b o) → ∃ j b', b = true ∧ evs[i]? = some (.slot j) ∧ ρ[j]? = some (.own b' o) ∧ σ[j]? = (vs.map some)[i]? := fun {i b o} e => by
    obtain ⟨e', v, a1, a2, a3, a4⟩ := at_ e
    cases e' with
    | d d => simp [cellOf] at a2
    | new m => simp [cellOf] at a2
    | slot j =>
      simp only [cellOf] at a2
      cases q : ρ[j]? with
      | none => rw [q] at a2; simp at a2
      | some c =>
        rw [q] at a2
        cases c with
        | no => simp at a2
        | val d => simp at a2
        | own b' o' =>
          simp only [Option.some.injEq, Cell.own.injEq] at a2
          obtain ⟨rfl, rfl⟩ := a2
          exact ⟨j, b', rfl, a1, q, by rw [a3]; exact a4⟩
  have R0 : Rel K S H (vs.map some) cs := by
    refine ⟨R1.sub, by rw [List.length_map, lv, lc], fun i c e => ?_, fun i1 i2 b1 b2 o1 o2 e1 e2 e3 => ?_, R1.tab⟩
    · cases c with
      | no => trivial
      | val d =>
        obtain ⟨e', v, a1, a2, a3, a4⟩ := at_ e
        cases e' with
        | d d' => simp only [cellOf, Option.some.injEq, Cell.val.injEq] at a2; subst a2; exact ⟨v, a3, a4⟩
        | new m => simp [cellOf] at a2
        | slot j =>
          simp only [cellOf] at a2
          split at a2 <;> cases a2
      | own b o =>
        obtain ⟨j, b', _, _, a3, a4⟩ := ownAt e
        obtain ⟨a, ho, k1, k2, k3, k4⟩ := R1.cell j _ a3
        exact ⟨a, ho, by rw [← a4]; exact k1, k2, k3, k4⟩
    · obtain ⟨j1, _, _, x1, x2, x3⟩ := ownAt e1
      obtain ⟨j2, _, _, y1, y2, y3⟩ := ownAt e2
      have ej : j1 = j2 := R1.dist _ _ _ _ _ _ x2 y2 (by rw [x3, y3]; exact e3)
      subst ej
      exact slotsNd_inj hn x1 y1
  refine ⟨by rw [lv]; exact hl, S, cs, R0, fun i o e => ?_, ?_⟩
  · obtain ⟨_, _, z, _⟩ := ownAt e
    cases z
  have fwd : ∀ {b : Addr}, Own (vs.map some) cs b → Own σ ρ b := fun {b} ⟨i, bb, m, e, f⟩ => by
    obtain ⟨j, b', _, _, a3, a4⟩ := ownAt e
    exact ⟨j, b', m, a3, by rw [a4]; exact f⟩
  cases q : f cs with
  | stuck => rw [q] at h; exact h.elim
  | exn x =>
    rw [q] at h
    intro S' H' c dx g xo
    exact h S' H' σ c dx (s1.trans (.laid g)) (R1.laid g) xo
  | ok e outs =>
    rw [q] at h
    intro S2 H2 v s R2 ev
    have wb : ∀ {j : Nat} {c2 : Cell}, (wback evs outs ρ)[j]? = some c2 → ∃ c1, ρ[j]? = some c1 ∧ c2 = wbCell evs outs j c1 := fun {j c2} e => by
      unfold wback at e
      rw [List.getElem?_mapIdx] at e
      simp only [Option.map_eq_some_iff] at e
      obtain ⟨c1, a, b⟩ := e
      exact ⟨c1, a, b.symm⟩
    have wb' : ∀ {j : Nat} {c1 : Cell}, ρ[j]? = some c1 → (wback evs outs ρ)[j]? = some (wbCell evs outs j c1) := fun {j c1} e => by
      unfold wback
      rw [List.getElem?_mapIdx, e]; rfl
    -- an owned cell behind the call
    have cellIs : ∀ {j : Nat} {b : Bool} {o1 : Mo}, ρ[j]? = some (.own b o1) → ∃ o2, wbCell evs outs j (.own b o1) = .own b o2 ∧ ∃ a ho, σ[j]? = some (some (.ref a)) ∧ H2 a = some ho ∧ S2 a = none ∧ MoOk K S2 o2 ho := fun {j b o1} e => by
      obtain ⟨a, ho, k1, k2, k3, k4⟩ := R1.cell j _ e
      cases sp : slotPos j evs with
      | some p =>
        have ep := slotPos_some sp
        obtain ⟨c, c1, c2⟩ := cellsOf_get' hc ep
        simp only [cellOf, e, Option.some.injEq] at c2
        subst c2
        obtain ⟨_, o', eo⟩ := s.bo p o1 c1
        obtain ⟨a2, h2, m1, m2, m3, m4⟩ := R2.cell p _ eo
        obtain ⟨j', b', _, x1, x2, x3⟩ := ownAt c1
        rw [ep] at x1
        cases x1
        refine ⟨o', by simp only [wbCell, sp, eo], a2, h2, by rw [x3]; exact m1, m2, m3, m4⟩
      | none =>
        have np := slotPos_none sp
        have nOwn : ¬ Own (vs.map some) cs a := fun ⟨i, bb, m, z1, z2⟩ => by
          obtain ⟨j', b', _, x1, x2, x3⟩ := ownAt z1
          have ej : j = j' := R1.dist _ _ _ _ _ _ e x2 (by rw [k1, x3, z2])
          subst ej
          exact np i x1
        refine ⟨o1, by simp only [wbCell, sp], a, ho, k1, s.fr _ _ k2 nOwn, ?_, k4.same s.ex⟩
        cases z : S2 a with
        | none => rfl
        | some u =>
          rcases s.nw _ _ z with y | y | y
          · rw [k3] at y; cases y
          · rw [k2] at y; cases y
          · exact (nOwn y).elim
    have own2 : ∀ {j : Nat} {b : Bool} {o : Mo}, (wback evs outs ρ)[j]? = some (.own b o) → ∃ o1, ρ[j]? = some (.own b o1) := fun {j b o} e => by
      obtain ⟨c1, a1, a2⟩ := wb e
      cases c1 with
      | no => cases a2
      | val d => cases a2
      | own b1 o1 =>
        obtain ⟨o2, e2, _⟩ := cellIs a1
        rw [e2] at a2
        cases a2
        exact ⟨o1, a1⟩
    have ownB : ∀ {b : Addr}, Own σ (wback evs outs ρ) b → Own σ ρ b := fun {b} ⟨j, bb, m, e1, e2⟩ => by
      obtain ⟨o1, e3⟩ := own2 e1
      exact ⟨j, bb, o1, e3, e2⟩
    have R3 : Rel K S2 H2 σ (wback evs outs ρ) := by
      refine ⟨R2.sub, by rw [R1.len]; unfold wback; rw [List.length_mapIdx], fun j c e => ?_, fun j1 j2 b1 b2 o1 o2 e1 e2 e3 => ?_, R2.tab⟩
      · obtain ⟨c1, a1, a2⟩ := wb e
        subst a2
        cases c1 with
        | no => trivial
        | val d =>
          have k1 := R1.cell j _ a1
          obtain ⟨u, k1, k2⟩ := k1
          exact ⟨u, k1, k2.same s.ex⟩
        | own b o1 =>
          obtain ⟨o2, e2, r⟩ := cellIs a1
          rw [e2]
          exact r
      · obtain ⟨_, x1⟩ := own2 e1
        obtain ⟨_, x2⟩ := own2 e2
        exact R1.dist _ _ _ _ _ _ x1 x2 e3
    have s3 : Stp S H σ ρ S2 H2 σ (wback evs outs ρ) := by
      refine ⟨s.ex, fun b o e n => s.fr b o e fun z => n (fwd z), s.th, fun b o e => ?_, fun b z => .inl (ownB z), fun b z => .inl ?_, fun j o e => ?_, by unfold wback; rw [List.length_mapIdx]⟩
      · rcases s.nw b o e with z | z | z
        · exact .inl z
        · exact .inr (.inl z)
        · exact .inr (.inr (fwd z))
      · obtain ⟨j, m, e1, e2⟩ := z
        obtain ⟨o1, e3⟩ := own2 e1
        exact ⟨j, o1, e3, e2⟩
      · obtain ⟨o2, e2, _⟩ := cellIs e
        exact ⟨rfl, o2, by rw [wb' e, e2]⟩
    cases e with
    | d d => exact h S2 H2 v (s1.trans s3) R3 (EvOk.back s1 ev)
    | slot i => exact h.elim
    | new o =>
      refine h S2 H2 v (s1.trans s3) R3 (EvOk.back s1 ?_)
      obtain ⟨a, ho, k1, k2, k3, k4, k5, k6⟩ := ev
      have fresh : H a = none := k6.elim id fun ⟨i, m, z, _⟩ => by
        obtain ⟨_, _, y, _⟩ := ownAt z
        cases y
      refine ⟨a, ho, k1, k2, k3, fun z => ?_, k5, .inl fresh⟩
      obtain ⟨u, y, _⟩ := R1.own_some (ownB z)
      rw [fresh] at y; cases y
theorem je_call {n : Nat} {f : List Cell → CR} {ta : TA} {ma : Rho → R (List EV)} (ha : JA K xc W ta ma) : JE K xc W (tCallS (FSp K xc n f) (WE W) ta) (mCall f n ma) := by
  intro S H σ ρ Q R h
  refine ha S H σ ρ _ R (ROk.mono (ROk.bind h) (fun evs ρ1 h1 => ?_) fun _ _ z => z)
  intro S1 H1 vs s1 R1 k
  unfold callR at h1
  cases q : cellsOf ρ1 evs with
  | none => rw [q] at h1; exact h1.elim
  | some cs =>
    rw [q] at h1
    by_cases c : (slotsNd evs && decide (evs.length = n)) = true
    · simp only [if_pos c] at h1
      simp only [Bool.and_eq_true, decide_eq_true_eq] at c
      exact call_post s1 R1 k q c.1 c.2 h1
    · simp only [if_neg c] at h1; exact h1.elim
end
end Mi

set_option Elab.async false
set_option linter.all false
set_option maxRecDepth 100000
set_option autoImplicit false
/-! try: .. with several clauses, some of which name the error -/
namespace Mi
open PySem L2
abbrev Cls := Value × Option Nat × (Addr → Value → Option Addr → TS)
/-- the ends behind a named clause: its name goes -/
def endsGone (D : Ends) (i : Nat) : Ends := ⟨fun σ H => D.nx (σ.set i none) H, D.rt, fun σ H => D.bk (σ.set i none) H, fun σ H => D.ct (σ.set i none) H⟩
def wB (K : PySem.W.Frag) (Wo : WX) (D : Ends) : List Cls → WX
  | [] => Wo
  | (c, none, ts) :: r => fun cls d σ H => ∃ b, PySem.W.exmOne K cls c = some b ∧
      (b = true → ∀ a, H a = none → ts a cls d D σ H) ∧ (b = false → wB K Wo D r cls d σ H)
  | (c, some i, ts) :: r => fun cls d σ H => ∃ b, PySem.W.exmOne K cls c = some b ∧
      (b = true → ∀ a, H a = none → ts a cls d (endsGone D i) (σ.set i (some (.ref a))) H) ∧ (b = false → wB K Wo D r cls d σ H)
inductive HdsB (X : Cx) : List ExceptHandler → List Cls → Prop
  | nil : HdsB X [] []
  | plain {x : Str} {c : Value} {ts : Addr → Value → Option Addr → TS} {b1 : Stmt} {su : List Stmt} {np hp : Pos} {hds : List ExceptHandler} {l : List Cls} (hc : Names X x c)
      (hsu : ∀ (a : Addr) (oe : Obj) (cls : Value) (d : Option Addr) (pn : List (Addr × Obj)), Zc cls d oe → (∃ vs, oe.data = .fields vs) →
        PSs (X.suite a ((a, oe) :: pn)) (b1 :: su) (ts a cls d))
      (r : HdsB X hds l) : HdsB X (.ExceptHandler (some (.Name x np)) none (b1 :: su) hp :: hds) ((c, none, ts) :: l)
  | named {x n : Str} {i : Nat} {c : Value} {ts : Addr → Value → Option Addr → TS} {b1 : Stmt} {su : List Stmt} {np hp : Pos} {hds : List ExceptHandler} {l : List Cls} (hc : Names X x c)
      (hi : X.N[i]? = some n) (hln : X.env.kindOf n = some .local)
      (hsu : ∀ (a : Addr) (oe : Obj) (cls : Value) (d : Option Addr) (pn : List (Addr × Obj)), Zc cls d oe → (∃ vs, oe.data = .fields vs) →
        PSs (X.suite a ((a, oe) :: pn)) (b1 :: su) (ts a cls d))
      (r : HdsB X hds l) : HdsB X (.ExceptHandler (some (.Name x np)) (some n) (b1 :: su) hp :: hds) ((c, some i, ts) :: l)
section
variable {X : Cx} {body : List Stmt} {h1 : ExceptHandler} {hds : List ExceptHandler} {l : List Cls} {pos : Pos} {tb : WX → TS} {Wo : WX}
theorem sp_ofTry {pins pn' : List (Addr × Obj)} {xe : Value → Shared → Prop} {D : Ends} {f : Flow} {s : Shared} (ok : X.Ok) (h : SP (X.tr (X.pn ++ pins) xe) pn' D f s) : SP X pins D f s := by
  cases f with
  | next => obtain ⟨σ, H, J, q⟩ := h; exact ⟨σ, H, J.ofTry ok, q⟩
  | brk => obtain ⟨σ, H, J, q⟩ := h; exact ⟨σ, H, J.ofTry ok, q⟩
  | cont => obtain ⟨σ, H, J, q⟩ := h; exact ⟨σ, H, J.ofTry ok, q⟩
  | ret u => obtain ⟨v, σ, H, J, r, q⟩ := h; exact ⟨v, σ, H, J.ofTry ok, r, q⟩
theorem sp_unsuite {pins pn' : List (Addr × Obj)} {a : Addr} {oe : Obj} {D : Ends} {f : Flow} {s : Shared} (ok : X.Ok) (h : SP (X.suite a ((a, oe) :: (X.pn ++ pins))) pn' D f s) : SP X pins D f s := by
  cases f with
  | next => obtain ⟨σ, H, J, q⟩ := h; exact ⟨σ, H, J.unsuite ok, q⟩
  | brk => obtain ⟨σ, H, J, q⟩ := h; exact ⟨σ, H, J.unsuite ok, q⟩
  | cont => obtain ⟨σ, H, J, q⟩ := h; exact ⟨σ, H, J.unsuite ok, q⟩
  | ret u => obtain ⟨v, σ, H, J, r, q⟩ := h; exact ⟨v, σ, H, J.unsuite ok, r, q⟩
theorem ps_tryB (hs : X.stack = X.env :: X.outer) (hf : X.env.frame = some X.env.locals) (hN : X.N.Nodup) (tk : Takes X Wo)
    (hb : ∀ (W : WX) (pn : List (Addr × Obj)) (xe : Value → Shared → Prop), Takes (X.tr pn xe) W →
      PassesOwn (model X.prog X.w) X.A X.env xe → PSs (X.tr pn xe) body (tb W))
    (hh : HdsB X (h1 :: hds) l) : PS X (.Try body (h1 :: hds) [] [] pos) (fun D σ H => tb (wB X.K Wo D l) D σ H) := by
  constructor
  intro pins s σ H D I hyp
  have ok := I.ok
  have hfr : X.A.frames = some (X.env :: X.outer) := ok.frames.trans (congrArg some hs)
  refine wpAny_Try_except ?_
  let xe' : Value → Shared → Prop := fun e t1 => wpAny (model X.prog X.w) X.A (noteFrame e X.env)
    (fun _ t2 => wpAny (model X.prog X.w) X.A (setFlight e none)
      (fun _ t3 => wpAny (model X.prog X.w) X.A (handleBy e X.env (h1 :: hds)) (SP X pins D) X.xe t3) X.xe t2) X.xe t1
  have catch_ : Takes (X.tr (X.pn ++ pins) xe') (wB X.K Wo D l) := by
    rintro u s' ⟨a, B, sI, pins', σ', H', cls, d, rfl, J', nb, up, sky, na, os, ag, w⟩
    have J : Inv X pins σ' H' sI := Inv.ofTry J' ok
    have sky2 : Sky B (X.env :: X.outer) a (Zc cls d) X.env.locals s'.heap := hs ▸ sky
    show wpAny _ _ (noteFrame (.ref a) X.env) _ _ _
    refine Sky.land Zc.steady hfr hf sky2 ?_
    intro g fl upg
    have Jg : Inv X pins σ' H' { s' with heap := g } := J.landed nb fl.1 (up.trans upg) os ag
    have spot : ∀ {k : Heap}, HandSPX.FlyingZ B (X.env :: X.outer) a (Zc cls d) k → ∃ (o : Obj) (vs : Array Value), k.get? a = some o ∧ Zc cls d o ∧ o.data = .fields vs := fun fk => fk.there
    obtain ⟨og, vg, eg, zg, dg⟩ := spot fl
    have away : a ∉ frs (X.env :: X.outer) := by
      intro hm
      obtain ⟨_, o2, e2, hnf⟩ := fl.2.2.1.mem hm
      rw [eg] at e2
      cases e2
      exact hnf _ dg
    have nL : a ≠ X.env.locals := by
      intro z
      exact away (List.mem_filterMap.mpr ⟨X.env, List.mem_cons_self, by rw [hf, z]⟩)
    have nF : a ∉ X.fs := by
      intro hm
      obtain ⟨e, he, q⟩ := List.mem_filterMap.mp hm
      exact away (List.mem_filterMap.mpr ⟨e, List.mem_cons_of_mem _ he, q⟩)
    have Sg := Jg.suite eg dg na nL nF
    -- a clause's class is asked
    have ask : ∀ {x : Str} {c : Value} {np : Pos} {Q : Value → Shared → Prop} {E : Value → Shared → Prop}, Names X x c → Q c { s' with heap := g } →
        wpAny (model X.prog X.w) (X.A.mark (some (.ref a))) (eval (.Name x np) X.env) Q E { s' with heap := g } := by
      intro x c np Q E hc q
      obtain ⟨k1, k2, k3 | ⟨k3, k4, k5⟩⟩ := hc
      · exact ld_glob (X := X.suite a ((a, og) :: (X.pn ++ pins))) Sg k1 k3 q k2
      · exact ld_blt (X := X.suite a ((a, og) :: (X.pn ++ pins))) Sg k1 k3 k4 q k5 k2
    have LT : PySem.W.Looks (model X.prog X.w) g (typeOf (.ref a)) cls := by
      intro A Q E s k q
      exact wpAny_typeOf_ref (k _ _ eg) (by rw [zg.1]; exact q)
    -- a suite's ground
    have ground : ∀ {k : Heap}, HandSPX.FlyingZ B (X.env :: X.outer) a (Zc cls d) k → g.UpToSlots k → ∃ (o : Obj), Zc cls d o ∧ (∃ vs, o.data = .fields vs) ∧ Inv (X.suite a ((a, o) :: (X.pn ++ pins))) [] σ' H' { s' with heap := k } := by
      intro k fk upk
      obtain ⟨ok', vk, ek, zk, dk⟩ := spot fk
      exact ⟨ok', zk, ⟨_, dk⟩, (J.landed nb fk.1 ((up.trans upg).trans upk) os ag : Inv X pins σ' H' { s' with heap := k }).suite ek dk na nL nF⟩
    have go : ∀ {hs' : List ExceptHandler} {l' : List Cls}, HdsB X hs' l' → wB X.K Wo D l' cls d σ' H' →
        wpAny (model X.prog X.w) X.A (handleBy (.ref a) X.env hs') (SP X pins D) X.xe { s' with heap := g } := by
      intro hs' l' hk
      induction hk with
      | nil =>
        intro w0
        refine wpAny_handleBy_nil ?_
        obtain ⟨_, _, _, oe, vs, T, oT, ts', he, hz, hd, hT, hr⟩ := _root_.id fl
        unfold PySem.passOn
        refine wpAny_bind (wpAny_field he hd hT ?_)
        rw [if_neg (show ¬ ((Value.ref T == Value.none) = true) by simp)]
        have fin : wpAny (model X.prog X.w) X.A (setFlight (.ref a) X.env.frame)
            (fun _ t => wpAny (model X.prog X.w) X.A (throw (.ref a) : Sem Flow) (SP X pins D) X.xe t) X.xe { s' with heap := g } := by
          rw [hf]
          refine HandSPX.setFlight_upZ fl ?_
          intro k hk2 upk
          refine wpAny_throw (tk _ _ ?_)
          exact ⟨a, B, sI, pins, σ', H', cls, d, rfl, J, nb, (up.trans upg).trans upk, .inr (.inr (hs.symm ▸ hk2)), na, os, ag, w0⟩
        first
          | exact wpAny_bind (wpAny_pure (wpAny_bind fin))
          | exact wpAny_bind fin
      | plain hc hsu r ih =>
        rintro ⟨b, eb, yes, no⟩
        refine wpAny_handleBy_cons (codeAny_handlers_test ?_) (by intro q; cases q)
        have LM := PySem.W.exm_one (M := model X.prog X.w) Jg.kIn LT eb
        refine ask hc (LM.here ?_)
        cases b with
        | false => exact ih (no rfl)
        | true =>
          refine codeAny_handlers_suite (HandSPX.lands_againZ fl ?_)
          intro k fk upk
          obtain ⟨o, zo, vo, So⟩ := ground fk upk
          exact wpAny_mono ((hsu a o cls d (X.pn ++ pins) zo vo).run [] _ _ H' _ So (yes rfl a na)) (fun f t q => sp_unsuite ok q) (fun _ _ z => z.elim)
      | named hc hi hln hsu r ih =>
        rename_i n i _ _ _ _ _ hp _ _
        rintro ⟨b, eb, yes, no⟩
        refine wpAny_handleBy_cons (codeAny_handlers_test ?_) (by intro q; cases q)
        have LM := PySem.W.exm_one (M := model X.prog X.w) Jg.kIn LT eb
        refine ask hc (LM.here ?_)
        cases b with
        | false => exact ih (no rfl)
        | true =>
          refine codeAny_handlers_suite_as (HandSPX.lands_againZ fl ?_)
          intro k fk upk
          obtain ⟨o, zo, vo, So⟩ := ground fk upk
          refine store_ok (X := X.suite a ((a, o) :: (X.pn ++ pins))) (v := .ref a) So hN hi (.inl hln) rfl ?_ (.inr hln)
          intro s5 S5
          refine wpAny_mono ((hsu a o cls d (X.pn ++ pins) zo vo).run [] s5 _ H' _ S5 (yes rfl a na)) ?_ (fun _ _ z => z.elim)
          intro f t q
          cases f with
          | next =>
            obtain ⟨σ6, H6, S6, q6⟩ := q
            exact gone_ok (Inv.unsuite S6 ok) hN hi hln fun s7 J7 => ⟨_, _, J7, q6⟩
          | brk =>
            obtain ⟨σ6, H6, S6, q6⟩ := q
            exact gone_ok (Inv.unsuite S6 ok) hN hi hln fun s7 J7 => ⟨_, _, J7, q6⟩
          | cont =>
            obtain ⟨σ6, H6, S6, q6⟩ := q
            exact gone_ok (Inv.unsuite S6 ok) hN hi hln fun s7 J7 => ⟨_, _, J7, q6⟩
          | ret u =>
            obtain ⟨v6, σ6, H6, S6, r6, q6⟩ := q
            exact gone_ok (Inv.unsuite S6 ok) hN hi hln fun s7 J7 => ⟨_, _, _, J7, r6, q6⟩
    exact go hh w
  refine wpAny_mono ((hb (wB X.K Wo D l) (X.pn ++ pins) xe' catch_ PassesOwn.looking).run [] s σ H D (I.toTry _) hyp) ?_ (fun _ _ z => z)
  intro f t q
  have q2 : SP X pins D f t := sp_ofTry ok q
  cases f with
  | next => exact wpAny_execs_nil q2
  | brk => exact q2
  | cont => exact q2
  | ret u => exact q2
end
end Mi

set_option Elab.async false
set_option linter.all false
set_option maxRecDepth 100000
set_option autoImplicit false
namespace Mi
open PySem L2
/-! ### calls by syntax -/
/-- a def of the text: its name, its place, its function of cells -/
structure Df (P : Program) (w : World) (K : PySem.W.Frag) (mg : Str → Option Value) (base : Heap) (xc : XC) (k : Nat) (a : Addr) (n : Nat) (f : List Cell → CR) : Prop where
  ex : ∃ (fd : FuncData) (ps : List Str), ps.length = n ∧ FnOk P w K mg base (L2.CX P w) k a fd ps (FSp K xc n f) ∧ Binds K fd ps []
  kp : PySem.W.keepIn K (.ref a) = true
section
variable {X : Cx} {xc : XC} {W : WX} {x : Str} {p pos : Pos} {e : Expr} {es : List Expr} {k n : Nat} {a : Addr} {f : List Cell → CR} {ma : Rho → R (List EV)}
theorem r_call (F : Df X.prog X.w X.K X.mg X.base xc k a n f) (hr : Room k X.A) (hg : Gl X x) (hm : X.mg x = some (.ref a)) (tk : Takes X W) (ha : MA X xc W (e :: es) ma) (hdb : (x == ("__debug__" : Str)) = false := by decide)
    (he : starEach (e :: es) X.env = (false, eval e X.env) :: starEach es X.env := by rfl) (hpl : (backTo pos (starEach es X.env)).any (·.1) = false := by rfl) : ME X xc W (.Call (.Name x p) (e :: es) [] pos) (mCall f n ma) := by
  obtain ⟨fd, ps, hn, F1, b1⟩ := F.ex
  exact mkE (pe_callS F1 hr hg hm F.kp b1 (fun σ => passAt tk σ) ha hdb he hpl) (je_call ja_cA)
/-- a name of the frame that holds a def, one of a table's -/
def mCallV (i : Nat) (T : Addr → Option (Nat × (List Cell → CR))) (ma : Rho → R (List EV)) (ρ : Rho) : R EV := match ρ[i]? with
  | some (.val (.ref a)) => match T a with
    | some p => mCall p.2 p.1 ma ρ
    | none => .stuck
  | _ => .stuck
def tCallV (K : PySem.W.Frag) (xc : XC) (W : WX) (i : Nat) (T : Addr → Option (Nat × (List Cell → CR))) (ta : TA) : TE := fun σ H Q => ∃ a q, σ[i]? = some (some (.ref a)) ∧ T a = some q ∧ ta σ H fun vs H1 => FSp K xc q.1 q.2 vs H1 Q (WE W σ)
theorem pe_callV {i : Nat} {T : Addr → Option (Nat × (List Cell → CR))} {ta : TA} (hT : ∀ a q, T a = some q → Df X.prog X.w X.K X.mg X.base xc k a q.1 q.2) (hr : Room k X.A) (tk : Takes X W) (hN : X.N[i]? = some x) (hv : Vis X.env.scope x) (ha : PA X (e :: es) ta)
    (hd1 : (x == ("__debug__" : Str)) = false := by decide) (hd2 : (x == ("__classdict__" : Str)) = false := by decide)
    (he : starEach (e :: es) X.env = (false, eval e X.env) :: starEach es X.env := by rfl) (hpl : (backTo pos (starEach es X.env)).any (·.1) = false := by rfl) :
    PE X (.Call (.Name x p) (e :: es) [] pos) (tCallV X.K xc W i T ta) := by
  constructor
  rintro pins s σ H Q I ⟨a, q, h1, h2, h3⟩
  obtain ⟨⟨fd, ps, hn, F, hb⟩, hk⟩ := hT a q h2
  have var := (pe_var (pos := p) hN hv hd1 hd2).run pins s σ H (fun v G => v = .ref a ∧ G = H) I ⟨.ref a, h1, rfl, rfl⟩
  refine wpAny_Call_Name_kw (thn var ?_)
  rintro u s1 ⟨v, G, I1, r1, rfl, rfl⟩
  cases r1
  refine PySem.W.callWith_K (h₀ := X.base) I.ok.mod.kin hk (thn (ha.run pos pins s1 σ _ _ I1 h3) ?_) he hpl
  rintro us s2 ⟨vs, G2, I2, r2, q2⟩
  exact ⟨I2.kIn, run_fnS F hr hb (passAt tk σ) I2 r2 q2⟩
theorem je_callV {K : PySem.W.Frag} {i : Nat} {T : Addr → Option (Nat × (List Cell → CR))} {ta : TA} (ha : JA K xc W ta ma) : JE K xc W (tCallV K xc W i T ta) (mCallV i T ma) := by
  intro S H σ ρ Q R h
  unfold mCallV at h
  split at h
  · rename_i a q
    obtain ⟨u, k1, k2⟩ := R.cell i _ q
    have eu := den_ref k2
    subst eu
    split at h
    · rename_i pq ht
      exact ⟨a, pq, k1, ht, je_call ha S H σ ρ Q R h⟩
    · exact h.elim
  · exact h.elim
theorem r_callV {i : Nat} {T : Addr → Option (Nat × (List Cell → CR))} (hT : ∀ a q, T a = some q → Df X.prog X.w X.K X.mg X.base xc k a q.1 q.2) (hr : Room k X.A) (tk : Takes X W) (hN : X.N[i]? = some x) (hv : Vis X.env.scope x) (ha : MA X xc W (e :: es) ma)
    (hd1 : (x == ("__debug__" : Str)) = false := by decide) (hd2 : (x == ("__classdict__" : Str)) = false := by decide)
    (he : starEach (e :: es) X.env = (false, eval e X.env) :: starEach es X.env := by rfl) (hpl : (backTo pos (starEach es X.env)).any (·.1) = false := by rfl) :
    ME X xc W (.Call (.Name x p) (e :: es) [] pos) (mCallV i T ma) := mkE (pe_callV hT hr tk hN hv ha hd1 hd2 he hpl) (je_callV ja_cA)

/-! ### raise Malformed(..) -/
def mRaiseM (ma : Rho → R (List EV)) (ρ : Rho) : Out := (ma ρ).out fun evs ρ1 => if szOk evs.length then .exn .mal ρ1 else .stuck
theorem js_raiseM {K : PySem.W.Frag} {ta : TA} (ha : JA K xc W ta ma) : JS K xc W (fun _ σ H => (fun σ H (Q : XK) => ta σ H fun vs H1 => vs.length ≤ sizeLine ∧ Q (.ref xc.mal) none H1) σ H fun cls d H' => W cls d σ H') (mRaiseM ma) := by
  intro S H σ ρ D R h
  refine ha S H σ ρ _ R (ROk.mono (SPost.out h) (fun evs ρ1 h1 => ?_) fun _ _ z => z)
  intro S1 H1 vs s1 R1 k
  by_cases c : szOk evs.length = true
  · rw [if_pos c] at h1
    exact ⟨by rw [evsOk_len k]; exact Nat.le_of_lt (szOk.le c), h1 S1 H1 σ _ _ s1 R1 ⟨rfl, rfl⟩⟩
  · rw [if_neg c] at h1; exact h1.elim
/-- the class of errors without an own __init__ -/
structure MalC (X : Cx) (C : Addr) : Prop where
  ex : ∃ (bmB : List Value) (B newId initId : String), ExcBaseFacts B newId initId bmB ∧ PySem.W.excIn X.K C bmB newId = true
  mg : X.mg "Malformed" = some (.ref C)
  kp : PySem.W.keepIn X.K (.ref C) = true
  rs : Raises X (.ref C)
theorem s_raiseM {rp : Pos} (hc : X.calm = true) (tk : Takes X W) (M : MalC X xc.mal) (hg : Gl X "Malformed") (ha : MA X xc W (e :: es) ma)
    (he : starEach (e :: es) X.env = (false, eval e X.env) :: starEach es X.env := by rfl) (hpl : (backTo pos (starEach es X.env)).any (·.1) = false := by rfl) :
    MS X xc W (.Raise (some (.Call (.Name "Malformed" p) (e :: es) [] pos)) none rp) (mRaiseM ma) := by
  obtain ⟨bmB, B, ni, ii, F, q⟩ := M.ex
  exact mkS (ps_raise hc tk (pmk_ownA F q M.mg M.kp M.rs hg ha (by decide) he hpl)) (js_raiseM ja_cA)
/-! f'no {what}' -/
def mFs2 (c : Str) (m : Rho → R EV) (ρ : Rho) : R EV := (m ρ).bind fun ev ρ1 => match ev with
  | .d (.str y) => if decide (y.length ≤ 1000) then .ok (.d (.str (Str.empty ++ c ++ y))) ρ1 else .stuck
  | _ => .stuck
theorem je_fs2 {K : PySem.W.Frag} {c : Str} {t : TE} {m : Rho → R EV} (hc : c.length ≤ 1000) (ha : JE K xc W t m) : JE K xc W (fun σ H Q => tJs [tC (.str c), tFmt t] Str.empty σ H fun out H1 => Q (.str out) H1) (mFs2 c m) := by
  intro S H σ ρ Q R h
  have z0 : (Str.empty ++ c).length = c.length := by rw [Str.length_append]; exact Nat.zero_add _
  refine ⟨c, rfl, by rw [z0, sizeLine_eq]; omega, ?_⟩
  refine ha S H σ ρ _ R (ROk.mono (ROk.bind h) (fun ev ρ1 h1 => ?_) fun _ _ z => z)
  intro S1 H1 x s1 R1 e1
  split at h1
  · rename_i y
    have ex := den_str (show Den K S1 (.str y) x from e1)
    by_cases cy : y.length ≤ 1000
    · rw [if_pos (decide_eq_true cy)] at h1
      have z1 : (Str.empty ++ c ++ y).length = c.length + y.length := by rw [Str.length_append, z0]
      refine .inl ⟨y, ex, by rw [sizeLine_eq]; omega, y, rfl, by rw [z1, sizeLine_eq]; omega, ?_⟩
      exact h1 S1 H1 _ s1 R1 (show Den K S1 (.str _) _ from of_str)
    · rw [if_neg (by simpa using cy)] at h1; exact h1.elim
  · exact h1.elim
theorem r_fs2 {c : Str} {j : Nat} {p1 p2 p3 : Pos} {m : Rho → R EV} (hc : c.length ≤ 1000) (ha : ME X xc W e m) : ME X xc W (.JoinedStr [.Constant (.str c) j p1, .FormattedValue e (-1) none p2] p3) (mFs2 c m) :=
  mkE (pe_joined (.cons pe_str (.cons (pe_fmt ha) .nil))) (je_fs2 hc je_cE)

/-! ### try: .. except Malformed: .. -/
structure XF (K : PySem.W.Frag) (xc : XC) : Prop where
  mm : PySem.W.exmOne K (.ref xc.mal) (.ref xc.mal) = some true
def noExn : Out → Out
  | .exn _ _ => .stuck
  | o => o
def mTryM (b s1 : Rho → Out) (ρ : Rho) : Out := match b ρ with
  | .exn .mal ρ1 => noExn (s1 ρ1)
  | .exn _ _ => .stuck
  | o => o
theorem js_tryM {K : PySem.W.Frag} {b s1 : Rho → Out} {l : List Cls} {Wo : WX} (xf : XF K xc) : JS K xc W (fun D σ H => cS K xc (wB K Wo D ((.ref xc.mal, none, fun _ _ _ => cS K xc WF s1) :: l)) b D σ H) (mTryM b s1) := by
  intro S H σ ρ D R h
  refine ⟨S, ρ, R, ?_⟩
  unfold mTryM at h
  cases q : b ρ with
  | nx ρ1 => rw [q] at h; exact h
  | rt e ρ1 => rw [q] at h; exact h
  | bk ρ1 => rw [q] at h; exact h
  | ct ρ1 => rw [q] at h; exact h
  | stuck => rw [q] at h; exact h
  | exn x ρ1 =>
    cases x with
    | refd d => rw [q] at h; exact h.elim
    | nt d => rw [q] at h; exact h.elim
    | mal =>
      rw [q] at h
      intro S' H' σ' c dx st R' xo
      obtain ⟨rfl, rfl⟩ := xo
      refine ⟨true, xf.mm, fun _ a na => ⟨S', ρ1, R', ?_⟩, fun z => nomatch z⟩
      have h2 := h.step st
      cases q2 : s1 ρ1 with
      | nx ρ2 => simp only [q2, noExn] at h2; exact h2
      | rt e ρ2 => simp only [q2, noExn] at h2; exact h2
      | bk ρ2 => simp only [q2, noExn] at h2; exact h2
      | ct ρ2 => simp only [q2, noExn] at h2; exact h2
      | exn x ρ2 => simp only [q2, noExn] at h2; exact h2.elim
      | stuck => simp only [q2, noExn] at h2; exact h2
theorem s_tryM {b s1 : Rho → Out} {body su : List Stmt} {b1 : Stmt} {np hp tp : Pos} {hds : List ExceptHandler} {l : List Cls} (xf : XF X.K xc) (hs : X.stack = X.env :: X.outer) (hf : X.env.frame = some X.env.locals) (hN : X.N.Nodup)
    (hc : Names X "Malformed" (.ref xc.mal)) (hb : ∀ (W' : WX) (pn : List (Addr × Obj)) (xe : Value → Shared → Prop), Takes (X.tr pn xe) W' → PassesOwn (model X.prog X.w) X.A X.env xe → MSs (X.tr pn xe) xc W' body b)
    (hsu : ∀ (a : Addr) (oe : Obj) (pn : List (Addr × Obj)), MSs (X.suite a ((a, oe) :: pn)) xc WF (b1 :: su) s1) (hr : HdsB X hds l) :
    MS X xc W (.Try body (.ExceptHandler (some (.Name "Malformed" np)) none (b1 :: su) hp :: hds) [] [] tp) (mTryM b s1) :=
  mkS (ps_tryB (Wo := fun _ _ _ _ => False) (l := (.ref xc.mal, none, fun _ _ _ => cS X.K xc WF s1) :: l) (tb := fun W' => cS X.K xc W' b) hs hf hN takes0 hb (.plain hc (fun a oe cls d pn _ _ => hsu a oe pn) hr)) (js_tryM xf)
/-- a clause that is never reached -/
theorem hds_never {x n : Str} {i : Nat} {c : Value} {b1 : Stmt} {su : List Stmt} {np hp : Pos} (hc : Names X x c) (hi : X.N[i]? = some n) (hln : X.env.kindOf n = some .local) :
    HdsB X [.ExceptHandler (some (.Name x np)) (some n) (b1 :: su) hp] [(c, some i, fun _ _ _ => tNever)] := .named hc hi hln (fun _ _ _ _ _ _ _ => pss_never) .nil
end
end Mi

set_option Elab.async false
set_option linter.all false
set_option autoImplicit false
namespace Mi
open PySem L2
theorem Df.mono {P : Program} {w : World} {K : PySem.W.Frag} {mg : Str → Option Value} {base : Heap} {xc : XC} {j k : Nat} {a : Addr} {n : Nat} {f : List Cell → CR} (D : Df P w K mg base xc j a n f) (h : j ≤ k) : Df P w K mg base xc k a n f :=
  let ⟨⟨fd, ps, h1, h2, h3⟩, h4⟩ := D
  ⟨⟨fd, ps, h1, h2.mono h, h3⟩, h4⟩
/-- nothing leaves: a promise for callers that let nothing out -/
theorem fn_cx0 {P : Program} {w : World} {K : PySem.W.Frag} {mg : Str → Option Value} {base : Heap} {k : Nat} {f : Addr} {fd : FuncData} {ps : List Str} {sp sp' : Sp} (F : FnOk P w K mg base (L2.CX P w) k f fd ps sp) (h : ∀ vs H Q E, sp' vs H Q E → sp vs H Q E0) :
    FnOk P w K mg base CX0 k f fd ps sp' := by
  refine ⟨fun vs H Q E q => F.len _ _ _ _ (h _ _ _ _ q), fun A outer s H args us vs Q E hr he hb hv hs => ?_⟩
  refine codeAny_mono (F.run A outer s H args us vs Q E0 hr he hb hv (h _ _ _ _ hs)) fun r s' hq => ?_
  cases r with
  | error e =>
    obtain ⟨_, _, _, _, _, _, _, _, _, _, _, _, z⟩ := hq
    exact z.elim
  | ok fl =>
    cases fl with
    | ret u => exact hq
    | next => exact hq.elim
    | brk => exact hq.elim
    | cont => exact hq.elim
end Mi
namespace Mi
open PySem L2
/-- a law's mirror says True: so does the law -/
theorem law_true {K : PySem.W.Frag} {xc : XC} {f : List Cell → CR} {a : Addr} {ns : List Int} {H : Hp} {Q : VK} {outs : List Cell} (h : f [.val (.lst (ns.map D.int))] = .ok (.d (.bl true)) outs) (hT : Tabs K H) (hS : SqL K H a (ns.map V.int)) (q : ∀ H', Tabs K H' → Q (.bl true) H') :
    FSp K xc 1 f [.ref a] H Q E0 := by
  refine ⟨rfl, H, [.val (.lst (ns.map D.int))], ⟨Same.refl _, rfl, fun i c e => ?_, fun i j b b' o o' e => ?_, hT⟩, fun i o e => ?_, ?_⟩
  · cases i with
    | zero =>
      cases (show some (Cell.val (.lst (ns.map D.int))) = some c from e)
      exact ⟨.ref a, rfl, of_lst hS DenL.of_ints⟩
    | succ i => simp at e
  · cases i with
    | zero => cases (show some (Cell.val (.lst (ns.map D.int))) = _ from e)
    | succ i => simp at e
  · cases i with
    | zero => cases (show some (Cell.val (.lst (ns.map D.int))) = _ from e)
    | succ i => simp at e
  · rw [h]
    intro S' H' v _ R' ev
    rw [den_bl (show Den K S' (.bl true) v from ev)]
    exact q H' (R'.tab.same R'.sub)
end Mi

set_option Elab.async false
set_option linter.all false
set_option maxRecDepth 100000
set_option autoImplicit false
set_option maxHeartbeats 2000000
namespace Mi
open PySem PySem.Spec PyProof.Rows L2
theorem tabA_some {K : PySem.W.Frag} {a P : Addr} (h : tabA K a = some P) : ∃ o fd c oc vs, K.lookup a = some o ∧ o.data = .func fd ∧ fd.code = .ref c ∧ K.lookup c = some oc ∧ oc.data = .fields vs ∧ vs[11]? = some (.ref P) ∧ fd.name = fd.qualname := by
  unfold tabA at h
  split at h
  · rename_i o e1
    split at h
    · rename_i fd e2
      split at h
      · rename_i c e3
        split at h
        · rename_i oc e4
          split at h
          · rename_i vs e5
            split at h
            · rename_i P' e6
              split at h
              · rename_i e7
                cases h
                exact ⟨o, fd, c, oc, vs, e1, e2, e3, e4, e5, e6, e7⟩
              · cases h
            · cases h
          · cases h
        · cases h
      · cases h
    · cases h
  · cases h
theorem lookup_mem {K : PySem.W.Frag} {a : Addr} {o : Obj} (h : K.lookup a = some o) : a ∈ K.map (·.1) := by
  induction K with
  | nil => cases h
  | cons p r ih =>
    obtain ⟨b, x⟩ := p
    rw [List.lookup_cons] at h
    cases e : a == b with
    | true =>
      have : a = b := by simpa using e
      rw [this]; exact List.mem_cons_self
    | false =>
      rw [e] at h
      exact List.mem_cons_of_mem _ (ih h)
theorem tabsOf_mem {K : PySem.W.Frag} {a P : Addr} (h : tabA K a = some P) : P ∈ tabsOf K := by
  obtain ⟨o, _, _, _, _, e, _⟩ := tabA_some h
  exact List.mem_filterMap.mpr ⟨a, lookup_mem e, h⟩
theorem of_tabsOf {K : PySem.W.Frag} {P : Addr} (h : P ∈ tabsOf K) : ∃ a, tabA K a = some P := by
  obtain ⟨a, _, e⟩ := List.mem_filterMap.mp h
  exact ⟨a, e⟩
/-- the defs of the text, as the written part has them -/
def funsIn (q : Program) (K : PySem.W.Frag) : Bool := ((K.map (·.1)).all fun a => match (K.lookup a : Option Obj) with
  | some o => match o.data with
    | .func fd => if fd.name = fd.qualname then (match PySem.W.nsIn K mainGlobals fd.name with | some (some (Value.ref b)) => decide (b = a) | _ => false) && ((recsOf q).any fun d => decide (d.name = fd.name)) && (tabA K a).isSome else true
    | _ => true
  | none => true) && ((tabsOf K).all fun P => (K.lookup P).isNone)
theorem funsIn_fn {q : Program} {K : PySem.W.Frag} (h : funsIn q K = true) {f : Addr} {o : Obj} {fd : FuncData} (e1 : K.lookup f = some o) (e2 : o.data = .func fd) (e3 : fd.name = fd.qualname) :
    PySem.W.nsIn K mainGlobals fd.name = some (some (.ref f)) ∧ (∃ d ∈ recsOf q, d.name = fd.name) ∧ ∃ P, tabA K f = some P := by
  unfold funsIn at h
  have h1 := List.all_eq_true.mp (Bool.and_eq_true_iff.mp h).1 f (lookup_mem e1)
  simp only [e1, e2, if_pos e3, Bool.and_eq_true, List.any_eq_true, decide_eq_true_eq] at h1
  obtain ⟨⟨h2, h3⟩, h4⟩ := h1
  refine ⟨?_, h3, Option.isSome_iff_exists.mp h4⟩
  split at h2
  · rename_i b e
    rw [e, of_decide_eq_true h2]
  · cases h2
theorem funsIn_no {q : Program} {K : PySem.W.Frag} (h : funsIn q K = true) {P : Addr} (m : P ∈ tabsOf K) : K.lookup P = none := by
  have h1 := List.all_eq_true.mp (Bool.and_eq_true_iff.mp h).2 P m
  cases e : K.lookup P with
  | none => rfl
  | some o => rw [e] at h1; cases h1
theorem tab_obj {Pg : Program} {w : World} {H : Hp} {h : Heap} {P : Addr} (t : tabOk P h) : ObjOk Pg w H h P (tabH P) :=
  ⟨t, let ⟨_, e, _⟩ := t; ⟨_, e⟩, fun _ _ ⟨ps, e, r⟩ k => ⟨ps, k _ e, r⟩⟩

/-- what the defs' code objects have -/
def TabFns (K : PySem.W.Frag) (mg : Str → Option Value) (base : Heap) : Prop := ∀ (f : Addr) (o : Obj) (fd : FuncData), K.lookup f = some o → o.data = .func fd → fd.name = fd.qualname → ∃ c P, fd.code = .ref c ∧ P ∈ tabsOf K ∧ GxR.TabB base mg c P
open LamX in
/-- the law called, the tables known by what stays true of them -/
theorem law_callM {Pg : Program} {w : World} {K : PySem.W.Frag} {mg mb : Str → Option Value} {CX : CXT} {k : Nat} {fa a : Addr} {fd : FuncData} {x : Str} {sp : Sp} {s₁ : Shared} {vs : List Value} {ns : List Int}
    (KX : K.In s₁.heap) (hns : s₁.heap.Ns mainGlobals mg) (hb : s₁.heap.Ns builtinsNs mb) (hbb : ∀ x : Str, x ≠ "__name__" → mb x = bootBuiltins x) (hlim : s₁.heap.NoLimit) (hg : s₁.gens = #[])
    (hT : ∀ P ∈ tabsOf K, s₁.heap.get? P = some { cls := .none, data := .fields #[] }) (nT : ∀ P ∈ tabsOf K, K.lookup P = none)
    (C : ∀ (f : Addr) (o : Obj) (fd : FuncData), K.lookup f = some o → o.data = .func fd → fd.name = fd.qualname → ∃ c P, fd.code = .ref c ∧ P ∈ tabsOf K ∧ PySem.W.CodeHd s₁.heap c P) (CT : ∀ P ∈ tabsOf K, ∃ c, PySem.W.CodeHd s₁.heap c P)
    (hbm : ∃ (bm : Addr) (ob : Obj), mg "__builtins__" = some (.ref bm) ∧ bm ≠ builtinsNs ∧ s₁.heap.get? bm = some ob ∧ ob.cls = .type "module" ∧ ob.dict = some builtinsNs ∧ ob.data = .plain)
    (ha : s₁.heap.get? a = some { cls := .type "list", data := .seq vs.toArray }) (hi : IntsAre vs ns) (hl : ns.length ≤ sizeLine) (hr : Room k callerA)
    (F : ∀ base : Heap, K.In base → base.Ns mainGlobals mg → TabFns K mg base → FnOk Pg w K mg base CX k fa fd [x] sp) (hbind : ∀ (s : Shared) (u : Value), BindsTo s fd ⟨[u], []⟩ [(x, u)])
    (hsp : ∀ H : Hp, Tabs K H → SqL K H a (ns.map V.int) → sp [.ref a] H (fun v H' => v = .bl true ∧ Tabs K H') fun _ _ _ => False)
    (hCX : ∀ H e s', CX [] H s₁ (fun _ _ _ => False) e s' → False) :
    codeAny (model Pg w) callerA (.call (.ref fa) ⟨[.ref a], []⟩) (fun r s' => r = .ok (.ret (.bool true)) ∧ OldK s₁.heap s'.heap ∧ s'.os = s₁.os ∧ AllBare s'.gens) s₁ := by
  have rv := vals_ints hi
  have lenV := hi.length
  have aT : a ∉ tabsOf K := fun z => by
    have q := hT a z
    rw [ha] at q
    have z' : Data.seq vs.toArray _ = Data.fields #[] := congrArg Obj.data (Option.some.inj q)
    cases z'
  have core : ∀ H : Hp, Tabs K H → (∀ b, H b = none ∨ b ∈ tabsOf K ∨ ∃ o xs, H b = some (.frz o (.lst xs))) → SqL K H a (ns.map V.int) → HOk Pg w H s₁.heap → (∀ b, H b ≠ none → b = a ∨ b ∈ tabsOf K) → (H a ≠ none → K.lookup a = none) →
      codeAny (model Pg w) callerA (.call (.ref fa) ⟨[.ref a], []⟩) (fun r s' => r = .ok (.ret (.bool true)) ∧ OldK s₁.heap s'.heap ∧ s'.os = s₁.os ∧ AllBare s'.gens) s₁ := by
    intro H hH hO hS hok hA hK
    have base_of : ∀ {b : Addr} {o : Obj}, s₁.heap.get? b = some o → H b = none → (hidT s₁.heap H).get? b = some o := fun e n => hidT_get e n
    have noD : ∀ {b : Addr} {o : Obj}, s₁.heap.get? b = some o → (∀ vs n, o.data ≠ .seq vs n) → o.data ≠ .fields #[] → H b = none := fun {b o} e h1 h2 => by
      cases q : H b with
      | none => rfl
      | some u =>
        rcases hA b (by rw [q]; simp) with e' | e'
        · rw [e', ha] at e
          cases e
          exact (h1 _ _ rfl).elim
        · rw [hT b e'] at e
          cases e
          exact (h2 rfl).elim
    have noA : ∀ {b : Addr} {o : Obj} {es : Array DictEntry} {ep : Nat}, s₁.heap.get? b = some o → o.data = .dict es ep → H b = none := fun {b o es ep} e d => by
      refine noD e (fun vs n z => ?_) fun z => ?_
      · rw [d] at z
        cases z
      · rw [d] at z
        cases z
    have nsK : ∀ {b : Addr} {m : Str → Option Value}, s₁.heap.Ns b m → (hidT s₁.heap H).Ns b m := fun {b m} ⟨o, es, ep, e, d, r⟩ => ⟨o, es, ep, base_of e (noA e d), d, r⟩
    have hKb : K.In (hidT s₁.heap H) := fun b o e => base_of (KX b o e) (by
      cases q : H b with
      | none => rfl
      | some u =>
        rcases hA b (by rw [q]; simp) with e' | e'
        · rw [e'] at e q
          rw [hK (by rw [q]; simp)] at e
          cases e
        · rw [nT b e'] at e
          cases e)
    have hM : L2.Mod K mg (hidT s₁.heap H) := ⟨hKb, nsK hns, ⟨mb, nsK hb, hbb⟩, let ⟨mc, h1, h2⟩ := hlim; ⟨mc, nsK h1, h2⟩⟩
    have TB : TabFns K mg (hidT s₁.heap H) := fun f o fd e1 e2 e3 => by
      obtain ⟨c, P, e4, hP, hC⟩ := C f o fd e1 e2 e3
      have hTp := hT P hP
      refine ⟨c, P, e4, hP, ?_, ?_, fun z => ?_⟩
      · obtain ⟨o, us, file, tf, flags, tg, inF, text, tt, e1, r1, r2, r3, r4, r5, r6, r7, r8, hne⟩ := hC
        refine ⟨o, us, file, tf, flags, tg, inF, text, tt, base_of e1 (noD e1 (fun vs n z => ?_) fun z => ?_), r1, r2, r3, r4, r5, r6, r7, r8, hne⟩
        · rw [r2] at z
          cases z
        · rw [r2] at z
          cases z
          simp at r3
      · obtain ⟨bm, ob, b1, b2, b3, b4, b5, b6⟩ := hbm
        have nG : bm ≠ mainGlobals := fun q => by
          obtain ⟨o, es, ep, e, hd, _⟩ := hns
          rw [q, e] at b3
          cases b3
          rw [hd] at b6
          cases b6
        have nP : bm ≠ P := fun q => by
          rw [q, hTp] at b3
          cases b3
          cases b6
        refine ⟨bm, ob, b1, b2, nG, nP, base_of b3 (noD b3 (fun vs n z => ?_) fun z => ?_), b4, b5, b6⟩
        · rw [b6] at z
          cases z
        · rw [b6] at z
          cases z
      · obtain ⟨o, es, ep, e, hd, _⟩ := hns
        rw [z, hTp] at e
        cases e
        cases hd
    have e0 : Env0 Pg w K mg (hidT s₁.heap H) callerA [] s₁ H := ⟨rfl, hM, fun b o e => of_hidT e, Nat.le_of_eq (hidT_size _ _), trivial, fun b hb => absurd (show b ∈ ([] : List Addr) from hb) (by simp), hok, .of_eq hg⟩
    refine codeAny_mono ((F _ hKb (nsK hns) TB).run callerA [] s₁ H ⟨[.ref a], []⟩ [.ref a] [.ref a] _ _ hr e0 (hbind s₁ (.ref a)) (.cons rfl .nil) (hsp H hH hS)) fun r s' h => ?_
    cases r with
    | error e => exact (hCX H e s' h).elim
    | ok fl =>
      cases fl with
      | next => exact False.elim h
      | brk => exact False.elim h
      | cont => exact False.elim h
      | ret u =>
        obtain ⟨v, H', os, bare, un, hok', r', q, hH'⟩ := h
        subst q
        obtain rfl : u = Value.bool true := r'
        have key : ∀ b o, b ∉ tabsOf K → s₁.heap.get? b = some o → s'.heap.get? b = some o := fun b o nb e => by
          cases q : H b with
          | none => exact un.keep b o e q (by intro z; exact absurd (show b ∈ ([] : List Addr) from z) (by simp)) (by simp)
          | some u =>
            rcases hO b with z | z | ⟨ob, xs, z⟩
            · rw [q] at z; cases z
            · exact absurd z nb
            · have z2 := un.frzs b ob _ z
              obtain ⟨e1, _⟩ := hok b _ z
              obtain ⟨e2, _⟩ := hok' b _ z2
              rw [e] at e1; cases e1
              exact e2
        have grown : ∀ P ∈ tabsOf K, ∃ more : Array Value, s'.heap.get? P = some { cls := .none, data := .fields more } := fun P hp => by
          obtain ⟨⟨more, z, _⟩, _⟩ := hok' P _ (hH' P hp)
          exact ⟨_, z⟩
        refine ⟨rfl, ⟨fun b o e => ?_, fun b o e => ?_⟩, os, bare⟩
        · by_cases hb : b ∈ tabsOf K
          · obtain ⟨more, hm⟩ := grown b hb
            obtain ⟨c, hc⟩ := CT b hb
            rw [hT b hb] at e
            cases e
            exact .inr (.inl ⟨(hc.tab (hT b hb)).isCodeTable, rfl, #[], more, rfl, by rw [Array.empty_append]; exact hm⟩)
          · exact .inl (key b o hb e)
        · by_cases hb : b ∈ tabsOf K
          · obtain ⟨more, hm⟩ := grown b hb
            exact ⟨_, hm⟩
          · exact ⟨o, key b o hb e⟩
  have okT : ∀ P ∈ tabsOf K, tabOk P s₁.heap := fun P hP => ⟨#[], hT P hP, trivial⟩
  cases hk : K.lookup a with
  | some o =>
    have e := KX a o hk
    rw [ha] at e
    cases e
    refine core (fun b => if b ∈ tabsOf K then some (tabH b) else none) (fun p hp => if_pos hp) (fun b => ?_) (.inr ⟨_, vs.toArray, _, hk, rfl, rfl, rfl, by rw [List.size_toArray, lenV]; exact hl, by simpa using rv⟩) (fun b u z => ?_) (fun b z => ?_) fun z => absurd (show (if a ∈ tabsOf K then some (tabH a) else none) = none from if_neg aT) z
    · by_cases hb : b ∈ tabsOf K
      · exact .inr (.inl hb)
      · exact .inl (if_neg hb)
    · by_cases hb : b ∈ tabsOf K
      · have z' := (if_pos hb).symm.trans z
        cases z'
        exact tab_obj (okT b hb)
      · have z' := (if_neg hb).symm.trans z
        cases z'
    · by_cases hb : b ∈ tabsOf K
      · exact .inr hb
      · exact absurd (if_neg hb) z
  | none =>
    refine core (fun b => if b = a then some (.frz { cls := .type "list", data := .seq vs.toArray } (.lst (ns.map V.int))) else if b ∈ tabsOf K then some (tabH b) else none) (fun p hp => (if_neg (show ¬ p = a from fun z => aT (by rw [← z]; exact hp))).trans (if_pos hp)) (fun b => ?_)
      (.inl (.inr ⟨{ cls := .type "list", data := .seq vs.toArray }, if_pos rfl⟩)) (fun b u z => ?_) (fun b z => ?_) fun _ => hk
    · by_cases hb : b = a
      · exact .inr (.inr ⟨_, _, if_pos hb⟩)
      · by_cases hb2 : b ∈ tabsOf K
        · exact .inr (.inl hb2)
        · exact .inl ((if_neg hb).trans (if_neg hb2))
    · by_cases hb : b = a
      · have z' := (if_pos hb).symm.trans z
        cases z'
        rw [hb]
        exact ⟨ha, by rw [List.length_map]; exact hl, vs, _, rv, ha⟩
      · have z1 := (if_neg hb).symm.trans z
        by_cases hb2 : b ∈ tabsOf K
        · have z' := (if_pos hb2).symm.trans z1
          cases z'
          exact tab_obj (okT b hb2)
        · have z' := (if_neg hb2).symm.trans z1
          cases z'
    · by_cases hb : b = a
      · exact .inl hb
      · by_cases hb2 : b ∈ tabsOf K
        · exact .inr hb2
        · exact absurd ((if_neg hb).trans (if_neg hb2)) z
/-- the goal that k_head leaves -/
theorem walk_ofM {l : PySem.W.OpenLaw} {n k : Nat} {q : Program} {loose : List Str} {XP : (Str → Option Value) → Heap → Prop} {YP : World → Heap → Prop} {d : DefRec} {K : Params → PySem.W.Frag} {CX : World → CXT} {x : Str}
    (hn : l.most = some n) (hn2 : n ≤ sizeLine) (hdf : d.params.defaults = []) (hr : Room k callerA) (hY : ∀ (w : World) (h : Heap), YP w h → (K w.params).In h) (hfn : ∀ p, funsIn q (K p) = true)
    (F : ∀ (w : World) (mg : Str → Option Value) (fa : Addr) (h : Heap), (K w.params).In h → h.Ns mainGlobals mg → mg d.name = some (.ref fa) →
      ∃ (fd : FuncData) (sp : Sp), (∀ (s : Shared) (u : Value), BindsTo s fd ⟨[u], []⟩ [(x, u)]) ∧
        (∀ (H : Hp) (a : Addr) (ns : List Int), ns.length ≤ n → (∀ z ∈ ns, Builtin.Int.intBits z ≤ 1048576) → Tabs (K w.params) H → SqL (K w.params) H a (ns.map V.int) → sp [.ref a] H (fun v H' => v = .bl true ∧ Tabs (K w.params) H') fun _ _ _ => False) ∧
        ∀ base : Heap, (K w.params).In base → base.Ns mainGlobals mg → TabFns (K w.params) mg base → FnOk l.prog w (K w.params) mg base (CX w) k fa fd [x] sp)
    (hCX : ∀ (w : World) (H : Hp) (s : Shared) (e : Value) (s' : Shared), CX w [] H s (fun _ _ _ => False) e s' → False) :
    PySem.W.WalkO q loose XP YP l.row.toRowW d [] (fun f vs => PySem.call f vs) := by
  refine Att.attach_callB hn hdf fun w s₀ s₁ mg mb fa o pm cd doc a vs ns G Y ho hd hcd hmg hobj hints hlen hbits hg => ?_
  have KX := hY w _ Y
  obtain ⟨fd, sp, hb, hsp, hF⟩ := F w mg fa _ KX G.T.g hmg
  have hq := hfn w.params
  have key : ∀ (f P : Addr), tabA (K w.params) f = some P → ∃ fd c, (∃ o, (K w.params).lookup f = some o ∧ o.data = .func fd) ∧ fd.code = .ref c ∧ PySem.W.CodeHd s₁.heap c P ∧ s₁.heap.get? P = some { cls := .none, data := .fields #[] } := fun f P hP => by
    obtain ⟨o1, fd1, c1, oc, vs1, e1, e2, e3, e4, e5, e6, e7⟩ := tabA_some hP
    obtain ⟨m1, ⟨d1, hd1, hn1⟩, _⟩ := funsIn_fn hq e1 e2 e7
    obtain ⟨a', o', fd', c', P', h1, h2, h3, h4, h5, h6⟩ := G.T.tab d1 hd1
    have m2 := PySem.W.mg_of KX G.T.g m1
    rw [hn1, m2] at h1
    cases h1
    have g1 := KX _ _ e1
    rw [g1] at h2
    cases h2
    rw [e2] at h3
    cases h3
    rw [e3] at h4
    cases h4
    have hCd := PySem.W.CodeHd.of h5 h6
    obtain ⟨⟨oc', vc, k1, _, k3, k4⟩, hP'⟩ := h6
    have g2 := KX _ _ e4
    rw [g2] at k1
    cases k1
    rw [e5] at k3
    cases k3
    rw [e6] at k4
    cases k4
    exact ⟨fd1, c1, ⟨o1, e1, e2⟩, e3, hCd, hP'⟩
  refine law_callM KX G.T.g G.T.b G.T.builtins G.T.nolimit hg (fun P hP => ?_) (fun P hP => funsIn_no hq hP) (fun f o fd1 e1 e2 e3 => ?_) (fun P hP => ?_) G.T.bmain hobj hints (Nat.le_trans hlen hn2) hr hF hb (fun H hH hS => hsp H a ns hlen hbits hH hS) fun H e s' => hCX w H s₁ e s'
  · obtain ⟨f, hf⟩ := of_tabsOf hP
    obtain ⟨_, _, _, _, _, z⟩ := key f P hf
    exact z
  · obtain ⟨_, _, P, hP⟩ := funsIn_fn hq e1 e2 e3
    obtain ⟨fd2, c, ⟨o2, z1, z2⟩, z3, z4, _⟩ := key f P hP
    rw [e1] at z1
    cases z1
    rw [e2] at z2
    cases z2
    exact ⟨c, P, z3, tabsOf_mem hP, z4⟩
  · obtain ⟨f, hf⟩ := of_tabsOf hP
    obtain ⟨_, c, _, _, z, _⟩ := key f P hf
    exact ⟨c, z⟩
end Mi

set_option Elab.async false
set_option linter.all false
set_option maxRecDepth 100000
set_option autoImplicit false
set_option maxHeartbeats 2000000
namespace Mi
open PySem PySem.Spec PyProof.Rows L2 GenW
/-! ### a generator expression's own context -/
abbrev Cx.gen (X : Cx) (s : Shared) (H : Hp) (cenv : PySem.Env) (fp : List Addr) : Cx := { X with A := X.A.in1.in1.deeper cenv, s_0 := s, H_0 := H, env := cenv, outer := X.stack, stack := cenv :: X.stack, ex := fp, fn := fun _ => false, pn := [], xe := fun _ _ => False }
theorem over_gen {A : Around} {elt tg iter : Expr} {scope : Scope} {pos : Pos} {it acc : Value} {env : PySem.Env} : A.over (.compLoop (.GeneratorExp elt [⟨tg, iter, [], 0⟩] scope pos) 0 it acc env) [] = A.deeper env := by
  first
    | rfl
    | (obtain ⟨hd, d, fr, gs, u⟩ := A; simp [Around.over, Around.deeper, marksOver, frameCount, unitsOf, envsOf, guardsOf, pushEnvs, pushGuards, Code.envs, Code.env?, Code.isFrame, Code.guards, Code.isGuard, Code.weight, Code.frames, Code.isCreation, Code.isCaller, Code.cUnits])
section
variable {X : Cx} {pins : List (Addr × Obj)} {σ : L2.St} {H : Hp} {s s' : Shared}
/-- the same heap: the same invariant -/
theorem inv_heap (I : Inv X pins σ H s) (h1 : s'.heap = s.heap) (h2 : s'.os = s.os) (h3 : AllBare s'.gens) : Inv X pins σ H s' :=
  ⟨I.ok, h2.trans I.os, h3, h1 ▸ I.base, h1 ▸ I.loc, h1 ▸ I.cell, I.free, I.freeC, h1 ▸ I.pin, h1 ▸ I.hok, I.len⟩
/-- a def's table has grown -/
theorem inv_ext {P : Addr} {h' : Heap} {t' : Nat} (I : Inv X pins σ H s) (hP : H P = some (tabH P)) (k : ∀ b o, b ≠ P → s.heap.get? b = some o → h'.get? b = some o) (ht : tabOk P h') : Inv X pins σ H { s with heap := h', toks := t' } := by
  have J := I.write (x := P) (e := P) (o := tabH P) (t' := t') (by rw [hP]; trivial) (.inl rfl) k (let ⟨_, e, _⟩ := ht; ⟨_, e⟩) (tab_obj ht)
  have e : upd H P (tabH P) = H := by
    funext b
    by_cases hb : b = P
    · rw [hb, upd_same, hP]
    · rw [upd_ne hb]
  rw [e] at J
  exact J
theorem gen_start {scope : Scope} {own : List (Str × Nat)} {fp : List Addr} {code : Value} {a : Addr} {ob : Obj} {h5 : Heap} {tk : Nat} {gs : Array GenState} {m0 : Str → Option Value} (I : Inv X pins σ H s) (ok : BlkOk X.N X.env.scope scope own) (hN : X.N.Nodup) (nc : ∀ y ∈ scope.names, y.2 ≠ .cell)
    (hfp : ∀ b ∈ fp, FpOk X pins H b ∧ b < s.heap.objs.size) (hn : h5.Ns s.heap.objs.size m0) (kp : ∀ b o, s.heap.get? b = some o → h5.get? b = some o) (ha : h5.get? a = some ob) (hob : ∀ v, ob.data ≠ .cell v) (hC : s.heap.objs.size < a) (hg : AllBare gs) :
    Inv (Cx.gen X s H (genEnv scope (cloFrom X.env.cells scope.names []) s.heap.objs.size code builtinsNs X.env) fp) [(a, ob)] (wipe σ (own.map (·.2))) H { s with gens := gs, toks := tk, heap := h5 } := by
  have hfree : ∀ y ∈ scope.names, y.2 = .free → ∃ c, X.env.cells.lookup y.1 = some c := fun y hy e => by
    rcases ok.free y hy e with k | k
    · exact I.ok.has _ (.inl k)
    · exact I.ok.has _ (.inr k)
  generalize hcenv : genEnv scope (cloFrom X.env.cells scope.names []) s.heap.objs.size code builtinsNs X.env = cenv
  have hL : cenv.locals = s.heap.objs.size := by rw [← hcenv]; rfl
  have hcl : cenv.cells = cloFrom X.env.cells scope.names [] := by rw [← hcenv]; rfl
  have hsc : cenv.scope = scope := by rw [← hcenv]; rfl
  have hfr : cenv.frame = some cenv.locals := by rw [← hcenv]; rfl
  have cm : ∀ {y c}, cenv.cells.lookup y = some c → X.env.cells.lookup y = some c ∧ c < s.heap.objs.size := fun {y c} e => by
    rw [hcl] at e
    rcases cloFrom_mem (PySem.mem_of_lookup e) with hm | ⟨h1, rfl⟩
    · cases hm
    · obtain ⟨c, hc⟩ := hfree _ h1 rfl
      rw [hc]
      obtain ⟨w, z⟩ := I.cell _ _ hc
      exact ⟨rfl, z.lt⟩
  have look : ∀ {y}, scope.names.lookup y = some .free → ∃ c, cenv.cells.lookup y = some c ∧ X.env.cells.lookup y = some c := fun {y} hl => by
    have hy : (y, NameKind.free) ∈ scope.names := PySem.mem_of_lookup hl
    obtain ⟨c', e'⟩ := mem_lookup (cloFrom_has (cells := X.env.cells) (acc := []) hy)
    rw [← hcl] at e'
    exact ⟨c', e', (cm e').1⟩
  have nocell : ∀ y, scope.names.lookup y ≠ some .cell := fun y e => nc _ (PySem.mem_of_lookup e) rfl
  have okB : (Cx.gen X s H cenv fp).Ok := by
    refine ⟨I.ok.mod, by show cenv.scope.kind = _; rw [hsc]; exact ok.kind, by show cenv.globals = _; rw [← hcenv]; exact I.ok.glob, by show cenv.builtins = _; rw [← hcenv]; rfl, by show s.heap.objs.size ≤ cenv.locals; rw [hL]; exact Nat.le_refl _,
      fun y z c e1 e2 => I.ok.inj y z c (cm e1).1 (cm e2).1, fun y hy => ?_, fun y c z e => (Bool.noConfusion z), fun hc => I.ok.hd hc, ?_, .inr ⟨rfl, hfr⟩, fun b hb => ⟨?_, fun y c e z => ?_⟩, I.bs, Nat.le_trans I.ok.bsz I.sz, fun b o e hb => ?_, fun b hb z => ?_, I.stack, I.stkFree⟩
    · have hy : cenv.scope.names.lookup y = some .cell ∨ cenv.scope.names.lookup y = some .free := hy
      rw [hsc] at hy
      rcases hy with hy | hy
      · exact (nocell y hy).elim
      · obtain ⟨c, h1, _⟩ := look hy
        exact ⟨c, h1⟩
    · show (X.A.frames.map (cenv :: ·)) = some (cenv :: X.stack)
      rw [I.ok.frames]; rfl
    · show b ≠ cenv.locals
      rw [hL]; exact Nat.ne_of_lt (hfp b hb).2
    · exact (hfp b hb).1.2.2.2.2.1 y c (cm e).1 z
    · rcases (hfp b hb).1.2.2.2.1 with z | z
      · exact I.ok.noex b o e z
      · exact absurd (Nat.lt_of_lt_of_le (Heap.lt_size e) (Nat.le_trans I.ok.bsz z)) (Nat.lt_irrefl _)
    · rcases List.mem_cons.mp (I.stkSub b z) with z | z
      · exact (hfp b hb).1.2.1 z
      · exact (hfp b hb).1.2.2.1 z
  refine ⟨okB, rfl, hg, Un.kept kp, ⟨m0, ?_, fun i y av e1 e2 e3 => ?_⟩, fun y c e => ?_, ?_, fun y c e => ?_, fun p hp => ?_, I.hok.kept kp, by rw [wipe_length]; exact I.len⟩
  · show Heap.Ns _ cenv.locals _
    rw [hL]; exact hn
  · obtain ⟨e2, hne⟩ := wipe_some e2
    have e3 : Vis cenv.scope y := e3
    rw [hsc] at e3
    have no : scope.names.lookup y ≠ some .local := fun hh => by
      rcases ok.own _ (PySem.mem_of_lookup hh) (.inl rfl) with e' | e'
      · obtain ⟨p, hp, hpy⟩ := List.mem_map.mp e'
        have e3 := ok.ix p hp
        have : p.1 = y := hpy
        rw [this] at e3
        exact hne (List.mem_map.mpr ⟨p, hp, nodup_ix hN e3 e1⟩)
      · exact e' (List.mem_of_getElem? e1)
    have hfr : scope.names.lookup y = some .free := by
      rcases e3 with e3 | e3 | e3
      · exact (no e3).elim
      · exact (nocell y e3).elim
      · exact e3
    obtain ⟨m, hn, hl⟩ := I.loc
    have hvis : Vis X.env.scope y := (ok.free _ (PySem.mem_of_lookup hfr) rfl).elim (fun k => .inr (.inl k)) (fun k => .inr (.inr k))
    obtain ⟨w, r, q⟩ := hl i y av e1 e2 hvis
    refine ⟨w, r, .inr ⟨.inr (by show cenv.scope.names.lookup y = _; rw [hsc]; exact hfr), ?_⟩⟩
    obtain ⟨c, h1, h2⟩ := look hfr
    rcases q with ⟨k, _⟩ | ⟨_, c', e', z⟩
    · have k : X.env.scope.names.lookup y = some .local := k
      rcases ok.free _ (PySem.mem_of_lookup hfr) rfl with k' | k' <;> rw [show X.env.scope.names.lookup y = _ from k'] at k <;> cases k
    · rw [h2] at e'; cases e'
      exact ⟨c, h1, z.keeps kp⟩
  · have e : cenv.cells.lookup y = some c := e
    obtain ⟨w, z⟩ := I.cell y c (cm e).1
    exact ⟨w, z.keeps kp⟩
  · show H cenv.locals = none
    rw [hL]; exact I.hok.fresh (Nat.le_refl _)
  · exact I.freeC y c (cm e).1
  · have hp : p ∈ [(a, ob)] := hp
    obtain rfl : p = (a, ob) := List.mem_singleton.mp hp
    refine ⟨ha, I.hok.fresh (Nat.le_of_lt hC), ?_, fun z => ?_, hob⟩
    · show a ≠ cenv.locals
      rw [hL]; exact Nat.ne_of_gt hC
    · rcases List.mem_cons.mp (I.stkSub a z) with z | z
      · have h1 := I.lt
        rw [← z] at h1
        exact absurd (Nat.lt_trans h1 hC) (Nat.lt_irrefl _)
      · exact I.nofs (Nat.le_of_lt hC) z
end

/-! ### all(e for t in xs) -/
/-- vs: the names of the generator expression; P: the def's table -/
def tAllG (P : Addr) (wi : TI) (g : TG) (te : TE) (vs : List Nat) : TE := fun σ H Q => wi σ H fun J H1 => H1 P = some (tabH P) ∧ ∃ W : Nat → Nat → Hp → Prop, (∃ m, W 0 m H1) ∧ ∀ i m H, W i m H →
  (J.stop i H ∧ Q (.bl true) H) ∨ (J.go i H ∧ ∃ Nx : Hp → Prop, (∀ H', Nx H' → ∃ m', m' < m ∧ W (i + 1) m' H') ∧ ∀ x H', J.yld i H x H' → g x (wipe σ vs) H' fun σ2 H2 => wipe σ2 vs = wipe σ vs ∧ te σ2 H2 fun y H4 => (y = .bl true ∧ Nx H4) ∨ (y = .bl false ∧ Q (.bl false) H4))
section
variable {X : Cx}
/-- the protocol: a bool; True: on it goes, nothing but bools being looked at in between -/
def GpY (Xg : Cx) (pn : List (Addr × Obj)) (Qf : Hp → Prop) : Protocol := fun _ _ v s kap => ∃ σ' H', Inv Xg pn σ' H' s ∧
  ((v = .bool true ∧ ∀ s'' : Shared, s''.heap = s.heap → s''.os = s.os → AllBare s''.gens → kap (.send .none) s'') ∨ (v = .bool false ∧ Qf H'))
def GpP (Xg : Cx) (pn : List (Addr × Obj)) (Qt : Hp → Prop) (s₁ : Shared) : Prop := ∃ σ' H', Inv Xg pn σ' H' s₁ ∧ Qt H'
theorem seg_all {s3 : Shared} {H3 : Hp} {cenv : PySem.Env} {fp : List Addr} {ap : Addr} {ob : Obj} {elt tg iter : Expr} {scope : Scope} {pos : Pos} {it : Addr} {tn : Nat → Heap → Prop} {J : It} {σ : L2.St} {vs : List Nat} {g : TG} {te : TE} {W : Nat → Nat → Hp → Prop} {Qt Qf : Hp → Prop}
    (hc : X.calm = true) (hco : cenv.scope.isCoroutine = false) (T : Turn X.prog X.w X.K tg J fp it tn) (pg : PG (Cx.gen X s3 H3 cenv fp) tg g) (pe : PE (Cx.gen X s3 H3 cenv fp) elt te) (hap : ap ∉ fp)
    (turn : ∀ i m H, W i m H → (J.stop i H ∧ Qt H) ∨ (J.go i H ∧ ∃ Nx : Hp → Prop, (∀ H', Nx H' → ∃ m', m' < m ∧ W (i + 1) m' H') ∧ ∀ x H', J.yld i H x H' → g x (wipe σ vs) H' fun σ2 H2 => wipe σ2 vs = wipe σ vs ∧ te σ2 H2 fun y H4 => (y = .bl true ∧ Nx H4) ∨ (y = .bl false ∧ Qf H4))) :
    ∀ (n m i : Nat) (s₀ s : Shared) (H : Hp), m < n → Inv (Cx.gen X s3 H3 cenv fp) [(ap, ob)] (wipe σ vs) H s → tn i s.heap → (∀ b ∈ fp, H b = none) → W i m H →
      Seg (model X.prog X.w) X.A.in1.in1 (fun _ _ r s₁ => r = .ok .next ∧ GpP (Cx.gen X s3 H3 cenv fp) [(ap, ob)] Qt s₁) (GpY (Cx.gen X s3 H3 cenv fp) [(ap, ob)] Qf) n s₀
        (.compLoop (.GeneratorExp elt [⟨tg, iter, [], 0⟩] scope pos) 0 (.ref it) .none cenv)
        ((model X.prog X.w).den (.compLoop (.GeneratorExp elt [⟨tg, iter, [], 0⟩] scope pos) 0 (.ref it) .none cenv)) [] s := by
  have stat : ∀ {pins : List (Addr × Obj)} {σ' : L2.St} {H' : Hp} {s' : Shared}, (∀ p ∈ pins, p.1 = ap) → Inv (Cx.gen X s3 H3 cenv fp) pins σ' H' s' → (∀ b ∈ fp, H' b = none) → ∀ b ∈ fp, FpOk (Cx.gen X s3 H3 cenv fp) pins H' b := fun {pins σ' H' s'} hp I' hn b hb =>
    ⟨hn b hb, (I'.ok.exf b hb).1, I'.ok.exfs b hb, .inl hb, fun x c e => (I'.ok.exf b hb).2 x c e, fun p hp' z => hap (by rw [← hp p hp', z]; exact hb)⟩
  intro n
  induction n with
  | zero => intro m i s₀ s H hm; exact absurd hm (Nat.not_lt_zero _)
  | succ n ih =>
    intro m i s₀ s H hm I st nf w
    have on1 : ∀ p ∈ [(ap, ob)], p.1 = ap := fun p hp => by rw [List.mem_singleton.mp hp]
    show Seg _ _ _ _ _ s₀ _ ((compTurn (.GeneratorExp elt [⟨tg, iter, [], 0⟩] scope pos) 0 (.ref it) .none cenv).onRaise (leaving cenv)) [] s
    rw [compTurn_gen, Sem.onRaise_eq_wrap]
    refine seg_bind_wrap (wpAny_standAt ?_)
    rcases turn i m H w with ⟨stop, qq⟩ | ⟨go, Nx, hNx, step⟩
    · refine seg_bind_wrap ?_
      rw [over_gen]
      refine thnF (T.done (Cx.gen X s3 H3 cenv fp) rfl rfl rfl hc i _ s _ H (fun _ _ => False) I (stat on1 I nf) st stop) fun r s6 ⟨hr, I6⟩ => ?_
      subst hr
      exact seg_end (.ok .next) ⟨rfl, _, _, I6, qq⟩
    · refine seg_bind_wrap ?_
      rw [over_gen]
      refine thnF (T.item (Cx.gen X s3 H3 cenv fp) rfl rfl rfl hc i _ s _ H (fun _ _ => False) I (stat on1 I nf) st go) fun r s6 ⟨u, hr, h6⟩ => ?_
      subst hr
      refine seg_bind_wrap ?_
      rw [over_gen]
      refine thnF h6 fun _ s7 ⟨x, H7, I7, r7, y7, st7, n7⟩ => ?_
      have I7' := I7.pinned (stat on1 I7 n7) (T.obj _ _ st7)
      refine seg_bind_wrap ?_
      rw [over_gen]
      refine thnF (pg.run _ s7 _ H7 x u _ I7' r7 (step x H7 y7)) fun _ s8 ⟨σ8, H8, I8, hw8, q8⟩ => ?_
      refine seg_bind_wrap ?_
      simp only [List.forIn_nil]
      refine wpAny_pure ?_
      simp only [if_true]
      have hy : ∀ v, yieldOut cenv v = yieldValue v := fun v => by simp only [yieldOut, hco, Bool.false_eq_true, if_false]
      simp only [hy]
      rw [Sem.bind_eq_wrap', Sem.bind_eq_wrap', Sem.wrap_wrap, Sem.wrap_wrap]
      refine seg_wrap ?_
      rw [over_gen]
      refine thnF (pe.run _ s8 σ8 H8 _ I8 q8) fun y s9 ⟨yv, H9, I9, r9, q9⟩ => ?_
      have hl : (wipe σ vs).length = σ8.length := by rw [← hw8, wipe_length]
      have wk : ∀ (j : Nat) v, (wipe σ vs)[j]? = some (some v) → σ8[j]? = some (some v) := fun j v e => by
        rw [← hw8] at e
        exact (wipe_some e).1
      have pin' : ∀ b ∈ fp, ∀ o, s7.heap.get? b = some o → s9.heap.get? b = some o ∧ H9 b = none := fun b hb o e =>
        let z := I9.pin (b, o) (List.mem_append_right _ (List.mem_append_right _ (mem_pinsAt hb e)))
        ⟨z.1, z.2.1⟩
      have I9' : Inv (Cx.gen X s3 H3 cenv fp) [(ap, ob)] (wipe σ vs) H9 s9 := (I9.unpinned).weak hl wk
      rcases q9 with ⟨rfl, nx⟩ | ⟨rfl, qf⟩
      · obtain rfl : y = Value.bool true := r9
        obtain ⟨m', hm', w'⟩ := hNx H9 nx
        refine seg_at (seg_yield rfl rfl rfl ⟨_, _, I9', .inl ⟨rfl, fun s'' h1 h2 h3 => ?_⟩⟩)
        refine seg_again rfl (ih m' (i + 1) s'' s'' H9 (by omega) (inv_heap I9' h1 h2 h3) (T.keep _ _ _ st7 fun b hb o e => by rw [h1]; exact (pin' b hb o e).1) (fun b hb => ?_) w')
        obtain ⟨o, e, _⟩ := T.obj _ _ st7 b hb
        exact (pin' b hb o e).2
      · obtain rfl : y = Value.bool false := r9
        exact seg_at (seg_yield rfl rfl rfl ⟨_, _, I9', .inr ⟨rfl, qf⟩⟩)
theorem seg_allStart {s3 : Shared} {H3 : Hp} {cenv : PySem.Env} {fp : List Addr} {ap : Addr} {ob : Obj} {elt tg iter : Expr} {scope : Scope} {pos : Pos} {it : Addr} {tn : Nat → Heap → Prop} {J : It} {σ : L2.St} {vs : List Nat} {g : TG} {te : TE} {W : Nat → Nat → Hp → Prop} {Qt Qf : Hp → Prop}
    (hc : X.calm = true) (hco : cenv.scope.isCoroutine = false) (T : Turn X.prog X.w X.K tg J fp it tn) (pg : PG (Cx.gen X s3 H3 cenv fp) tg g) (pe : PE (Cx.gen X s3 H3 cenv fp) elt te) (hap : ap ∉ fp)
    (turn : ∀ i m H, W i m H → (J.stop i H ∧ Qt H) ∨ (J.go i H ∧ ∃ Nx : Hp → Prop, (∀ H', Nx H' → ∃ m', m' < m ∧ W (i + 1) m' H') ∧ ∀ x H', J.yld i H x H' → g x (wipe σ vs) H' fun σ2 H2 => wipe σ2 vs = wipe σ vs ∧ te σ2 H2 fun y H4 => (y = .bl true ∧ Nx H4) ∨ (y = .bl false ∧ Qf H4)))
    (n m : Nat) (s₀ s : Shared) (H : Hp) (hm : m < n) (I : Inv (Cx.gen X s3 H3 cenv fp) [(ap, ob)] (wipe σ vs) H s) (st : tn 0 s.heap) (nf : ∀ b ∈ fp, H b = none) (w : W 0 m H) :
      Seg (model X.prog X.w) X.A.in1.in1 (fun _ _ r s₁ => r = .ok .next ∧ GpP (Cx.gen X s3 H3 cenv fp) [(ap, ob)] Qt s₁) (GpY (Cx.gen X s3 H3 cenv fp) [(ap, ob)] Qf) n s₀
        (.compStart (.GeneratorExp elt [⟨tg, iter, [], 0⟩] scope pos) 0 (.ref it) .none cenv)
        ((model X.prog X.w).den (.compStart (.GeneratorExp elt [⟨tg, iter, [], 0⟩] scope pos) 0 (.ref it) .none cenv)) [] s := by
  have loop := seg_all (iter := iter) (scope := scope) (pos := pos) hc hco T pg pe hap turn n m 0 s₀ s H hm I st nf w
  show Seg _ _ _ _ _ s₀ _ ((compStart (.GeneratorExp elt [⟨tg, iter, [], 0⟩] scope pos) 0 (.ref it) .none cenv).onRaise (leaving cenv)) [] s
  unfold compStart
  rw [Sem.onRaise_eq_wrap]
  show Seg _ _ _ _ _ s₀ _ ((ask >>= _).wrap _ _ _ _) [] s
  refine seg_bind_wrap (wpAny_askSetting ?_)
  split
  · exact seg_again rfl loop
  · first
      | exact seg_bind_wrap (wpAny_rule (seg_bind_wrap (wpAny_standAt (seg_bind_wrap (T.self _ 0 s _ _ st (seg_again rfl loop))))))
      | (refine seg_bind_wrap (wpAny_rule ?_); show Seg _ _ _ _ _ s₀ _ ((standAt iter.pos >>= _).wrap _ _ _ _) [] s; exact seg_bind_wrap (wpAny_standAt (seg_bind_wrap (T.self _ 0 s _ _ st (seg_again rfl loop)))))
theorem bare_set {s : Shared} {g : Nat} {x : GenState} (h : AllBare s.gens) (hx : x.bare = true) : AllBare (s.setGen g x).gens := fun y hy => by
  simp only [Shared.setGen, Array.set!_eq_setIfInBounds] at hy
  rcases Array.mem_or_eq_of_mem_setIfInBounds hy with z | z
  · exact h y z
  · rw [z]; exact hx
/-- the consumer -/
theorem all_loop {pins : List (Addr × Obj)} {σ : L2.St} {H3 : Hp} {s3 : Shared} {cenv : PySem.Env} {fp : List Addr} {ap gi : Addr} {ob : Obj} {Q : VK} {R : Result → Shared → Prop} {k : Nat} (hr : Room k X.A) (I3 : Inv X pins σ H3 s3) (hfp : ∀ b ∈ fp, FpOk X pins H3 b)
    (hgen : ∀ h : Heap, h.get? ap = some ob → h.IsGen ap gi) (hR : ∀ b H' s', Inv X pins σ H' s' → Q (.bl b) H' → R (.ok (.ret (.bool b))) s') :
    ∀ (n : Nat) (s : Shared) (gs : GenState), s.gens[gi]? = some gs → (∃ σ' H', Inv (Cx.gen X s3 H3 cenv fp) [(ap, ob)] σ' H' s) →
      gs.Goes (model X.prog X.w) X.A.in1.in1 (fun _ _ r s₁ => r = .ok .next ∧ GpP (Cx.gen X s3 H3 cenv fp) [(ap, ob)] (Q (.bl true)) s₁) (GpY (Cx.gen X s3 H3 cenv fp) [(ap, ob)] (Q (.bl false))) n (.send .none) (s.setGen gi .running) →
      codeAny (model X.prog X.w) X.A (.builtin "all.loop" ⟨[.ref ap], []⟩) R s := by
  have back : ∀ {σ' : L2.St} {H' : Hp} {s' : Shared}, Inv (Cx.gen X s3 H3 cenv fp) [(ap, ob)] σ' H' s' → Inv X pins σ H' s' := fun {σ' H' s'} I' =>
    I3.call' (ch := fp) I'.os I'.base I'.hok I'.bare fun b hb => ⟨(hfp b hb).2.2.2.1, (hfp b hb).2.1, (hfp b hb).2.2.2.2.1, (hfp b hb).2.2.2.2.2⟩
  have at_ : ∀ {σ' : L2.St} {H' : Hp} {s' : Shared}, Inv (Cx.gen X s3 H3 cenv fp) [(ap, ob)] σ' H' s' → s'.heap.get? ap = some ob := fun {σ' H' s'} I' => (I'.pin (ap, ob) (List.mem_append_right _ List.mem_cons_self)).1
  intro n
  induction n with
  | zero =>
    intro s gs hgs hI hgo
    obtain ⟨σ', H', I⟩ := hI
    refine codeAny_builtin F.entry_all_loop ?_
    rw [Around.under_plainId F.plain_all_loop _]
    show wpAny _ X.A.in1 (pyNext (.ref ap) >>= _) _ _ s
    refine wpAny_bind (wpAny_pyNext_genexpQ (P := fun _ _ s₁ => GpP (Cx.gen X s3 H3 cenv fp) [(ap, ob)] (Q (.bl true)) s₁) hr.hd I.nolimit (by have := hr.dp; show X.A.depth < _; omega) (hgen _ (at_ I)) hgs hgo (fun v s₁ gs' hb hv => ?_) (fun s₁ hp h' hk => ?_))
    · obtain ⟨σ1, H1, I1, q⟩ := hv
      have Ib : Inv (Cx.gen X s3 H3 cenv fp) [(ap, ob)] σ1 H1 (s₁.setGen gi gs') := inv_heap I1 rfl rfl (bare_set I1.bare hb)
      rcases q with ⟨rfl, hk⟩ | ⟨rfl, qf⟩
      · exact (hk s₁ rfl rfl I1.bare).elim
      · refine wpAny_bind (wpAny_holding (wpAny_truthy_bool ?_))
        refine wpAny_bind (wpAny_letGo ?_)
        simp only [Bool.false_eq_true, if_false]
        exact wpAny_bind (wpAny_rule (wpAny_pure (hR false H1 _ (back Ib) qf)))
    · obtain ⟨σ1, H1, I1, q⟩ := hp
      have Ib : Inv X pins σ H1 { s₁.setGen gi .finished with heap := h' } := (back (inv_heap (s' := s₁.setGen gi .finished) I1 rfl rfl (bare_set I1.bare rfl))).kept (t' := s₁.toks) hk
      exact wpAny_bind (wpAny_rule (wpAny_pure (hR true H1 _ Ib q)))
  | succ n ih =>
    intro s gs hgs hI hgo
    obtain ⟨σ', H', I⟩ := hI
    refine codeAny_builtin F.entry_all_loop ?_
    rw [Around.under_plainId F.plain_all_loop _]
    show wpAny _ X.A.in1 (pyNext (.ref ap) >>= _) _ _ s
    have hlt : gi < s.gens.size := by
      rcases Nat.lt_or_ge gi s.gens.size with h | h
      · exact h
      · rw [Array.getElem?_eq_none h] at hgs; cases hgs
    refine wpAny_bind (wpAny_gsz (Nat.le_refl s.gens.size) (wpAny_pyNext_genexpQ (P := fun _ _ s₁ => GpP (Cx.gen X s3 H3 cenv fp) [(ap, ob)] (Q (.bl true)) s₁) hr.hd I.nolimit (by have := hr.dp; show X.A.depth < _; omega) (hgen _ (at_ I)) hgs hgo (fun v s₁ gs' hb hv => ?_) (fun s₁ hp h' hk => ?_)))
    · obtain ⟨σ1, H1, I1, q⟩ := hv
      intro hsz
      have Ib : Inv (Cx.gen X s3 H3 cenv fp) [(ap, ob)] σ1 H1 (s₁.setGen gi gs') := inv_heap I1 rfl rfl (bare_set I1.bare hb)
      rcases q with ⟨rfl, hk⟩ | ⟨rfl, qf⟩
      · refine wpAny_bind (wpAny_holding (wpAny_truthy_bool ?_))
        refine wpAny_bind (wpAny_letGo ?_)
        simp only [if_true]
        rw [setGen_size] at hsz
        have hlt1 : gi < s₁.gens.size := Nat.lt_of_lt_of_le hlt hsz
        refine wpAny_pure ⟨plainId_quiet F.plain_all_loop _, ih (s₁.setGen gi gs') gs' (by simp [Shared.setGen, hlt1]) ⟨σ1, H1, Ib⟩ (hk _ rfl rfl (bare_set Ib.bare rfl))⟩
      · refine wpAny_bind (wpAny_holding (wpAny_truthy_bool ?_))
        refine wpAny_bind (wpAny_letGo ?_)
        simp only [Bool.false_eq_true, if_false]
        exact wpAny_bind (wpAny_rule (wpAny_pure (hR false H1 _ (back Ib) qf)))
    · obtain ⟨σ1, H1, I1, q⟩ := hp
      intro _
      have Ib : Inv X pins σ H1 { s₁.setGen gi .finished with heap := h' } := (back (inv_heap (s' := s₁.setGen gi .finished) I1 rfl rfl (bare_set I1.bare rfl))).kept (t' := s₁.toks) hk
      exact wpAny_bind (wpAny_rule (wpAny_pure (hR true H1 _ Ib q)))

theorem pe_allG {c P : Addr} {elt tg iter : Expr} {scope : Scope} {own : List (Str × Nat)} {p pos gpos : Pos} {wi : TI} {g : TG} {te : TE} {k : Nat}
    (hr : Room (k + 3) X.A) (hc : X.calm = true) (hN : X.N.Nodup) (hgl : Gl X "all") (hm : X.mg "all" = none) (TB : GxR.TabB X.base X.mg c P) (hcode : X.env.code = .ref c) (hi : PI X tg iter wi) (ok : BlkOk X.N X.env.scope scope own)
    (hco : scope.isCoroutine = false) (nc : ∀ y ∈ scope.names, y.2 ≠ .cell) (h0 : scope.names.lookup (".0" : Str) = some NameKind.local)
    (hg : ∀ (s : Shared) (H : Hp) (C : Addr) (code : Value) (fp : List Addr), PG (Cx.gen X s H (genEnv scope (cloFrom X.env.cells scope.names []) C code builtinsNs X.env) fp) tg g)
    (he : ∀ (s : Shared) (H : Hp) (C : Addr) (code : Value) (fp : List Addr), Room k (X.A.in1.in1.deeper (genEnv scope (cloFrom X.env.cells scope.names []) C code builtinsNs X.env)) → PE (Cx.gen X s H (genEnv scope (cloFrom X.env.cells scope.names []) C code builtinsNs X.env) fp) elt te)
    (hs : ∀ v, genFold iter X.env v = pure v := by intro _; rfl)
    (hse : starEach [.GeneratorExp elt [⟨tg, iter, [], 0⟩] scope gpos] X.env = (false, eval (.GeneratorExp elt [⟨tg, iter, [], 0⟩] scope gpos) X.env) :: starEach [] X.env := by rfl) :
    PE X (.Call (.Name "all" p) [.GeneratorExp elt [⟨tg, iter, [], 0⟩] scope gpos] [] pos) (tAllG P wi g te (own.map (·.2))) := by
  refine ⟨fun pins s σ H Q I h => ?_⟩
  have hfree : ∀ y ∈ scope.names, y.2 = .free → ∃ c, X.env.cells.lookup y.1 = some c := fun y hy e => by
    rcases ok.free y hy e with k | k
    · exact I.ok.has _ (.inl k)
    · exact I.ok.has _ (.inr k)
  refine wpAny_Call_Name_kw (ld_blt I hgl hm boot_all ?_)
  refine PyProof.Rows.callWith_builtin1 ?_ hse (by rfl)
  rw [hse]
  show wpAny _ _ (spliced ((false, eval (.GeneratorExp elt [⟨tg, iter, [], 0⟩] scope gpos) X.env) :: backTo pos (starEach [] X.env))) _ _ s
  refine Calls.spliced_cons (wpAny_GeneratorExp_make hco (closure_ok hfree) nc h0 ok.kind (by have := hr.dp; omega) (thn (hi.run pins s σ H _ I h) fun xv s1 hx => thn hx fun itv s2 h2 => ?_) hs)
  obtain ⟨it, fp, tn, J, H2, e, I2, T, st2, f2, hP, W, ⟨m0, w0⟩, turn⟩ := h2
  subst e
  refine ⟨I2.nolimit, ?_⟩
  -- the table
  obtain ⟨ps, hPs, ht⟩ : tabOk P s2.heap := (I2.hok P _ hP).1
  have cd : PySem.W.CodeHd s2.heap c P := TB.code.keeps I2.bk
  obtain ⟨bm, ob, e1, e2, e3, e4, e5, e6, e7, e8⟩ := TB.bm
  have szf : ∀ b ∈ fp, b < s2.heap.objs.size := fun b hb => by
    obtain ⟨o, e, _⟩ := T.obj _ _ st2 b hb
    exact Heap.lt_size e
  have nPf : ∀ b ∈ fp, b ≠ P := fun b hb z => by
    have := (f2 b hb).1
    rw [z, hP] at this; cases this
  have cont : ∀ (code : Value) (h3 : Heap) (tk : Nat), Heap.ExtBut P s2.heap h3 → tabOk P h3 →
      wpAny (model X.prog X.w) X.A (builtinsFor X.env.globals X.env.builtins) (fun bi s₄ =>
        ∀ h', h'.Ns s₄.heap.objs.size (fun y => if y = ".0" then some (Value.ref it) else none) → Heap.SameBut s₄.heap.objs.size (s₄.heap.push { cls := .type "frame", data := .dict #[] }) h' →
          wpAny (model X.prog X.w) X.A (spliced (backTo pos (starEach [] X.env))) (fun r s' => wpAny (model X.prog X.w) X.A (PySem.call (.builtin "all") (Value.ref h'.objs.size :: r)) (EP X pins σ Q) X.xe s') X.xe { s₄ with
            gens := s₄.gens.push (.fresh (.compStart (.GeneratorExp elt [⟨tg, iter, [], 0⟩] scope gpos) 0 (.ref it) .none (genEnv scope (cloFrom X.env.cells scope.names []) s₄.heap.objs.size code bi X.env))),
            toks := s₄.toks + 1 + 1 + 1,
            heap := h'.push { cls := .type "generator", data := .fields #[.int s₄.gens.size 0, .str "<genexpr>" (s₄.toks + 1), .str (X.env.qual ++ "<genexpr>") (s₄.toks + 1 + 1)] } }) X.xe { s2 with heap := h3, toks := tk } := by
    intro code h3 tk hx hP3
    have I3 : Inv X pins σ H2 { s2 with heap := h3, toks := tk } := inv_ext I2 hP hx hP3
    refine wpAny_builtinsFor (m := X.mg) (by rw [I3.ok.glob]; exact I3.mod.glob.keeps I3.bk) e1 e2 (I3.bk _ _ e5) e6 e7 e8 ?_
    intro h' hn' hs'
    refine Calls.spliced_nil ?_
    generalize hs3 : ({ s2 with heap := h3, toks := tk } : Shared) = s3 at I3 hn' hs' ⊢
    have hh3 : s3.heap = h3 := by rw [← hs3]
    have hsz : h'.objs.size = s3.heap.objs.size + 1 := by rw [hs'.1, Heap.size_push]
    have keep' : ∀ b o, s3.heap.get? b = some o → h'.get? b = some o := fun b o e => hs'.extBut b o (Nat.ne_of_lt (Heap.lt_size e)) (Heap.get?_push_of_some _ e)
    have st3 : tn 0 s3.heap := T.keep _ _ _ st2 fun b hb o e => by rw [hh3]; exact hx b o (nPf b hb) e
    have sz3 : ∀ b ∈ fp, b < s3.heap.objs.size := fun b hb => by
      obtain ⟨o, e, _⟩ := T.obj _ _ st3 b hb
      exact Heap.lt_size e
    have hap : h'.objs.size ∉ fp := fun hm => by
      have h9 : (h'.objs.size : Nat) < s3.heap.objs.size := sz3 _ hm
      omega
    generalize hce : genEnv scope (cloFrom X.env.cells scope.names []) s3.heap.objs.size code builtinsNs X.env = cenv
    generalize hob : ({ cls := .type "generator", data := .fields #[.int s3.gens.size 0, .str "<genexpr>" (s3.toks + 1), .str (X.env.qual ++ "<genexpr>") (s3.toks + 1 + 1)] } : Obj) = gob
    have kp5 : ∀ b o, s3.heap.get? b = some o → (h'.push gob).get? b = some o := fun b o e => Heap.get?_push_of_some _ (keep' b o e)
    have ha5 : (h'.push gob).get? h'.objs.size = some gob := by rw [← hob]; exact Heap.get?_push_size _ rfl
    have I5 : ∀ gs, AllBare gs → Inv (Cx.gen X s3 H2 cenv fp) [(h'.objs.size, gob)] (wipe σ (own.map (·.2))) H2 { s3 with gens := gs, toks := s3.toks + 1 + 1 + 1, heap := h'.push gob } := fun gs hgs => by
      rw [← hce]
      exact gen_start I3 ok hN nc (fun b hb => ⟨f2 b hb, sz3 b hb⟩) (hn'.push _) kp5 ha5 (by rw [← hob]; exact fun v z => nomatch z) (by omega) hgs
    have pg := hg s3 H2 s3.heap.objs.size code fp
    have pe := he s3 H2 s3.heap.objs.size code fp (by
      have r1 : Room (k + 2) X.A.in1 := hr.in1
      have r2 : Room (k + 1) X.A.in1.in1 := r1.in1
      exact r2.deeper _)
    rw [hce] at pg pe
    have hcs : cenv.scope.isCoroutine = false := by rw [← hce]; exact hco
    have hgb : AllBare (s3.gens.push (.fresh (.compStart (.GeneratorExp elt [⟨tg, iter, [], 0⟩] scope gpos) 0 (.ref it) .none cenv))) := I3.bare.push rfl
    refine call_function_tree F.kind_all F.plain_all F.entry_all (F.args_all1 _) ?_
    unfold Builtin.«all»
    refine wpAny_bind (m := oneArg "all" _) (wpAny_pure ?_)
    have isg : ∀ h : Heap, h.get? h'.objs.size = some gob → h.IsGen h'.objs.size s3.gens.size := fun h e => ⟨gob, .str "<genexpr>" (s3.toks + 1), .str (X.env.qual ++ "<genexpr>") (s3.toks + 1 + 1), e, by rw [← hob], by rw [← hob], by rw [← hob]⟩
    refine wpAny_bind (wpAny_pyIter_gen (isg _ ha5) ?_)
    refine wpAny_pure ⟨plainId_quiet F.plain_all_loop _, ?_⟩
    refine all_loop (k := k + 3) (Q := Q) hr I3 f2 isg (fun b H' s' I' q => ⟨.bl b, H', I', rfl, q⟩) (m0 + 1) _ (.fresh (.compStart (.GeneratorExp elt [⟨tg, iter, [], 0⟩] scope gpos) 0 (.ref it) .none cenv)) (Array.getElem?_push_size ..) ⟨_, H2, I5 _ hgb⟩ ⟨rfl, ?_⟩
    refine seg_allStart hc hcs T pg pe hap turn (m0 + 1) m0 _ _ H2 (Nat.lt_succ_self _) (inv_heap (I5 _ hgb) rfl rfl (bare_set hgb rfl)) (T.keep _ _ _ st3 fun b hb o e => kp5 b o e) (fun b hb => (f2 b hb).1) w0
  cases hf : codeAmong gpos ps.toList with
  | none =>
    refine wpAny_genexprCodeX hcode (cd.code hPs ht) (cd.tab hPs) hf fun c' h' tk hx hge hlt hco' _ htab' _ => ?_
    obtain ⟨o1, vs, f1, tf, fl, tg, inF, tx, tt, op, _, _, _, _, _, _, _, _, _, htr, _⟩ := hco'
    exact cont _ h' tk hx ⟨_, htab'.2, htr⟩
  | some cv =>
    refine wpAny_genexprCode_hit hcode (cd.code hPs ht) hf ?_
    exact cont cv s2.heap s2.toks (Heap.ExtBut.refl _ _) ⟨ps, hPs, ht⟩
end
end Mi

set_option Elab.async false
set_option linter.all false
set_option maxRecDepth 100000
set_option autoImplicit false
namespace Mi
open PySem L2
section
variable {K : PySem.W.Frag} {xc : XC} {W : WX}
/-! ### a < b < c -/
def mChain (f f' : D → D → Option EV) (ma mb mc : Rho → R EV) (ρ : Rho) : R EV := (ma ρ).bind fun ea ρ1 => (mb ρ1).bind fun eb ρ2 => match (rd ρ2 ea).bind fun x => (rd ρ2 eb).bind fun y => f x y with
  | some (.d (.bl true)) => (mc ρ2).bind fun ec ρ3 => R.of ((rd ρ3 eb).bind fun y => (rd ρ3 ec).bind fun z => f' y z) ρ3
  | some (.d (.bl false)) => .ok (.d (.bl false)) ρ2
  | _ => .stuck
theorem je_chain {r r' : R2} {f f' : D → D → Option EV} {ta tb tc : TE} {ma mb mc : Rho → R EV} (hr : OpM K r f) (hr' : OpM K r' f') (ha : JE K xc W ta ma) (hb : JE K xc W tb mb) (hc : JE K xc W tc mc) : JE K xc W (tChain r r' ta tb tc) (mChain f f' ma mb mc) := by
  intro S H σ ρ Q R h
  refine ha S H σ ρ _ R (ROk.mono (ROk.bind h) (fun ea ρ1 h1 => ?_) fun _ _ z => z)
  intro S1 H1 x s1 R1 e1
  refine hb S1 H1 σ ρ1 _ R1 (ROk.mono (ROk.bind h1) (fun eb ρ2 h2 => ?_) fun _ _ z => z.step s1)
  intro S2 H2 y s2 R2 e2
  cases q : (rd ρ2 ea).bind fun x => (rd ρ2 eb).bind fun y => f x y with
  | none => rw [q] at h2; exact h2.elim
  | some ev =>
    rw [q] at h2
    simp only [Option.bind_eq_some_iff] at q
    obtain ⟨dx, q1, dy, q2, q3⟩ := q
    refine hr S2 H2 x y dx dy ev _ R2.sub (rd_seen R2 (e1.step s2) q1) (rd_seen R2 e2 q2) q3 fun S3 H3 v g k => ?_
    match ev, h2, k with
    | .d (.bl true), h2, k =>
      refine ⟨true, den_bl (K := K) (S := S3) k, ?_⟩
      rw [if_pos rfl]
      have s3 := (s1.trans s2).trans (.laid g)
      refine hc S3 H3 σ ρ2 _ (R2.laid g) (ROk.mono (ROk.bind h2) (fun ec ρ3 h3 => ?_) fun _ _ z => z.step s3)
      intro S4 H4 z s4 R4 e4
      obtain ⟨ev', q', hq⟩ := ROk.of h3
      simp only [Option.bind_eq_some_iff] at q'
      obtain ⟨dy', p1, dz, p2, p3⟩ := q'
      exact hr' S4 H4 y z dy' dz ev' Q R4.sub (rd_seen R4 ((e2.step (.laid g)).step s4) p1) (rd_seen R4 e4 p2) p3 fun S5 H5 v' g' k' =>
        hq S5 H5 v' ((s3.trans s4).trans (.laid g')) (R4.laid g') (EvOk.back (s3.trans s4) (k'.ok R4))
    | .d (.bl false), h2, k =>
      refine ⟨false, den_bl (K := K) (S := S3) k, ?_⟩
      rw [if_neg Bool.false_ne_true]
      have s3 := (s1.trans s2).trans (.laid g)
      exact h2 S3 H3 (.bl false) s3 (R2.laid g) (show Den K S3 (.bl false) (.bl false) from of_bl)
    | .d .non, h2, _ => exact h2.elim
    | .d (.int _), h2, _ => exact h2.elim
    | .d (.str _), h2, _ => exact h2.elim
    | .d (.ref _), h2, _ => exact h2.elim
    | .d (.tup _), h2, _ => exact h2.elim
    | .d (.lst _), h2, _ => exact h2.elim
    | .new _, h2, _ => exact h2.elim
    | .slot _, h2, _ => exact h2.elim
/-! ### (a, b, ..) = a tuple -/
def JGs (K : PySem.W.Frag) (g : TGs) (sl : List Nat) (m : List D → Rho → Option Rho) : Prop := ∀ S H σ ρ vs ds ρ' Q, Rel K S H σ ρ → DenL K S ds vs → m ds ρ = some ρ' →
  (∀ σ', Stp S H σ ρ S H σ' ρ' → Rel K S H σ' ρ' → (σ'.length = σ.length ∧ ∀ j : Nat, j ∉ sl → σ'[j]? = σ[j]?) → Q σ' H) → g vs σ H Q
def gtNil : List D → Rho → Option Rho
  | [], ρ => some ρ
  | _ :: _, _ => none
def gtCons (m : D → Rho → Option Rho) (n : List D → Rho → Option Rho) : List D → Rho → Option Rho
  | d :: ds, ρ => (m d ρ).bind fun ρ1 => n ds ρ1
  | [], _ => none
theorem jgs_nil : JGs K gNil [] gtNil := by
  intro S H σ ρ vs ds ρ' Q R hd e h
  cases ds with
  | cons d ds => cases e
  | nil =>
    have e2 : vs = [] := by unfold DenL at hd; exact hd
    simp only [gtNil, Option.some.injEq] at e
    subst e
    exact ⟨e2, h σ .refl R ⟨rfl, fun _ _ => rfl⟩⟩
theorem jgs_cons {g : TG} {gs : TGs} {s1 s2 : List Nat} {m : D → Rho → Option Rho} {n : List D → Rho → Option Rho} (hg : JG K g s1 m) (hs : JGs K gs s2 n) : JGs K (gCons g gs) (s1 ++ s2) (gtCons m n) := by
  intro S H σ ρ vs ds ρ' Q R hd e h
  cases ds with
  | nil => cases e
  | cons d ds =>
    simp only [gtCons, Option.bind_eq_some_iff] at e
    obtain ⟨ρ1, e1, e2⟩ := e
    unfold DenL at hd
    obtain ⟨v, r, rfl, hv, hr⟩ := hd
    refine ⟨v, r, rfl, hg S H σ ρ v d ρ1 _ R hv e1 fun σ1 st1 R1 k1 => hs S H σ1 ρ1 r ds ρ' Q R1 hr e2 fun σ2 st2 R2 k2 => h σ2 (st1.trans st2) R2 ⟨k2.1.trans k1.1, fun j hj => ?_⟩⟩
    rw [List.mem_append] at hj
    exact (k2.2 j fun z => hj (.inr z)).trans (k1.2 j fun z => hj (.inl z))
def gtTup (n : Nat) (m : List D → Rho → Option Rho) : D → Rho → Option Rho
  | .tup ds, ρ => if ds.length = n then m ds ρ else none
  | _, _ => none
theorem jg_tup {n : Nat} {gs : TGs} {sl : List Nat} {m : List D → Rho → Option Rho} (hs : JGs K gs sl m) : JG K (gTup K n gs) sl (gtTup n m) := by
  intro S H σ ρ v d ρ' Q R hd e h
  cases d with
  | tup ds =>
    simp only [gtTup] at e
    split at e
    · rename_i hl
      obtain ⟨a, vs, rfl, t, l⟩ := den_tup hd
      exact ⟨a, vs, rfl, sqT_same R.sub t, by rw [l.length, hl], hs S H σ ρ vs ds ρ' Q R l e h⟩
    · cases e
  | non => cases e
  | bl _ => cases e
  | int _ => cases e
  | str _ => cases e
  | ref _ => cases e
  | lst _ => cases e
  | emp => cases e
def mAsg (mt : D → Rho → Option Rho) (m : Rho → R EV) (ρ : Rho) : Out := (mFrz m ρ).out fun ev ρ1 => match ev with
  | .d d => Out.of (mt d ρ1)
  | _ => .stuck
theorem js_asg {g : TG} {t : TE} {sl : List Nat} {mt : D → Rho → Option Rho} {m : Rho → R EV} (ha : JE K xc W t m) (hg : JG K g sl mt) : JS K xc W (tAsg t g) (mAsg mt m) := by
  intro S H σ ρ D R h
  refine je_frz ha S H σ ρ _ R (ROk.mono (SPost.out h) (fun ev ρ1 h1 => ?_) fun _ _ z => z)
  intro S1 H1 v s1 R1 e1
  match ev, h1, e1 with
  | .d d, h1, e1 =>
    have h1 : SPost K xc W D S H σ ρ (Out.of (mt d ρ1)) := h1
    cases q : mt d ρ1 with
    | none => rw [q] at h1; exact h1.elim
    | some ρ2 =>
      rw [q] at h1
      exact hg S1 H1 σ ρ1 v d ρ2 _ R1 e1 q fun σ2 st R2 _ => h1 S1 H1 σ2 (s1.trans st) R2
  | .new _, h1, _ => exact h1.elim
  | .slot _, h1, _ => exact h1.elim
/-! ### x += e, x -= e: ints -/
def mAug (i : Nat) (f : Int → Int → Int) (m : Rho → R EV) (ρ : Rho) : Out := match ρ[i]? with
  | some (.val (.int a)) => (m ρ).out fun ev ρ1 => match ev with
    | .d (.int b) => Out.of (putC i (.d (.int (f a b))) ρ1)
    | _ => .stuck
  | _ => .stuck
theorem js_aug {i : Nat} {f : Int → Int → Int} {t : TE} {m : Rho → R EV} (ha : JE K xc W t m) : JS K xc W (tAug i t (ipI f)) (mAug i f m) := by
  intro S H σ ρ D R h
  unfold mAug at h
  split at h
  · rename_i a q
    obtain ⟨u, e1, e2⟩ := R.cell i _ q
    have e3 := den_int e2
    subst e3
    refine ⟨_, e1, ha S H σ ρ _ R (ROk.mono (SPost.out h) (fun ev ρ1 h1 => ?_) fun _ _ z => z)⟩
    intro S1 H1 v s1 R1 k1
    match ev, h1, k1 with
    | .d (.int b), h1, k1 =>
      have h1 : SPost K xc W D S H σ ρ (Out.of (putC i (.d (.int (f a b))) ρ1)) := h1
      cases q2 : putC i (.d (.int (f a b))) ρ1 with
      | none => rw [q2] at h1; exact h1.elim
      | some ρ2 =>
        rw [q2] at h1
        obtain ⟨s2, R2⟩ := put_ok (ev := .d (.int (f a b))) (v := .int (f a b)) s1 R1 (show Den K S1 (.int (f a b)) (.int (f a b)) from of_int) q2
        exact ⟨a, b, rfl, den_int (K := K) (S := S1) k1, h1 S1 H1 _ s2 R2⟩
    | .d .non, h1, _ => exact h1.elim
    | .d (.bl _), h1, _ => exact h1.elim
    | .d (.str _), h1, _ => exact h1.elim
    | .d (.ref _), h1, _ => exact h1.elim
    | .d (.tup _), h1, _ => exact h1.elim
    | .d (.lst _), h1, _ => exact h1.elim
    | .new _, h1, _ => exact h1.elim
    | .slot _, h1, _ => exact h1.elim
  · exact h.elim
end
section
variable {X : Cx} {xc : XC} {W : WX}
theorem r_chain {a b c : Expr} {op op' : CmpOp} {pos : Pos} {r r' : R2} {f f' : D → D → Option EV} {ma mb mc : Rho → R EV} (ho : OpR X (compareOp op) r) (ho' : OpR X (compareOp op') r') (hm : OpM X.K r f) (hm' : OpM X.K r' f') (ha : ME X xc W a ma) (hb : ME X xc W b mb) (hc : ME X xc W c mc)
    (hk : lastMarks [op, op'] [b, c] = false := by with_unfolding_all rfl) : ME X xc W (.Compare a [op, op'] [b, c] pos) (mChain f f' ma mb mc) := mkE (pe_chain ho ho' ha hb hc hk) (je_chain hm hm' je_cE je_cE je_cE)
theorem t_chain {a b c : Expr} {op op' : CmpOp} {pos : Pos} {r r' : R2} {f f' : D → D → Option EV} {ma mb mc : Rho → R EV} (ho : OpR X (compareOp op) r) (ho' : OpR X (compareOp op') r') (hm : OpM X.K r f) (hm' : OpM X.K r' f') (ha : ME X xc W a ma) (hb : ME X xc W b mb) (hc : ME X xc W c mc)
    (hk : lastMarks [op, op'] [b, c] = false := by with_unfolding_all rfl) : MT X xc W (.Compare a [op, op'] [b, c] pos) (mTst (mChain f f' ma mb mc)) := mkT (pt_chain ho ho' ha hb hc hk) (jt_test' (je_chain hm hm' je_cE je_cE je_cE))
/-- 0 <= x < y and its kin -/
theorem t_le_lt {a b c : Expr} {pos : Pos} {ma mb mc : Rho → R EV} (ha : ME X xc W a ma) (hb : ME X xc W b mb) (hc : ME X xc W c mc) (hk : lastMarks [.LtE, .Lt] [b, c] = false := by with_unfolding_all rfl) : MT X xc W (.Compare a [.LtE, .Lt] [b, c] pos) (mTst (mChain dLe dLt ma mb mc)) := t_chain op_le op_lt (opm_I0 fun _ _ _ => of_bl) (opm_I0 fun _ _ _ => of_bl) ha hb hc hk
theorem t_le_le {a b c : Expr} {pos : Pos} {ma mb mc : Rho → R EV} (ha : ME X xc W a ma) (hb : ME X xc W b mb) (hc : ME X xc W c mc) (hk : lastMarks [.LtE, .LtE] [b, c] = false := by with_unfolding_all rfl) : MT X xc W (.Compare a [.LtE, .LtE] [b, c] pos) (mTst (mChain dLe dLe ma mb mc)) := t_chain op_le op_le (opm_I0 fun _ _ _ => of_bl) (opm_I0 fun _ _ _ => of_bl) ha hb hc hk
theorem r_le_lt {a b c : Expr} {pos : Pos} {ma mb mc : Rho → R EV} (ha : ME X xc W a ma) (hb : ME X xc W b mb) (hc : ME X xc W c mc) (hk : lastMarks [.LtE, .Lt] [b, c] = false := by with_unfolding_all rfl) : ME X xc W (.Compare a [.LtE, .Lt] [b, c] pos) (mChain dLe dLt ma mb mc) := r_chain op_le op_lt (opm_I0 fun _ _ _ => of_bl) (opm_I0 fun _ _ _ => of_bl) ha hb hc hk
theorem r_le_le {a b c : Expr} {pos : Pos} {ma mb mc : Rho → R EV} (ha : ME X xc W a ma) (hb : ME X xc W b mb) (hc : ME X xc W c mc) (hk : lastMarks [.LtE, .LtE] [b, c] = false := by with_unfolding_all rfl) : ME X xc W (.Compare a [.LtE, .LtE] [b, c] pos) (mChain dLe dLe ma mb mc) := r_chain op_le op_le (opm_I0 fun _ _ _ => of_bl) (opm_I0 fun _ _ _ => of_bl) ha hb hc hk
end
end Mi

set_option Elab.async false
set_option linter.all false
set_option maxRecDepth 100000
set_option autoImplicit false
namespace Mi
open PySem L2
section
variable {K : PySem.W.Frag} {xc : XC} {W : WX}
/-! ### bounds that are reckoned; parts of tuples and lists -/
def OPost (K : PySem.W.Frag) (S H : Hp) (σ : Sg) (ρ : Rho) (Q : Option Int → Hp → Prop) (o : Option Int) (ρ' : Rho) : Prop := ∀ S' H', Stp S H σ ρ S' H' σ ρ' → Rel K S' H' σ ρ' → Q o H'
def JO2 (K : PySem.W.Frag) (xc : XC) (W : WX) (t : TO) (m : Rho → R (Option Int)) : Prop := ∀ S H σ ρ Q, Rel K S H σ ρ → ROk (OPost K S H σ ρ Q) (XPost K xc W S H σ ρ) (m ρ) → t σ H Q
def mO0 (ρ : Rho) : R (Option Int) := .ok none ρ
def mO1 (m : Rho → R EV) (ρ : Rho) : R (Option Int) := (m ρ).bind fun ev ρ1 => match ev with
  | .d (.int i) => .ok (some i) ρ1
  | _ => .stuck
theorem jo_0 : JO2 K xc W tNoPart mO0 := fun S H σ ρ Q R h => h S H .refl R
theorem jo_1 {t : TE} {m : Rho → R EV} (ha : JE K xc W t m) : JO2 K xc W (tPart t) (mO1 m) := by
  intro S H σ ρ Q R h
  refine ha S H σ ρ _ R (ROk.mono (ROk.bind h) (fun ev ρ1 h1 => ?_) fun _ _ z => z)
  intro S1 H1 x s1 R1 e1
  match ev, h1, e1 with
  | .d (.int i), h1, e1 => exact ⟨i, den_int (K := K) (S := S1) e1, h1 S1 H1 s1 R1⟩
  | .d .non, h1, _ => exact h1.elim
  | .d (.bl _), h1, _ => exact h1.elim
  | .d (.str _), h1, _ => exact h1.elim
  | .d (.ref _), h1, _ => exact h1.elim
  | .d (.tup _), h1, _ => exact h1.elim
  | .d (.lst _), h1, _ => exact h1.elim
  | .new _, h1, _ => exact h1.elim
  | .slot _, h1, _ => exact h1.elim
def mSl (ma : Rho → R EV) (ml mh : Rho → R (Option Int)) (ρ : Rho) : R EV := (ma ρ).bind fun ea ρ1 => (ml ρ1).bind fun lo ρ2 => (mh ρ2).bind fun hi ρ3 => match rd ρ3 ea with
  | some (.tup ds) => .ok (.d (.tup (cutD ds lo hi))) ρ3
  | some (.lst ds) => .ok (.new (.lst (cutD ds lo hi))) ρ3
  | _ => .stuck
theorem cut_whole {α : Type} {xs : List α} {a b : Nat} (h : a = 0) (h2 : b = xs.length) : (xs.drop a).take (b - a) = xs := by
  subst h h2
  simp
theorem je_sl {t : TE} {tl th : TO} {ma : Rho → R EV} {ml mh : Rho → R (Option Int)} (ha : JE K xc W t ma) (hl : JO2 K xc W tl ml) (hh : JO2 K xc W th mh) :
    JE K xc W (tSl (fun x lo hi H Q => rSlA K x lo hi H Q ∨ rSlL K x lo hi H Q) t tl th) (mSl ma ml mh) := by
  intro S H σ ρ Q R h
  refine ha S H σ ρ _ R (ROk.mono (ROk.bind h) (fun ea ρ1 h1 => ?_) fun _ _ z => z)
  intro S1 H1 x s1 R1 e1
  refine hl S1 H1 σ ρ1 _ R1 (ROk.mono (ROk.bind h1) (fun lo ρ2 h2 => ?_) fun _ _ z => z.step s1)
  intro S2 H2 s2 R2
  refine hh S2 H2 σ ρ2 _ R2 (ROk.mono (ROk.bind h2) (fun hi ρ3 h3 => ?_) fun _ _ z => z.step (s1.trans s2))
  intro S3 H3 s3 R3
  have st := (s1.trans s2).trans s3
  have e3 := (e1.step s2).step s3
  cases q : rd ρ3 ea with
  | none => rw [q] at h3; exact h3.elim
  | some d =>
    rw [q] at h3
    have sn := rd_seen R3 e3 q
    cases d with
    | tup ds =>
      obtain ⟨a, vs, rfl, t, l⟩ := seen_tup sn
      refine .inl ⟨a, vs, rfl, sqT_same R3.sub t, fun hw => ?_, fun hw p hp => ?_⟩
      · have e : cutD ds lo hi = ds := cut_whole (by rw [← l.length]; exact hw.1) (by rw [← l.length]; exact hw.2)
        have h3 : EPost K S H σ ρ Q (.d (.tup (cutD ds lo hi))) ρ3 := h3
        rw [e] at h3
        exact h3 S3 H3 (.ref a) st R3 (show Den K S3 (.tup ds) (.ref a) from by unfold Den; exact ⟨a, vs, rfl, t, l⟩)
      · have g : Grow S3 H3 (upd S3 p (.tup (cutV vs lo hi))) (upd H3 p (.tup (cutV vs lo hi))) := Grow.stable R3.sub hp
        exact h3 _ _ _ (st.trans (.laid g)) (R3.laid g) (EvOk.back st ((evg (of_tup (SqT.of upd_same) ((den_cut l lo hi).same g.s))).ok R3))
    | lst ds =>
      obtain ⟨a, vs, rfl, t, l⟩ := seen_lst sn
      refine .inr ⟨a, vs, rfl, t, fun p hp => ?_⟩
      have g : Grow S3 H3 S3 (upd H3 p (.lst (cutV vs lo hi))) := Grow.loose R3.sub hp
      exact h3 _ _ _ (st.trans (.laid g)) (R3.laid g) (EvOk.back st ((evg_lst R3.sub hp (den_cut l lo hi)).ok R3))
    | non => exact h3.elim
    | bl _ => exact h3.elim
    | int _ => exact h3.elim
    | str _ => exact h3.elim
    | ref _ => exact h3.elim
    | emp => exact h3.elim
end
section
variable {X : Cx} {xc : XC} {W : WX}
abbrev MO (X : Cx) (xc : XC) (W : WX) (e : Option Expr) (m : Rho → R (Option Int)) : Prop := ∃ t, PO X e t ∧ JO2 X.K xc W t m
theorem o_0 : MO X xc W none mO0 := ⟨_, po_none, jo_0⟩
theorem o_1 {e : Expr} {m : Rho → R EV} (ha : ME X xc W e m) : MO X xc W (some e) (mO1 m) := ⟨_, po_some ha, jo_1 je_cE⟩
theorem r_sl {e : Expr} {lo hi : Option Expr} {p2 pos : Pos} {ma : Rho → R EV} {ml mh : Rho → R (Option Int)} (ha : ME X xc W e ma) (hl : MO X xc W lo ml) (hh : MO X xc W hi mh) : ME X xc W (.Subscript e (.Slice lo hi none p2) pos) (mSl ma ml mh) := by
  obtain ⟨tl, l1, l2⟩ := hl
  obtain ⟨th, k1, k2⟩ := hh
  exact mkE (pe_slice (SlR.or sl_tupA sl_list) ha l1 k1) (je_sl je_cE l2 k2)
end
end Mi

set_option Elab.async false
set_option linter.all false
set_option maxRecDepth 100000
set_option autoImplicit false
namespace Mi
open PySem L2
/-! ### equality of nested data -/
mutual
def pyD : D → Option PyData
  | .non => some .none
  | .bl b => some (.bool b)
  | .int i => some (.int i)
  | .str x => some (.str x)
  | .ref _ => none
  | .emp => none
  | .tup ds => (pyDs ds).map .tuple
  | .lst ds => (pyDs ds).map .list
def pyDs : List D → Option (List PyData)
  | [] => some []
  | d :: ds => (pyD d).bind fun e => (pyDs ds).map fun es => e :: es
end
section
variable {K : PySem.W.Frag} {xc : XC} {W : WX}
mutual
theorem den_dp {H : Hp} : ∀ {d : D} {v : V} {e : PyData}, Den K H d v → pyD d = some e → Dp K H v e
  | .non, v, e, h, q => by
    simp only [pyD, Option.some.injEq] at q; subst q
    rw [den_non h]; exact .non
  | .bl b, v, e, h, q => by
    simp only [pyD, Option.some.injEq] at q; subst q
    rw [den_bl h]; exact .bl b
  | .int i, v, e, h, q => by
    simp only [pyD, Option.some.injEq] at q; subst q
    rw [den_int h]; exact .int i
  | .str x, v, e, h, q => by
    simp only [pyD, Option.some.injEq] at q; subst q
    rw [den_str h]; exact .str x
  | .ref a, v, e, h, q => by simp [pyD] at q
  | .emp, v, e, h, q => by simp [pyD] at q
  | .tup ds, v, e, h, q => by
    simp only [pyD, Option.map_eq_some_iff] at q
    obtain ⟨es, q1, rfl⟩ := q
    obtain ⟨a, vs, rfl, t, l⟩ := den_tup h
    exact .tup t (denL_dp l q1)
  | .lst ds, v, e, h, q => by
    simp only [pyD, Option.map_eq_some_iff] at q
    obtain ⟨es, q1, rfl⟩ := q
    unfold Den at h
    obtain ⟨a, vs, rfl, t, l⟩ := h
    exact .lst t (denL_dp l q1)
theorem denL_dp {H : Hp} : ∀ {ds : List D} {vs : List V} {es : List PyData}, DenL K H ds vs → pyDs ds = some es → DpAll K H vs es
  | [], vs, es, h, q => by
    simp only [pyDs, Option.some.injEq] at q; subst q
    unfold DenL at h
    subst h
    exact .nil
  | d :: ds, vs, es, h, q => by
    simp only [pyDs, Option.bind_eq_some_iff, Option.map_eq_some_iff] at q
    obtain ⟨e, q1, r, q2, rfl⟩ := q
    unfold DenL at h
    obtain ⟨v, u, rfl, h1, h2⟩ := h
    exact .cons (den_dp h1 q1) (denL_dp h2 q2)
end
theorem seen_den {S H : Hp} (hs : Same S H) {d : D} {v : V} (h : Seen K S H d v) : Den K H d v := by
  cases d with
  | lst ds =>
    obtain ⟨a, vs, rfl, t, l⟩ := seen_lst h
    unfold Den
    exact ⟨a, vs, rfl, t, l.same hs⟩
  | non => exact (show Den K S .non v from h).same hs
  | bl b => exact (show Den K S (.bl b) v from h).same hs
  | int b => exact (show Den K S (.int b) v from h).same hs
  | str b => exact (show Den K S (.str b) v from h).same hs
  | ref b => exact (show Den K S (.ref b) v from h).same hs
  | tup b => exact (show Den K S (.tup b) v from h).same hs
  | emp => exact (show Den K S .emp v from h).same hs
def eqN (x y : D) : Option Bool := (pyD x).bind fun d => (pyD y).bind fun e => if SeqAt.shaped d && SeqAt.shaped e then some (PyData.eqv d e) else none
/-- == of scalars, otherwise of nested data -/
def dEqA (x y : D) : Option EV := match dEq x y with
  | some ev => some ev
  | none => (eqN x y).map fun b => .d (.bl b)
def dNeA (x y : D) : Option EV := match dNe x y with
  | some ev => some ev
  | none => (eqN x y).map fun b => .d (.bl (!b))
theorem eqN_ok {S H : Hp} (hs : Same S H) {x y : D} {u v : V} {b : Bool} (hx : Seen K S H x u) (hy : Seen K S H y v) (q : eqN x y = some b) : ∃ d e, Dp K H u d ∧ Dp K H v e ∧ SeqAt.shaped d = true ∧ SeqAt.shaped e = true ∧ PyData.eqv d e = b := by
  simp only [eqN, Option.bind_eq_some_iff] at q
  obtain ⟨d, q1, e, q2, q3⟩ := q
  obtain ⟨c, q4⟩ := some_ite q3
  rw [Bool.and_eq_true] at c
  exact ⟨d, e, den_dp (seen_den hs hx) q1, den_dp (seen_den hs hy) q2, c.1, c.2, q4⟩
theorem opm_eqA : OpM K (fun x y H Q => rEq x y H Q ∨ rEqD K x y H Q) dEqA := by
  intro S H x y dx dy ev Q hs sx sy e q
  unfold dEqA at e
  cases z : dEq dx dy with
  | some ev' =>
    rw [z] at e
    simp only [Option.some.injEq] at e
    subst e
    exact .inl (opm_eq S H x y dx dy ev' Q hs sx sy z q)
  | none =>
    rw [z] at e
    simp only [Option.map_eq_some_iff] at e
    obtain ⟨b, e1, rfl⟩ := e
    obtain ⟨d, e, h1, h2, h3, h4, h5⟩ := eqN_ok hs sx sy e1
    exact .inr ⟨d, e, h1, h2, h3, h4, q S H _ (.refl hs) (evg (by rw [h5]; exact of_bl))⟩
theorem opm_neA : OpM K (fun x y H Q => rNe x y H Q ∨ rNeD K x y H Q) dNeA := by
  intro S H x y dx dy ev Q hs sx sy e q
  unfold dNeA at e
  cases z : dNe dx dy with
  | some ev' =>
    rw [z] at e
    simp only [Option.some.injEq] at e
    subst e
    exact .inl (opm_ne S H x y dx dy ev' Q hs sx sy z q)
  | none =>
    rw [z] at e
    simp only [Option.map_eq_some_iff] at e
    obtain ⟨b, e1, rfl⟩ := e
    obtain ⟨d, e, h1, h2, h3, h4, h5⟩ := eqN_ok hs sx sy e1
    exact .inr ⟨d, e, h1, h2, h3, h4, q S H _ (.refl hs) (evg (by rw [h5]; exact of_bl))⟩
/-! ### a list behind a list -/
def evL (ρ : Rho) : EV → Option (List D)
  | .new (.lst xs) => some xs
  | .slot i => (ownL i ρ).map (·.2)
  | _ => none
theorem evL_ok {S H : Hp} {σ : Sg} {ρ : Rho} (R : Rel K S H σ ρ) {σ0 : Sg} {ρ0 : Rho} {H0 : Hp} {v : V} {ev : EV} {xs : List D} (h : EvOk K σ0 ρ0 H0 S H σ ρ v ev) (e : evL ρ ev = some xs) : ∃ a vs, v = .ref a ∧ H a = some (.lst vs) ∧ DenL K S xs vs := by
  cases ev with
  | d d => cases e
  | new o =>
    cases o with
    | dic _ => cases e
    | lst ys =>
      simp only [evL, Option.some.injEq] at e
      subst e
      obtain ⟨a, ho, e1, e2, _, _, e3, _⟩ := h
      obtain ⟨vs, rfl, l⟩ := e3
      exact ⟨a, vs, e1, e2, l⟩
  | slot i =>
    simp only [evL, Option.map_eq_some_iff] at e
    obtain ⟨p, e1, rfl⟩ := e
    obtain ⟨a, vs, k1, k2, k3⟩ := own_lst R (ownL_eq e1)
    have h : σ[i]? = some (some v) := h
    rw [h] at k1
    exact ⟨a, vs, by simpa using k1, k2, k3⟩
/-- a + b: ints, tuples; owned and new lists -/
def mAddL (ma mb : Rho → R EV) (ρ : Rho) : R EV := (ma ρ).bind fun ea ρ1 => (mb ρ1).bind fun eb ρ2 => match evL ρ2 ea, evL ρ2 eb with
  | some xs, some ys => if szOk (xs.length + ys.length) then .ok (.new (.lst (xs ++ ys))) ρ2 else .stuck
  | _, _ => R.of ((rd ρ2 ea).bind fun x => (rd ρ2 eb).bind fun y => dAdd x y) ρ2
theorem je_addL {ta tb : TE} {ma mb : Rho → R EV} (ha : JE K xc W ta ma) (hb : JE K xc W tb mb) : JE K xc W (tOp (fun x y H Q => rCat x y H Q ∨ (rI0 (fun i j => .int (i + j)) x y H Q ∨ rCatA K x y H Q)) ta tb) (mAddL ma mb) := by
  intro S H σ ρ Q R h
  refine ha S H σ ρ _ R (ROk.mono (ROk.bind h) (fun ea ρ1 h1 => ?_) fun _ _ z => z)
  intro S1 H1 x s1 R1 e1
  refine hb S1 H1 σ ρ1 _ R1 (ROk.mono (ROk.bind h1) (fun eb ρ2 h2 => ?_) fun _ _ z => z.step s1)
  intro S2 H2 y s2 R2 e2
  have plain : ROk (EPost K S H σ ρ Q) (XPost K xc W S H σ ρ) (Mi.R.of ((rd ρ2 ea).bind fun x => (rd ρ2 eb).bind fun y => dAdd x y) ρ2) → rI0 (fun i j => .int (i + j)) x y H2 Q ∨ rCatA K x y H2 Q := fun h2 => by
    obtain ⟨ev, q, hq⟩ := ROk.of h2
    simp only [Option.bind_eq_some_iff] at q
    obtain ⟨dx, q1, dy, q2, q3⟩ := q
    exact opm_add S2 H2 x y dx dy ev Q R2.sub (rd_seen R2 (e1.step s2) q1) (rd_seen R2 e2 q2) q3 fun S3 H3 v g k =>
      hq S3 H3 v ((s1.trans s2).trans (.laid g)) (R2.laid g) (EvOk.back (s1.trans s2) (k.ok R2))
  cases q1 : evL ρ2 ea with
  | none => rw [q1] at h2; exact .inr (plain h2)
  | some xs =>
    cases q2 : evL ρ2 eb with
    | none => rw [q1, q2] at h2; exact .inr (plain h2)
    | some ys =>
      rw [q1, q2] at h2
      have h2 : ROk (EPost K S H σ ρ Q) (XPost K xc W S H σ ρ) (if szOk (xs.length + ys.length) then .ok (.new (.lst (xs ++ ys))) ρ2 else .stuck) := h2
      split at h2
      · rename_i c
        obtain ⟨a, vs, r1, k1, l1⟩ := evL_ok R2 (e1.step s2) q1
        obtain ⟨b, us, r2, k2, l2⟩ := evL_ok R2 e2 q2
        refine .inl ⟨a, b, vs, us, r1, r2, k1, k2, by rw [l1.length, l2.length]; exact Nat.le_of_lt (szOk.le c), fun p hp => ?_⟩
        have g : Grow S2 H2 S2 (upd H2 p (.lst (vs ++ us))) := Grow.loose R2.sub hp
        exact h2 _ _ _ ((s1.trans s2).trans (.laid g)) (R2.laid g) (EvOk.back (s1.trans s2) ((evg_lst R2.sub hp (l1.append l2)).ok R2))
      · exact h2.elim
end
section
variable {X : Cx} {xc : XC} {W : WX} {a b : Expr} {pos : Pos} {ma mb : Rho → R EV} {k : Nat}
theorem r_addL (ha : ME X xc W a ma) (hb : ME X xc W b mb) : ME X xc W (.BinOp a .Add b pos) (mAddL ma mb) := mkE (pe_op (opr_or op_cat (opr_or op_add op_catA)) ha hb) (je_addL je_cE je_cE)
theorem r_eqA (hr : Room k X.A) (ha : ME X xc W a ma) (hb : ME X xc W b mb) : ME X xc W (.Compare a [.Eq] [b] pos) (mOp dEqA ma mb) := r_cmp (opr_or op_eq (op_eqD (by have := hr.un; omega))) opm_eqA ha hb (nomark _)
theorem t_eqA (hr : Room k X.A) (ha : ME X xc W a ma) (hb : ME X xc W b mb) : MT X xc W (.Compare a [.Eq] [b] pos) (mTst (mOp dEqA ma mb)) := t_cmp (opr_or op_eq (op_eqD (by have := hr.un; omega))) opm_eqA ha hb (nomark _)
theorem r_neA (hr : Room k X.A) (ha : ME X xc W a ma) (hb : ME X xc W b mb) : ME X xc W (.Compare a [.NotEq] [b] pos) (mOp dNeA ma mb) := r_cmp (opr_or op_ne (op_neD (by have := hr.un; omega))) opm_neA ha hb (nomark _)
theorem t_neA (hr : Room k X.A) (ha : ME X xc W a ma) (hb : ME X xc W b mb) : MT X xc W (.Compare a [.NotEq] [b] pos) (mTst (mOp dNeA ma mb)) := t_cmp (opr_or op_ne (op_neD (by have := hr.un; omega))) opm_neA ha hb (nomark _)
end
end Mi

set_option Elab.async false
set_option linter.all false
set_option maxRecDepth 100000
set_option autoImplicit false
namespace Mi
open PySem L2
section
variable {X : Cx} {xc : XC} {W : WX} {a b e : Expr} {es : List Expr} {pos pos' : Pos} {ma mb : Rho → R EV} {x : Str} {s1 s2 : List Nat} {mt : D → Rho → Option Rho} {ms : List D → Rho → Option Rho}
/-- targets in a row -/
def MGs (X : Cx) (es : List Expr) (sl : List Nat) (m : List D → Rho → Option Rho) : Prop := ∃ t, PGs X es t ∧ JGs X.K t sl m
theorem gs_nil : MGs X [] [] gtNil := ⟨_, pgs_nil, jgs_nil⟩
theorem gs_cons (hg : MG X e s1 mt) (hs : MGs X es s2 ms) (h : (assignEach (e :: es) X.env).map (·.2) = assign e X.env :: (assignEach es X.env).map (·.2) := by rfl) : MGs X (e :: es) (s1 ++ s2) (gtCons mt ms) := by
  obtain ⟨t, h1, h2⟩ := hs
  exact ⟨_, pgs_cons hg h1 h, jgs_cons jg_cG h2⟩
theorem g_tup {n k : Nat} (hc : X.calm = true) (h : MGs X es s1 ms) (hn : (assignEach es X.env).length = n := by rfl) (hst : (assignEach es X.env).findIdx? (·.1) = none := by rfl) : MG X (.Tuple es k pos) s1 (gtTup n ms) := by
  obtain ⟨t, h1, h2⟩ := h
  exact mkG (pg_tup hc h1 hn hst) (jg_tup h2)
theorem s_asg {tg : Expr} (ha : ME X xc W e ma) (hg : MG X tg s1 mt) (hs : swapsWithSole [tg] e pos.line X.env = pure false := by rfl) (hw : swappedStores [tg] e X.env = pure none := by rfl) (h1 : (assignEach [tg] X.env).map (·.2) = [assign tg X.env] := by rfl) : MS X xc W (.Assign [tg] e pos) (mAsg mt ma) :=
  mkS (ps_asg ha hg hs hw h1) (js_asg je_cE jg_cG)
theorem s_augAdd {i : Nat} (hN : X.N.Nodup) (hi : X.N[i]? = some x) (hx : Loc X.env.scope x) (he : ME X xc W e ma) (hf : X.fn x = true ∨ X.env.scope.names.lookup x = some .local := by first | exact .inl rfl | exact .inr rfl | assumption) : MS X xc W (.AugAssign (.Name x pos') .Add e pos) (mAug i (fun i j => i + j) ma) :=
  mkS (ps_aug hN hi hx he ip_add hf) (js_aug je_cE)
theorem s_augSub {i : Nat} (hN : X.N.Nodup) (hi : X.N[i]? = some x) (hx : Loc X.env.scope x) (he : ME X xc W e ma) (hf : X.fn x = true ∨ X.env.scope.names.lookup x = some .local := by first | exact .inl rfl | exact .inr rfl | assumption) : MS X xc W (.AugAssign (.Name x pos') .Sub e pos) (mAug i (fun i j => i - j) ma) :=
  mkS (ps_aug hN hi hx he ip_sub hf) (js_aug je_cE)
end
end Mi

set_option Elab.async false
set_option linter.all false
set_option maxRecDepth 100000
set_option autoImplicit false
namespace Mi
open PySem L2
section
variable {K : PySem.W.Frag} {xc : XC} {W : WX}
/-! ### {k: v, ..} -/
def PDen (K : PySem.W.Frag) (S : Hp) : List (D × D) → List (V × V) → Prop
  | [], ps => ps = []
  | d :: ds, ps => ∃ x y r, ps = (x, y) :: r ∧ Den K S d.1 x ∧ Den K S d.2 y ∧ PDen K S ds r
def PPost (K : PySem.W.Frag) (S H : Hp) (σ : Sg) (ρ : Rho) (Q : List (V × V) → Hp → Prop) (ds : List (D × D)) (ρ' : Rho) : Prop := ∀ S' H' ps, Stp S H σ ρ S' H' σ ρ' → Rel K S' H' σ ρ' → PDen K S' ds ps → Q ps H'
def JP (K : PySem.W.Frag) (xc : XC) (W : WX) (t : List (TE × TE)) (m : Rho → R (List (D × D))) : Prop := ∀ S H σ ρ Q, Rel K S H σ ρ → ROk (PPost K S H σ ρ Q) (XPost K xc W S H σ ρ) (m ρ) → tPairs t σ H Q
def mP0 (ρ : Rho) : R (List (D × D)) := .ok [] ρ
def mP1 (mk mv : Rho → R EV) (mr : Rho → R (List (D × D))) (ρ : Rho) : R (List (D × D)) := (mFrz mk ρ).bind fun ek ρ1 => (mFrz mv ρ1).bind fun ev ρ2 => match ek, ev with
  | .d k, .d v => (mr ρ2).bind fun ps ρ3 => .ok ((k, v) :: ps) ρ3
  | _, _ => .stuck
theorem jp_0 : JP K xc W [] mP0 := fun S H σ ρ Q R h => h S H [] .refl R rfl
theorem jp_1 {tk tv : TE} {tr : List (TE × TE)} {mk mv : Rho → R EV} {mr : Rho → R (List (D × D))} (hk : JE K xc W tk mk) (hv : JE K xc W tv mv) (hr : JP K xc W tr mr) : JP K xc W ((tk, tv) :: tr) (mP1 mk mv mr) := by
  intro S H σ ρ Q R h
  refine je_frz hk S H σ ρ _ R (ROk.mono (ROk.bind h) (fun ek ρ1 h1 => ?_) fun _ _ z => z)
  intro S1 H1 x s1 R1 e1
  refine je_frz hv S1 H1 σ ρ1 _ R1 (ROk.mono (ROk.bind h1) (fun ev ρ2 h2 => ?_) fun _ _ z => z.step s1)
  intro S2 H2 y s2 R2 e2
  match ek, ev, h2, e1, e2 with
  | .d k, .d v, h2, e1, e2 =>
    have h2 : ROk (PPost K S H σ ρ Q) (XPost K xc W S H σ ρ) ((mr ρ2).bind fun ps ρ3 => .ok ((k, v) :: ps) ρ3) := h2
    refine hr S2 H2 σ ρ2 _ R2 (ROk.mono (ROk.bind h2) (fun ps ρ3 h3 => ?_) fun _ _ z => z.step (s1.trans s2))
    intro S3 H3 qs s3 R3 e3
    have e1 : Den K S1 k x := e1
    have e2 : Den K S2 v y := e2
    exact h3 S3 H3 ((x, y) :: qs) ((s1.trans s2).trans s3) R3 ⟨x, y, qs, rfl, e1.same (s2.ex.trans s3.ex), e2.same s3.ex, e3⟩
  | .d _, .new _, h2, _, _ => exact h2.elim
  | .d _, .slot _, h2, _, _ => exact h2.elim
  | .new _, _, h2, _, _ => exact h2.elim
  | .slot _, _, h2, _, _ => exact h2.elim
def keysOf : List (D × D) → Option (List (Key × D))
  | [] => some []
  | p :: ps => (keyOf p.1).bind fun k => (keysOf ps).map fun r => (k, p.2) :: r
def mergeD (kvs more : List (Key × D)) : List (Key × D) := more.foldl (fun acc kv => putD acc kv.1 kv.2) kvs
theorem pden_keys {S : Hp} : ∀ {ds : List (D × D)} {ps : List (V × V)} {kd : List (Key × D)}, PDen K S ds ps → keysOf ds = some kd → ∃ kvs : List (Key × V), ps = kvs.map (fun kv => (kV kv.1, kv.2)) ∧ KDen K S kd kvs
  | [], ps, kd, h, q => by
    simp only [keysOf, Option.some.injEq] at q; subst q
    have e : ps = [] := h
    subst e
    exact ⟨[], rfl, rfl⟩
  | d :: ds, ps, kd, h, q => by
    simp only [keysOf, Option.bind_eq_some_iff, Option.map_eq_some_iff] at q
    obtain ⟨k, q1, r, q2, rfl⟩ := q
    obtain ⟨x, y, t, rfl, h1, h2, h3⟩ := h
    obtain ⟨kvs, e1, e2⟩ := pden_keys h3 q2
    refine ⟨(k, y) :: kvs, ?_, y, kvs, rfl, h2, e2⟩
    rw [List.map_cons, e1, keyOf_v h1 q1]
theorem kden_merge {S : Hp} : ∀ {more : List (Key × D)} {mv : List (Key × V)} {kvs : List (Key × D)} {vs : List (Key × V)}, KDen K S more mv → KDen K S kvs vs → KDen K S (mergeD kvs more) (mergeK vs mv)
  | [], mv, kvs, vs, h, h2 => by
    have e : mv = [] := h
    subst e
    exact h2
  | p :: more, mv, kvs, vs, h, h2 => by
    obtain ⟨v, r, rfl, h3, h4⟩ := h
    exact kden_merge (kvs := putD kvs p.1 p.2) (vs := putK vs p.1 v) h4 (kden_put h2 h3)
def mDisp (m : Rho → R (List (D × D))) (ρ : Rho) : R EV := (m ρ).bind fun ds ρ1 => R.of ((keysOf ds).bind fun kd => if decide (kd.length ≤ 15) then some (.new (.dic (mergeD [] kd))) else none) ρ1
theorem je_disp {t : List (TE × TE)} {m : Rho → R (List (D × D))} (hp : JP K xc W t m) : JE K xc W (tDisp t) (mDisp m) := by
  intro S H σ ρ Q R h p hp0
  have g : Grow S H S (upd H p (.dK [])) := Grow.loose R.sub hp0
  have nO : ¬ Own σ ρ p := fun z => by
    obtain ⟨o, e, _⟩ := R.own_some z
    rw [hp0] at e; cases e
  have s0 : Stp S H σ ρ S (upd H p (.dK [])) σ ρ := .laid g
  have at1 : upd H p (HO.dK []) p = some (.dK []) := upd_same
  have sp : S p = none := L2.Same.free R.sub hp0
  refine hp S (upd H p (.dK [])) σ ρ _ (R.laid g) (ROk.mono (ROk.bind h) (fun ds ρ1 h1 => ?_) fun _ _ z => z.step s0)
  intro S2 H2 ps s2 R2 e2
  obtain ⟨ev, q, hq⟩ := ROk.of h1
  simp only [Option.bind_eq_some_iff] at q
  obtain ⟨kd, q1, q2⟩ := q
  obtain ⟨c, rfl⟩ := some_ite q2
  have c := of_decide_eq_true c
  have k2 : H2 p = some (.dK []) := s2.fr p _ at1 nO
  have sp2 : S2 p = none := by
    cases z : S2 p with
    | none => rfl
    | some o =>
      rcases s2.nw p o z with y | y | y
      · rw [sp] at y; cases y
      · rw [at1] at y; cases y
      · exact (nO y).elim
  have nO2 : ¬ Own σ ρ1 p := fun z => by
    rcases s2.ow p z with y | y
    · exact nO y
    · rw [at1] at y; cases y
  obtain ⟨kvs, e3, e4⟩ := pden_keys e2 q1
  refine ⟨k2, kvs, e3, by rw [kden_len e4]; exact c, ?_⟩
  have md : KDen K S2 (mergeD [] kd) (mergeK [] kvs) := kden_merge e4 rfl
  exact hq S2 _ (.ref p) (stp_upd (s0.trans s2) hp0) (rel_upd R2 sp2 nO2) ⟨p, _, rfl, upd_same, sp2, nO2, ⟨_, rfl, md⟩, .inl hp0⟩
end
section
variable {X : Cx} {xc : XC} {W : WX}
def MP (X : Cx) (xc : XC) (W : WX) (pos : Pos) (ks : List (Option Expr)) (vs : List Expr) (m : Rho → R (List (D × D))) : Prop := ∃ t, PPs X pos ks vs t ∧ JP X.K xc W t m
theorem p_0 {pos : Pos} : MP X xc W pos [] [] mP0 := ⟨_, pps_nil, jp_0⟩
theorem p_1 {pos : Pos} {k v : Expr} {ks : List (Option Expr)} {vs : List Expr} {mk mv : Rho → R EV} {mr : Rho → R (List (D × D))} (hk : ME X xc W k mk) (hv : ME X xc W v mv) (hr : MP X xc W pos ks vs mr) : MP X xc W pos (some k :: ks) (v :: vs) (mP1 mk mv mr) := by
  obtain ⟨t, h1, h2⟩ := hr
  exact ⟨_, pps_cons hk hv h1, jp_1 je_cE je_cE h2⟩
theorem r_disp {pos : Pos} {ks : List (Option Expr)} {vs : List Expr} {m : Rho → R (List (D × D))} (h : MP X xc W pos ks vs m) (hall : ks.all (·.isSome) = true := by rfl) (hl : ks.length = vs.length := by rfl) (h0 : ks ≠ [] := by exact fun z => by cases z) (h15 : ks.length ≤ 15 := by decide) : ME X xc W (.Dict ks vs pos) (mDisp m) := by
  obtain ⟨t, h1, h2⟩ := h
  exact mkE (pe_disp h1 hall hl h0 h15) (je_disp h2)
end
end Mi

set_option Elab.async false
set_option linter.all false
set_option maxRecDepth 100000
set_option autoImplicit false
namespace Mi
open PySem L2
section
variable {X : Cx} {xc : XC} {W : WX}
/-- a name of the module that holds an int -/
theorem r_globI {x : Str} {i : Int} {pos : Pos} (hg : Gl X x) (hm : ∃ t, X.mg x = some (.int i t)) (hd : (x == ("__debug__" : Str)) = false := by decide) : ME X xc W (.Name x pos) (mC (.int i)) := by
  obtain ⟨t, e⟩ := hm
  exact mkE (pe_glob (v := .int i) hg e ⟨t, rfl⟩ hd) (je_c fun _ => of_int)
end
end Mi

set_option Elab.async false
set_option linter.all false
set_option maxRecDepth 100000
set_option autoImplicit false
namespace Mi
open PySem L2
section
variable {K : PySem.W.Frag} {xc : XC} {W : WX} {S S1 S' H H1 H' H0 S0 : Hp} {σ σ1 σ2 σ' σ0 : Sg} {ρ ρ1 ρ2 ρ' ρ0 : Rho}
/-! ### all(e for t in xs) -/
def allL (vs : List Nat) (mt : D → Rho → Option Rho) (el : Rho → R EV) : List D → Rho → R EV
  | [], ρ => .ok (.d (.bl true)) ρ
  | d :: ds, ρ => match mt d ρ with
    | none => .stuck
    | some ρ1 => match el ρ1 with
      | .ok (.d (.bl true)) ρ2 => allL vs mt el ds (wipeR ρ2 vs)
      | .ok (.d (.bl false)) ρ2 => .ok (.d (.bl false)) (wipeR ρ2 vs)
      | _ => .stuck
def mAllG (mi : Rho → R (List D)) (vs : List Nat) (mt : D → Rho → Option Rho) (el : Rho → R EV) (ρ : Rho) : R EV :=
  (mi ρ).bind fun ds ρ1 => if wipeOk ρ1 vs then allL vs mt el ds (wipeR ρ1 vs) else .stuck
theorem je_allG {P : Addr} {wi : TI} {g : TG} {te : TE} {vs sl : List Nat} {mi : Rho → R (List D)} {mt : D → Rho → Option Rho} {el : Rho → R EV} (hP : P ∈ tabsOf K) (hi : JI K xc W wi mi) (hg : JG K g sl mt) (he : JE K xc WF te el) (hsl : ∀ j ∈ sl, j ∈ vs) :
    JE K xc W (tAllG P wi g te vs) (mAllG mi vs mt el) := by
  intro S H σ ρ Q R h
  refine hi S H σ ρ _ R (ROk.mono (ROk.bind h) (fun ds ρ1 h1 => ?_) fun _ _ z => z)
  intro S1 H1 J s1 R1 ok
  by_cases cw : wipeOk ρ1 vs = true
  · rw [if_pos cw] at h1
    refine ⟨R1.sub P _ (R1.tab P hP), ?_⟩
    have subW : ∀ {σa : Sg} {ρa : Rho}, Sub σa ρa σa (wipeR ρa vs) := fun {σa ρa} => ⟨rfl, wipeR_length _ _, fun i c e => by
      by_cases ci : i ∈ vs
      · exact .inl (wipeR_in ci e)
      · rw [wipeR_out ci] at e; exact .inr ⟨e, rfl⟩⟩
    have bo1 : ∀ (i : Nat) o, ρ1[i]? = some (.own true o) → i ∉ vs := fun i o e => wipeOk_no cw e
    refine ⟨fun i m H' => ∃ S' ρ', Stp S1 H1 σ ρ1 S' H' σ ρ' ∧ Rel K S' H' σ ρ' ∧ (∀ v ∈ vs, ∀ c, ρ'[v]? = some c → c = .no) ∧ m = ds.length - i ∧ i ≤ ds.length ∧
        ROk (EPost K S H σ ρ Q) (XPost K xc W S H σ ρ) (allL vs mt el (ds.drop i) ρ'), ?_, ?_⟩
    · exact ⟨_, S1, wipeR ρ1 vs, subW.stp .refl fun i o e => ⟨rfl, wipeR_out (bo1 i o e)⟩, subW.rel R1, fun v hv c e => wipeR_in hv e, rfl, Nat.zero_le _, h1⟩
    · rintro i m H' ⟨S', ρ', st, R', hno, rfl, hi2, h2⟩
      obtain ⟨go, stop⟩ := ok S' H' st.ex R'.sub i
      by_cases c : i < ds.length
      · obtain ⟨g1, yl⟩ := go c
        refine .inr ⟨g1, fun H3 => ∃ S3 ρ3, Stp S1 H1 σ ρ1 S3 H3 σ ρ3 ∧ Rel K S3 H3 σ ρ3 ∧ (∀ v ∈ vs, ∀ c, ρ3[v]? = some c → c = .no) ∧
          ROk (EPost K S H σ ρ Q) (XPost K xc W S H σ ρ) (allL vs mt el (ds.drop (i + 1)) ρ3), ?_, ?_⟩
        · rintro H3 ⟨S3, ρ3, a1, a2, a3, a8⟩
          exact ⟨ds.length - (i + 1), by omega, S3, ρ3, a1, a2, a3, rfl, c, a8⟩
        · intro x H3 yx
          obtain ⟨S3, gr, d, ed, hd⟩ := yl x H3 yx
          have dr : ds.drop i = d :: ds.drop (i + 1) := by
            rw [List.drop_eq_getElem_cons c]
            congr 1
            rw [List.getElem?_eq_getElem c] at ed
            exact Option.some.inj ed
          rw [dr] at h2
          simp only [allL] at h2
          have subIn : Sub σ ρ' (wipe σ vs) ρ' := ⟨wipe_length _ _, rfl, fun j cc e => by
            by_cases cj : j ∈ vs
            · exact .inl (hno j cj cc e)
            · exact .inr ⟨e, wipe_out cj⟩⟩
          have R3 := subIn.rel (R'.laid gr)
          have st3 : Stp S1 H1 σ ρ1 S3 H3 (wipe σ vs) ρ' := subIn.stp (st.trans (.laid gr)) fun j o e => ⟨wipe_out (bo1 j o e), rfl⟩
          cases qt : mt d ρ' with
          | none => simp only [qt] at h2; exact h2.elim
          | some ρ4 =>
            simp only [qt] at h2
            refine hg S3 H3 (wipe σ vs) ρ' x d ρ4 _ R3 hd qt fun σ4 s4 R4 hk => ?_
            have hl4 : σ4.length = σ.length := by rw [hk.1, wipe_length]
            have keep4 : ∀ j : Nat, j ∉ vs → σ4[j]? = σ[j]? := fun j hj => by rw [hk.2 j fun z => hj (hsl j z)]; exact wipe_out hj
            refine ⟨wipe_eq hl4 keep4, ?_⟩
            have subOut : ∀ {ρx : Rho}, ρx.length = ρ4.length → Sub σ4 ρx σ (wipeR ρx vs) := fun {ρx} _ => ⟨hl4.symm, wipeR_length _ _, fun j cc e => by
              by_cases cj : j ∈ vs
              · exact .inl (wipeR_in cj e)
              · rw [wipeR_out cj] at e; exact .inr ⟨e, (keep4 j cj).symm⟩⟩
            have st4 := st3.trans s4
            cases qe : el ρ4 with
            | stuck => simp only [qe] at h2; exact h2.elim
            | exn e ρ6 => simp only [qe] at h2; exact h2.elim
            | ok ev ρ6 =>
              refine he S3 H3 σ4 ρ4 _ R4 ?_
              rw [qe]
              intro S6 H6 v s6 R6 hv
              have st6 := st4.trans s6
              have len6 : ρ6.length = ρ4.length := by rw [← R6.len, ← R4.len]
              have sb := subOut len6
              have stq : Stp S1 H1 σ ρ1 S6 H6 σ (wipeR ρ6 vs) := sb.stp st6 fun j o e => ⟨(keep4 j (bo1 j o e)).symm, wipeR_out (bo1 j o e)⟩
              match ev, h2, qe, hv with
              | .d (.bl true), h2, qe, hv =>
                simp only [qe] at h2
                exact .inl ⟨den_bl (show Den K S6 (.bl true) v from hv), S6, wipeR ρ6 vs, stq, sb.rel R6, fun v hv c e => wipeR_in hv e, h2⟩
              | .d (.bl false), h2, qe, hv =>
                simp only [qe] at h2
                refine .inr ⟨den_bl (show Den K S6 (.bl false) v from hv), ?_⟩
                exact h2 S6 H6 _ (s1.trans stq) (sb.rel R6) (show Den K S6 (.bl false) (.bl false) from of_bl)
              | .d .non, h2, qe, _ => simp only [qe] at h2; exact h2.elim
              | .d (.int _), h2, qe, _ => simp only [qe] at h2; exact h2.elim
              | .d (.str _), h2, qe, _ => simp only [qe] at h2; exact h2.elim
              | .d (.ref _), h2, qe, _ => simp only [qe] at h2; exact h2.elim
              | .d (.tup _), h2, qe, _ => simp only [qe] at h2; exact h2.elim
              | .d (.lst _), h2, qe, _ => simp only [qe] at h2; exact h2.elim
              | .d .emp, h2, qe, _ => simp only [qe] at h2; exact h2.elim
              | .new _, h2, qe, _ => simp only [qe] at h2; exact h2.elim
              | .slot _, h2, qe, _ => simp only [qe] at h2; exact h2.elim
      · have c' : ds.length ≤ i := Nat.le_of_not_lt c
        refine .inl ⟨stop c', ?_⟩
        rw [List.drop_eq_nil_of_le c'] at h2
        exact h2 S' H' _ (s1.trans st) R' (show Den K S' (.bl true) (.bl true) from of_bl)
  · rw [if_neg cw] at h1; exact h1.elim
end
/-- the code object of the running def, and its table -/
def CodeAt (K : PySem.W.Frag) (mg : Str → Option Value) (base : Heap) (cdv : Value) : Prop := ∃ c P, cdv = .ref c ∧ P ∈ tabsOf K ∧ GxR.TabB base mg c P
section
variable {X : Cx} {xc : XC} {W : WX} {elt tg iter e : Expr} {scope : Scope} {pos gpos p : Pos} {mi : Rho → R (List D)} {sl : List Nat} {mt : D → Rho → Option Rho} {el : Rho → R EV} {k : Nat}
theorem r_allG {own : List (Str × Nat)} (hcd : CodeAt X.K X.mg X.base X.env.code) (hr : Room (k + 3) X.A) (hc : X.calm = true) (hN : X.N.Nodup) (hgl : Gl X "all") (hm : X.mg "all" = none) (hi : MI X xc W tg iter mi) (ok : BlkOk X.N X.env.scope scope own)
    (hco : scope.isCoroutine = false) (nc : ∀ y ∈ scope.names, y.2 ≠ .cell) (h0 : scope.names.lookup (".0" : Str) = some NameKind.local)
    (hg : ∀ (s : Shared) (H : Hp) (C : Addr) (code : Value) (fp : List Addr), MG (Cx.gen X s H (genEnv scope (cloFrom X.env.cells scope.names []) C code builtinsNs X.env) fp) tg sl mt)
    (he : ∀ (s : Shared) (H : Hp) (C : Addr) (code : Value) (fp : List Addr), Room k (X.A.in1.in1.deeper (genEnv scope (cloFrom X.env.cells scope.names []) C code builtinsNs X.env)) → ME (Cx.gen X s H (genEnv scope (cloFrom X.env.cells scope.names []) C code builtinsNs X.env) fp) xc WF elt el)
    (hsl : ∀ j ∈ sl, j ∈ own.map (·.2)) (hs : ∀ v, genFold iter X.env v = pure v := by intro _; rfl)
    (hse : starEach [.GeneratorExp elt [⟨tg, iter, [], 0⟩] scope gpos] X.env = (false, eval (.GeneratorExp elt [⟨tg, iter, [], 0⟩] scope gpos) X.env) :: starEach [] X.env := by rfl) :
    ME X xc W (.Call (.Name "all" p) [.GeneratorExp elt [⟨tg, iter, [], 0⟩] scope gpos] [] pos) (mAllG mi (own.map (·.2)) mt el) := by
  obtain ⟨c, P, hc1, hP, TB⟩ := hcd
  exact mkE (pe_allG hr hc hN hgl hm TB hc1 hi ok hco nc h0 hg he hs hse) (je_allG hP ji_cI jg_cG je_cE hsl)
end
section
variable {K : PySem.W.Frag} {xc : XC} {P : Program} {w : World} {mg : Str → Option Value} {base : Heap}
/-- THE RULE for a def that holds generator expressions -/
theorem fn_okT {x qual : Str} {st : Stmt} {f : Addr} {fd : FuncData} {N ps : List Str} {k : Nat} {body : Rho → Out} (TF : TabFns K mg base) (hxq : x = qual) (F : Fun K x qual st f fd) (Sc : FnScope N ps (defScope st)) (hps : ps.length ≤ N.length)
    (hbody : ∀ (cdv : Value) (A : Around) (outer : List PySem.Env) (s : Shared) (H : Hp) (E : XK), CodeAt K mg base cdv → Room k (A.deeper (PyProof.Rows.envOfC qual (defScope st) s.heap.objs.size f cdv)) →
      MSs (cxOf (L2.CX P w) P w K mg base N qual (defScope st) f cdv A outer s H E) xc (fun c d _ H' => E c d H') (defBody st) body) :
    FnOk P w K mg base (L2.CX P w) (k + 1) f fd ps (FSp K xc ps.length (callOf N.length body)) := by
  obtain ⟨oc, od, kV, doc, pm, an, cdv, ct, osl, hfd, lk, hcd⟩ := F.ex
  subst hxq
  have hC : CodeAt K mg base cdv := by
    obtain ⟨c, P', e1, e2, e3⟩ := TF f _ fd lk rfl (by rw [hfd])
    refine ⟨c, P', ?_, e2, e3⟩
    rw [hfd] at e1
    exact e1
  exact fn_okC hfd lk hcd Sc hps fun A outer s H E hr => hbody cdv A outer s H E hC hr
end
end Mi

set_option Elab.async false
set_option linter.all false
set_option maxRecDepth 100000
set_option autoImplicit false
set_option maxHeartbeats 1000000
namespace Mi
open PySem PySem.Spec PyProof.Rows L2
/-! ### walks that hand out tuples, over sources that stay -/
theorem turn_of {P : Program} {w : World} {K : PySem.W.Frag} {elts : List Expr} {kk : Nat} {tpos : Pos} {it : Addr} {fp : List Addr} {tn : Nat → Heap → Prop} {J : It} (mem : it ∈ fp) (obj : ∀ i h, tn i h → ∀ b ∈ fp, ∃ o, h.get? b = some o ∧ ∀ v, o.data ≠ .cell v)
    (keep : ∀ i h h', tn i h → (∀ b ∈ fp, ∀ o, h.get? b = some o → h'.get? b = some o) → tn i h') (self : ∀ (A : Around) (i : Nat) (s : Shared) (Q : Value → Shared → Prop) (E : Value → Shared → Prop), tn i s.heap → Q (.ref it) s → wpAny (model P w) A (pyIter (.ref it)) Q E s)
    (W : ∀ (X : Cx), X.prog = P → X.w = w → X.K = K → X.calm = true → ∀ (i : Nat) (pins : List (Addr × Obj)) (s : Shared) (σ : L2.St) (H : Hp), Inv X pins σ H s → (J.go i H ∨ J.stop i H) → tn i s.heap →
      ∃ (fpa : List Addr) (n : Nat) (Pt : Nat → Array Value → Prop) (St : Nat → Heap → Prop) (Mid : Nat → Addr → Heap → Prop), WalksT P w X.A it fpa fp n Pt St Mid ∧ St i s.heap ∧ (∀ h, i < n → St (i + 1) h → tn (i + 1) h) ∧
        (J.go i H → i < n ∧ ∀ us, Pt i us → ∃ vs, Vals vs us.toList ∧ vs.length ≤ sizeLine ∧ ∀ T, H T = none → J.yld i H (.ref T) (upd H T (.tup vs))) ∧ (J.stop i H → i = n)) :
    Turn P w K (.Tuple elts kk tpos) J fp it tn where
  mem := mem
  obj := obj
  keep := keep
  item := by
    intro X hP hw hK hc i pins s σ H E I hf st hg
    obtain ⟨fpa, n, Pt, St, Mid, Wk, hst, hnext, hgo, _⟩ := W X hP hw hK hc i pins s σ H I (.inl hg) st
    subst hP hw hK
    obtain ⟨hlt, hv⟩ := hgo hg
    refine Wk.item i s _ _ hlt hst fun T vals h' tk hPt hT hTup hMid hk => ?_
    refine ⟨_, rfl, Wk.go elts kk tpos i T { s with heap := h', toks := tk } _ _ hMid fun h'' hst' hk' => ?_⟩
    obtain ⟨vs, rv, hl, hy⟩ := hv vals hPt
    have hTw : T ∉ fp := Wk.apart i T h' hMid
    have new : ObjOk X.prog X.w (upd H T (.tup vs)) h'' T (.tup vs) := ⟨hl, vals.toList, rv, by
      have e : vals.toList.toArray = vals := Array.toArray_toList
      rw [e]
      obtain ⟨o, ho, r⟩ := hTup
      exact ⟨o, hk' T o hTw ho, r⟩⟩
    have I1 : Inv X pins σ (upd H T (.tup vs)) { s with heap := h'', toks := tk } :=
      I.turnedNew (ch := fp) (fun b ob hb q => hk' b ob hb (hk b ob hb q)) hf hT new
    refine ⟨.ref T, _, I1, rfl, hy T (I.hok.fresh hT), hnext h'' hlt hst', fun b hb => ?_⟩
    have hb' : b ≠ T := fun z => hTw (by rw [← z]; exact hb)
    rw [upd_ne hb']
    exact (hf b hb).1
  done := by
    intro X hP hw hK hc i pins s σ H E I hf st hg
    obtain ⟨fpa, n, Pt, St, Mid, Wk, hst, hnext, _, hstop⟩ := W X hP hw hK hc i pins s σ H I (.inr hg) st
    subst hP hw hK
    have e := hstop hg
    subst e
    exact Wk.done s _ _ hst fun h' tk hk => ⟨rfl, I.turnedL (t' := tk) (ch := fp) (fun b o hb q => hk b o hb q) hf⟩
  self := self

/-! ### a source: a list or a tuple -/
def SqK (k : Bool) (K : PySem.W.Frag) (H : Hp) (a : Addr) (xs : List V) : Prop := match k with | true => SqL K H a xs | false => SqT K H a xs
def ItA (k : Bool) (h : Heap) (it a : Addr) (i : Nat) : Prop := match k with | true => h.IsListIter it a i | false => h.IsTupleIter it a i
def SrA (k : Bool) (h : Heap) (a : Addr) (its : Array Value) : Prop := match k with | true => h.IsList a its | false => h.IsTuple a its
def itObj (k : Bool) (a : Addr) : Obj := { cls := .type (match k with | true => "list_iterator" | false => "tuple_iterator"), data := .fields #[.ref a, .int 0 0] }
theorem drawsA {prog : Program} {w : World} {A : Around} (k : Bool) (hh : A.handled = none) (it a : Addr) (hne : a ≠ it) (items : Array Value) :
    Draws prog w A it [it, a] items.size (fun i v => items[i]? = some v) (fun i h => ItA k h it a i ∧ SrA k h a items) := by
  cases k with
  | true => exact Draws.list hh it a hne items
  | false => exact Draws.tuple hh it a hne items
theorem beginsA (k : Bool) (a : Addr) (items : Array Value) : Begins (.ref a) (itObj k a) fun h => SrA k h a items := by
  cases k with
  | true => exact begins_list a items
  | false => exact begins_tuple a items
theorem itA_new (k : Bool) {h : Heap} {it a : Addr} (e : h.get? it = some (itObj k a)) : ItA k h it a 0 := by
  cases k with
  | true => exact ⟨_, e, rfl, rfl⟩
  | false => exact ⟨_, e, rfl, rfl⟩
theorem itA_at {k : Bool} {h h' : Heap} {it a : Addr} {i : Nat} (x : ItA k h it a i) (e : ∀ o, h.get? it = some o → h'.get? it = some o) : ItA k h' it a i := by
  cases k with
  | true => obtain ⟨o, ho, r⟩ := x; exact ⟨o, e _ ho, r⟩
  | false => obtain ⟨o, ho, r⟩ := x; exact ⟨o, e _ ho, r⟩
theorem itA_obj {k : Bool} {h : Heap} {it a : Addr} {i : Nat} (x : ItA k h it a i) : ∃ o, h.get? it = some o ∧ ∀ v, o.data ≠ .cell v := by
  cases k with
  | true => obtain ⟨o, ho, _, hd⟩ := x; exact ⟨o, ho, fun v q => by rw [hd] at q; cases q⟩
  | false => obtain ⟨o, ho, _, hd⟩ := x; exact ⟨o, ho, fun v q => by rw [hd] at q; cases q⟩
section
variable {X : Cx} {pins : List (Addr × Obj)} {σ : L2.St} {H : Hp} {s : Shared}
theorem sqK_at {k : Bool} {a : Addr} {xs : List V} (I : Inv X pins σ H s) (h : SqK k X.K H a xs) : ∃ its, Vals xs its ∧ SrA k s.heap a its.toArray ∧ xs.length ≤ sizeLine := by
  cases k with
  | true => obtain ⟨its, r, p, z⟩ := I.list h; exact ⟨its, r, p.isList, z⟩
  | false => obtain ⟨its, r, p, z⟩ := I.tuple h; exact ⟨its, r, p, z⟩
theorem srA_lt {k : Bool} {h : Heap} {a : Addr} {its : Array Value} (x : SrA k h a its) : a < h.objs.size := by
  cases k with
  | true => obtain ⟨_, ho, _⟩ := x; exact Heap.lt_size ho
  | false => obtain ⟨_, ho, _⟩ := x; exact Heap.lt_size ho
end
/-! ### enumerate -/
def IteA (K : PySem.W.Frag) (k : Bool) (a : Addr) (xs : List V) : It :=
  ⟨fun i H => SqK k K H a xs ∧ i < xs.length, fun i H v H' => ∃ T x, v = .ref T ∧ H T = none ∧ H' = upd H T (.tup [.int (i : Nat), x]) ∧ xs[i]? = some x, fun i H => SqK k K H a xs ∧ xs.length ≤ i⟩
theorem turn_enumA {P : Program} {w : World} {K : PySem.W.Frag} {elts : List Expr} {kk : Nat} {tpos : Pos} (k : Bool) (a e it : Addr) (xs : List V) :
    Turn P w K (.Tuple elts kk tpos) (IteA K k a xs) [e, it] e (fun i h => (∃ old, IsEnum h e it ((i : Nat) : Int) old) ∧ ItA k h it a i ∧ e ≠ it ∧ a ≠ it ∧ a ≠ e ∧ i ≤ xs.length) := by
  refine turn_of (by simp) (fun i h st b hb => ?_) (fun i h h' st kp => ?_) (fun A i s Q E st h => ?_) ?_
  · obtain ⟨⟨old, he⟩, hit, _⟩ := st
    have e' : b = e ∨ b = it := by simpa using hb
    rcases e' with z | z
    · rw [z]; exact ⟨_, he, fun v q => nomatch q⟩
    · rw [z]; exact itA_obj hit
  · obtain ⟨⟨old, he⟩, hi, r⟩ := st
    exact ⟨⟨old, kp e (by simp) _ he⟩, itA_at hi fun o q => kp it (by simp) o q, r⟩
  · obtain ⟨⟨old, he⟩, _⟩ := st
    exact wpAny_pyIter_enum he h
  · intro X hP hw hK hc i pins s σ H I hg st
    subst hP hw hK
    obtain ⟨⟨old, he⟩, hit, n1, n2, n3, hle⟩ := st
    have hq : SqK k X.K H a xs := hg.elim (·.1) (·.1)
    obtain ⟨its, rv, p, hz⟩ := sqK_at I hq
    have hl := rv.length
    have D := drawsA (prog := X.prog) (w := X.w) (A := X.A.in1) k (I.ok.hd hc) it a n2 its.toArray
    refine ⟨_, _, _, _, _, WalksT.enumFrom 0 D e n1 (by simp; exact ⟨n1, fun z => n3 z.symm⟩) (by simp), ⟨⟨old, by simpa using he⟩, hit, p⟩, fun h hlt st' => ?_, fun hgo => ⟨?_, fun us ⟨t, x, hx, eu⟩ => ?_⟩, fun hst => ?_⟩
    · obtain ⟨⟨old', he'⟩, hit', _⟩ := st'
      have e0 : (0 : Int) + ((i + 1 : Nat) : Int) = ((i + 1 : Nat) : Int) := by omega
      rw [e0] at he'
      exact ⟨⟨old', he'⟩, hit', n1, n2, n3, by simp at hlt; omega⟩
    · have := hgo.2
      simp; omega
    · have hlt := hgo.2
      have ex : xs[i]? = some xs[i] := List.getElem?_eq_getElem hlt
      obtain ⟨u, hu, ru⟩ := rv.get ex
      have hxu : x = u := by
        have hx' : its[i]? = some x := by simpa using hx
        rw [hu] at hx'
        exact (Option.some.inj hx').symm
      refine ⟨[.int (i : Nat), xs[i]], ?_, by show 2 ≤ sizeLine; decide, fun T hT => ⟨T, xs[i], rfl, hT, rfl, ex⟩⟩
      rw [eu, hxu]
      exact .cons ⟨t, by simp⟩ (.cons ru .nil)
    · have := hst.2
      simp; omega
def iEnumA (K : PySem.W.Frag) (ta : TA) : TI := fun σ H R => ta σ H fun vs H1 => ∃ k a xs, vs = [.ref a] ∧ SqK k K H1 a xs ∧ R (IteA K k a xs) H1
set_option maxHeartbeats 1000000 in
theorem meets_enumA {v : Value} {o : Obj} {Hs : Heap → Prop} (B : Begins v o Hs) :
    Meets (Builtin.«enumerate.__new__» ⟨[.type "enumerate", v], []⟩) (fun _ R s => Hs s.heap ∧
      R (.ok (.ret (.ref (s.heap.push o).objs.size))) { s with heap := (s.heap.push o).push { cls := .type "enumerate", data := .fields #[.none, .bool false, .ref s.heap.objs.size, rawInt 0, .none, .none] } }) :=
  .of_wp fun prog w A R s h => by
    obtain ⟨hp, g, d, tk, os⟩ := s; obtain ⟨h1, h⟩ := h
    have hsub := sub_enumerate
    have q1 : ∀ {A' : Around} {E : Value → Shared → Prop} {Q : Value → Shared → Prop}, Q (.ref hp.objs.size) ⟨hp.push o, g, d, tk, os⟩ → wpAny (model prog w) A' (pyIter v) Q E ⟨hp, g, d, tk, os⟩ :=
      fun q => B.iter prog w _ _ ⟨hp, g, d, tk, os⟩ _ h1 q
    wp_walk using q1
    refine wpAny_stack_any fun st => wpAny_pure ?_
    split
    · rename_i c _ _ _ _ _
      cases (c == Value.type "enumerate")
      · wp_walk using q1
        exact ⟨_, rfl, h⟩
      · wp_walk using q1
        exact ⟨_, rfl, h⟩
    · wp_walk using q1
      exact ⟨_, rfl, h⟩
theorem call_enumA {prog : Program} {w : World} {A : Around} {E : Value → Shared → Prop} {s : Shared} {v : Value} {o : Obj} {Hs : Heap → Prop} {Q : Value → Shared → Prop} (B : Begins v o Hs) (h1 : Hs s.heap)
    (h : ∀ h', IsEnum h' (s.heap.objs.size + 1) s.heap.objs.size 0 .none → h'.get? s.heap.objs.size = some o → h'.objs.size = s.heap.objs.size + 2 →
      (∀ b o, s.heap.get? b = some o → h'.get? b = some o) → Q (.ref (s.heap.objs.size + 1)) { s with heap := h' }) :
    wpAny (model prog w) A (call (.type "enumerate") [v]) Q E s := by
  refine callType_new F.called_enumerate (by decide) (F.typeCall_enumerate_1 _) (F.newCall_enumerate_1 _) (fun obj => F.args_object_init_2 obj _) F.entry_enumerate_new
    (meets_enumA B) ⟨h1, ?_⟩
  have hz : (s.heap.push o).objs.size = s.heap.objs.size + 1 := Heap.size_push ..
  show _ ∧ _
  rw [hz]
  have he : IsEnum ((s.heap.push o).push { cls := .type "enumerate", data := .fields #[.none, .bool false, .ref s.heap.objs.size, rawInt 0, .none, .none] }) (s.heap.objs.size + 1) s.heap.objs.size 0 .none := by
    have := Heap.get?_push_size (s.heap.push o) (o := { cls := .type "enumerate", data := .fields #[.none, .bool false, .ref s.heap.objs.size, rawInt 0, .none, .none] }) rfl
    rw [hz] at this; exact this
  refine ⟨⟨_, he, rfl⟩, h _ he (Heap.get?_push_of_some _ (Heap.get?_push_size _ B.free)) (by rw [Heap.size_push, hz]) fun b o x => Heap.get?_push_of_some _ (Heap.get?_push_of_some _ x)⟩
theorem pi_enumA {X : Cx} {e : Expr} {ta : TA} {p pos tpos : Pos} {elts : List Expr} {kk : Nat} (hg : Gl X "enumerate") (hm : X.mg "enumerate" = none) (ha : PA X [e] ta) (hs : starEach [e] X.env = [(false, eval e X.env)] := by rfl) :
    PI X (.Tuple elts kk tpos) (.Call (.Name "enumerate" p) [e] [] pos) (iEnumA X.K ta) := by
  refine ⟨fun pins s σ H R I h => ?_⟩
  refine Call_ (ld_blt I hg hm boot_enumerate (PyProof.Rows.callWith_type1 (thn (ha.run pos pins s σ H _ I h) fun us s1 ⟨vs, H1, I1, r1, q1⟩ => ?_) hs rfl))
  obtain ⟨k, a, xs, ex, hq, q⟩ := q1
  subst ex
  cases r1 with
  | cons r rr =>
    cases rr
    cases r
    obtain ⟨its, rv, p', hz⟩ := sqK_at I1 hq
    refine call_enumA (beginsA k a its.toArray) p' fun h' he hit hsz hk => wpAny_pyIter_enum he ?_
    have I2 : Inv X pins σ H1 { s1 with heap := h' } := I1.kept (t' := s1.toks) hk
    have ha : (a : Nat) < s1.heap.objs.size := srA_lt p'
    refine ⟨s1.heap.objs.size + 1, [s1.heap.objs.size + 1, s1.heap.objs.size], _, _, H1, rfl, I2, turn_enumA k a (s1.heap.objs.size + 1) s1.heap.objs.size xs, ⟨⟨.none, he⟩, itA_new k hit, Nat.succ_ne_self _, Nat.ne_of_lt ha, Nat.ne_of_lt (Nat.lt_succ_of_lt ha), Nat.zero_le _⟩, fun b hb => ?_, q⟩
    have e' : b = s1.heap.objs.size + 1 ∨ b = s1.heap.objs.size := by simpa using hb
    have hle : s1.heap.objs.size ≤ b := by
      rcases e' with z | z
      · rw [z]; exact Nat.le_add_right _ _
      · rw [z]; exact Nat.le_refl _
    exact I1.fpOk hle (I1.hok.fresh hle)
end Mi

set_option Elab.async false
set_option linter.all false
set_option maxRecDepth 100000
set_option autoImplicit false
set_option maxHeartbeats 4000000
namespace L2
open PySem PySem.Spec PyProof.Rows
/-! ### tuple * int, whatever the int is -/
theorem tuple_mul_same (l : Addr) (items : Array Value) (n : Nat) (dd : Option Addr) (sl : Array (Option Value)) (x : Int) (u : Tok) (c0 : (decide (x < -(2 ^ 63)) || decide (x ≥ 2 ^ 63)) = false) (c1 : (items.isEmpty || x == 1) = true) :
    Meets (Builtin.«tuple.__mul__» ⟨[.ref l, .int x u], []⟩) (fun _ R s => s.heap.get? l = some { cls := .type "tuple", dict := dd, data := .seq items n, slots := sl } ∧ R (.ok (.ret (.ref l))) s) :=
  .of_wp fun prog w A R s h => by
    obtain ⟨hp, g, d, tk, os⟩ := s
    obtain ⟨hl, h⟩ := h
    have f1 := AutoSeq1.idx_int
    wp_walk using wpAny_loadPart' hl
    repeat (first
      | (refine wpAny_ite_false (decide_eq_false (by rw [c0]; exact Bool.false_ne_true)) ?_; wp_walk using wpAny_loadPart' hl)
      | (refine wpAny_ite_true (decide_eq_true c1) ?_; wp_walk using wpAny_loadPart' hl))
    exact ⟨_, rfl, h⟩
theorem tuple_mul_none (l : Addr) (items : Array Value) (n : Nat) (dd : Option Addr) (sl : Array (Option Value)) (x : Int) (u : Tok) (c0 : (decide (x < -(2 ^ 63)) || decide (x ≥ 2 ^ 63)) = false) (c1 : (items.isEmpty || x == 1) = false) (c2 : (decide (x ≤ 0) || items.isEmpty) = true) :
    Meets (Builtin.«tuple.__mul__» ⟨[.ref l, .int x u], []⟩) (fun _ R s => s.heap.get? l = some { cls := .type "tuple", dict := dd, data := .seq items n, slots := sl } ∧
      R (.ok (.ret (Value.ref s.heap.objs.size))) { s with heap := s.heap.push { cls := Value.type "tuple", data := Data.seq #[] }, toks := s.toks }) :=
  .of_wp fun prog w A R s h => by
    obtain ⟨hp, g, d, tk, os⟩ := s
    obtain ⟨hl, h⟩ := h
    have f1 := AutoSeq1.idx_int
    wp_walk using wpAny_loadPart' hl
    repeat (first
      | (refine wpAny_ite_false (decide_eq_false (by rw [c0]; exact Bool.false_ne_true)) ?_; wp_walk using wpAny_loadPart' hl)
      | (refine wpAny_ite_false (decide_eq_false (by rw [c1]; exact Bool.false_ne_true)) ?_; wp_walk using wpAny_loadPart' hl)
      | (refine wpAny_ite_true (decide_eq_true c2) ?_; wp_walk using wpAny_loadPart' hl))
    exact ⟨_, rfl, h⟩
def rRepA (K : PySem.W.Frag) : R2 := fun x y H Q => ∃ l k xs, x = .ref l ∧ y = .int k ∧ SqT K H l xs ∧ -(2 ^ 62) ≤ k ∧ k < 2 ^ 62 ∧ xs.length * k.toNat ≤ 1000000 ∧
  if xs = [] ∨ k = 1 then Q (.ref l) H else ∀ p, H p = none → Q (.ref p) (upd H p (.tup (List.replicate k.toNat xs).flatten))
theorem op_repA {X : Cx} : OpR X (binaryOp .Mult) (rRepA X.K) := by
  intro pins s σ H x y v u Q I rx ry h
  obtain ⟨l, k, xs, rfl, rfl, hT, h1, h2, hz, q⟩ := h
  cases rx
  obtain ⟨t, rfl⟩ := ry
  obtain ⟨its, r, ⟨⟨cls, dd, data, sl⟩, ho, hc, n, hd⟩, hs⟩ := I.tuple hT
  simp only at hc hd
  subst hc hd
  have hle : its.length = xs.length := r.length.symm
  have c0 : (decide (k < -(2 ^ 63)) || decide (k ≥ 2 ^ 63)) = false := by
    rw [decide_eq_false (by omega), decide_eq_false (by omega)] <;> rfl
  have hsz0 : its.toArray.size = xs.length := by rw [List.size_toArray, hle]
  by_cases hsame : xs = [] ∨ k = 1
  · rw [if_pos hsame] at q
    have c1 : (its.toArray.isEmpty || k == 1) = true := by
      rcases hsame with e | e
      · subst e
        have : its = [] := List.eq_nil_of_length_eq_zero hle
        subst this
        rfl
      · subst e
        simp
    refine wpAny_binaryOp_repeat_ref (T := "tuple") (U := "int") (by decide) ⟨_, ho, rfl⟩ (fun s' => typeIs_int s' k t) noFill_tuple_mul F.fills_int_mul F.slot_int_rmul repeat_tuple F.slot_int_index.lookup
      (call_meets F.slot_int_rmul (typeIs_int s k t) F.entry_int_rmul (F.args_int_rmul_2 _ _) (int_rmul_tuple k t l its.toArray n dd sl)
        ⟨ho, rfl, ⟨_, ho, rfl⟩, call_meets F.slot_tuple_mul ⟨_, ho, rfl⟩ F.entry_tuple_mul (F.args_tuple_mul_2 _ _) (tuple_mul_same l its.toArray n dd sl k t c0 c1) ⟨ho, ?_⟩⟩)
    exact ⟨.ref l, H, I, rfl, q⟩
  · rw [if_neg hsame] at q
    have hne : xs ≠ [] := fun e => hsame (.inl e)
    have hk1 : k ≠ 1 := fun e => hsame (.inr e)
    have hi : its.toArray.isEmpty = false := by
      cases its with
      | nil => exact absurd (List.eq_nil_of_length_eq_zero hle.symm) hne
      | cons a b => rfl
    have c1 : (its.toArray.isEmpty || k == 1) = false := by
      rw [hi, Bool.false_or]
      exact beq_eq_false_iff_ne.mpr hk1
    by_cases hk : k ≤ 0
    · have c2 : (decide (k ≤ 0) || its.toArray.isEmpty) = true := by rw [decide_eq_true hk] <;> rfl
      have e0 : k.toNat = 0 := by omega
      rw [e0] at q
      refine wpAny_binaryOp_repeat_ref (T := "tuple") (U := "int") (by decide) ⟨_, ho, rfl⟩ (fun s' => typeIs_int s' k t) noFill_tuple_mul F.fills_int_mul F.slot_int_rmul repeat_tuple F.slot_int_index.lookup
        (call_meets F.slot_int_rmul (typeIs_int s k t) F.entry_int_rmul (F.args_int_rmul_2 _ _) (int_rmul_tuple k t l its.toArray n dd sl)
          ⟨ho, rfl, ⟨_, ho, rfl⟩, call_meets F.slot_tuple_mul ⟨_, ho, rfl⟩ F.entry_tuple_mul (F.args_tuple_mul_2 _ _) (tuple_mul_none l its.toArray n dd sl k t c0 c1 c2) ⟨ho, ?_⟩⟩)
      refine ⟨.ref s.heap.objs.size, _, I.laid (t' := s.toks) (o := .tup []) (fun b ob q => Heap.get?_push_of_some _ q) (Nat.le_refl _) ?_, rfl, q _ (I.hok.fresh (Nat.le_refl _))⟩
      exact ⟨Nat.zero_le _, [], .nil, IsTup.new _ _⟩
    · have c2 : (decide (k ≤ 0) || its.toArray.isEmpty) = false := by
        rw [hi, Bool.or_false]
        exact decide_eq_false hk
      have hm : ((its.toArray.size : Nat) : Int) * k ≤ 1000000 := by
        rw [hsz0]
        have e : ((xs.length * k.toNat : Nat) : Int) = ((xs.length : Nat) : Int) * k := by
          rw [Int.natCast_mul, Int.toNat_of_nonneg (by omega)]
        omega
      have flen : (List.replicate k.toNat its).flatten.length ≤ sizeLine := by
        rw [PyProof.Rows.lm_len_rep_flat, hle, sizeLine_eq, Nat.mul_comm]
        omega
      have c4 : Builtin.Tuple.tupleTooMany (((its.toArray.size : Nat) : Int) * k) = false := by
        unfold Builtin.Tuple.tupleTooMany
        rw [sizeLine_eq]
        exact decide_eq_false (by omega)
      refine wpAny_binaryOp_repeat_ref (T := "tuple") (U := "int") (by decide) ⟨_, ho, rfl⟩ (fun s' => typeIs_int s' k t) noFill_tuple_mul F.fills_int_mul F.slot_int_rmul repeat_tuple F.slot_int_index.lookup
        (call_meets F.slot_int_rmul (typeIs_int s k t) F.entry_int_rmul (F.args_int_rmul_2 _ _) (int_rmul_tuple k t l its.toArray n dd sl)
          ⟨ho, rfl, ⟨_, ho, rfl⟩, call_meets F.slot_tuple_mul ⟨_, ho, rfl⟩ F.entry_tuple_mul (F.args_tuple_mul_2 _ _) (tuple_mulW l its.toArray n dd sl k t c0 c1 c2 (by omega) c4 (by rw [size_rep, List.size_toArray]; exact flen)) ⟨ho, ?_⟩⟩)
      rw [size_rep]
      refine ⟨.ref s.heap.objs.size, _, I.laid (t' := s.toks) (o := .tup (List.replicate k.toNat xs).flatten) (fun b ob q => Heap.get?_push_of_some _ q) (Nat.le_refl _) ?_, rfl, q _ (I.hok.fresh (Nat.le_refl _))⟩
      exact ⟨by rw [PyProof.Rows.lm_len_rep_flat, sizeLine_eq, Nat.mul_comm]; omega, _, r.rep k.toNat, IsTup.new _ _⟩
/-! ### xs[a:c] = ys -/
def gSlS (to : TE) (tl th : TO) : TG := fun v σ H Q => to σ H fun x H1 => tl σ H1 fun lo H2 => th σ H2 fun hi H3 => ∃ l b xs ys a c, x = .ref l ∧ v = .ref b ∧ lo = some a ∧ hi = some c ∧ H3 l = some (.lst xs) ∧ H3 b = some (.lst ys) ∧ l ≠ b ∧ 0 ≤ a ∧ a ≤ c ∧ c ≤ xs.length ∧ xs.length + ys.length ≤ sizeLine ∧
  Q σ (upd H3 l (.lst (xs.take a.toNat ++ ys ++ xs.drop c.toNat)))
theorem pg_slS {X : Cx} {o : Expr} {lo hi : Option Expr} {p2 pos : Pos} {to : TE} {tl th : TO} (ho : PE X o to) (hl : PO X lo tl) (hh : PO X hi th)
    (ha : ∀ v, assign (.Subscript o (.Slice lo hi none p2) pos) X.env v = (do
      let ov ← holding [v] (eval o X.env)
      let iv ← holding [v, ov] (eval (.Slice lo hi none p2) X.env)
      standAt pos
      holding [v, ov, iv] (setItem ov iv v)
      release [iv, v, ov] []) := by intro _; rfl) : PG X (.Subscript o (.Slice lo hi none p2) pos) (gSlS to tl th) := by
  refine ⟨fun pins s σ H v u Q I r h => ?_⟩
  rw [ha]
  refine wpAny_bind (wpAny_holding (thn (ho.run pins s σ H _ I h) fun ov s1 ⟨x, H1, I1, r1, q1⟩ => ?_))
  refine wpAny_bind (wpAny_holding (wpAny_Slice (thn (hl.run pins s1 σ H1 _ I1 q1) fun vl s2 ⟨l, H2, I2, pl, q2⟩ => thn (hh.run pins s2 σ H2 _ I2 q2) fun vu s3 ⟨w, H3, I3, pu, q3⟩ => ?_)))
  rw [evalPart_none]
  refine wpAny_pure ?_
  have I4 : Inv X pins σ H3 { s3 with heap := s3.heap.push { cls := .type "slice", data := .fields #[vl, vu, .none] } } := I3.kept (t' := s3.toks) fun b ob q => Heap.get?_push_of_some _ q
  obtain ⟨l0, b, xs, ys, a, c, rfl, rfl, rfl, rfl, hH, hB, hne, h0, hac, hc, hz, q⟩ := q3
  cases r1
  cases r
  refine wpAny_bind (wpAny_standAt (wpAny_bind (wpAny_holding ?_)))
  obtain ⟨z, its, n, r, hl, e⟩ := I4.lstM hH
  obtain ⟨z2, its2, n2, r2, hl2, e2⟩ := I4.lstM hB
  obtain ⟨a', rfl⟩ := Int.eq_ofNat_of_zero_le h0
  obtain ⟨c', rfl⟩ := Int.eq_ofNat_of_zero_le (Int.le_trans h0 hac)
  simp only [Int.toNat_natCast] at q
  refine setItem_slice (a := a') (c := c') e e2 hne (Heap.IsSliceOf.new ..) pl pu (by omega) (by rw [List.size_toArray]; omega) (by rw [List.size_toArray, List.size_toArray]; omega) ?_
  refine wpAny_release ⟨σ, _, ?_, q⟩
  refine I4.lset (its' := its.take a' ++ its2 ++ its.drop c') (t' := s3.toks) hH e ?_ (Vals.append (Vals.append (r.take _) r2) (r.drop _)) ?_
  · exact splice_eq its its2 a' c'
  · rw [List.length_append, List.length_append, List.length_take, List.length_drop]
    omega
end L2
namespace Mi
open PySem L2
section
variable {K : PySem.W.Frag} {xc : XC} {W : WX} {S S1 S' H H1 H' H0 S0 : Hp} {σ σ1 σ2 σ' σ0 : Sg} {ρ ρ1 ρ2 ρ' ρ0 : Rho}
/-! ### enumerate -/
def enumD : Nat → List D → List D
  | _, [] => []
  | i, d :: ds => .tup [.int (i : Nat), d] :: enumD (i + 1) ds
theorem enumD_len : ∀ (j : Nat) (ds : List D), (enumD j ds).length = ds.length
  | _, [] => rfl
  | j, d :: ds => by simp [enumD, enumD_len (j + 1) ds]
theorem enumD_get : ∀ (j : Nat) (ds : List D) (i : Nat), (enumD j ds)[i]? = (ds[i]?).map fun d => .tup [.int ((j + i : Nat) : Int), d]
  | j, [], i => by simp [enumD]
  | j, d :: ds, 0 => by simp [enumD]
  | j, d :: ds, i + 1 => by
    simp only [enumD, List.getElem?_cons_succ]
    rw [enumD_get (j + 1) ds i]
    have e : j + 1 + i = j + (i + 1) := by omega
    rw [e]
theorem sqK_same {k : Bool} {a : Addr} {vs : List V} (e : Same S S') (h : SqK k K S a vs) : SqK k K S' a vs := by
  cases k with
  | true => exact sqL_same e h
  | false => exact sqT_same e h
theorem it_enum {k : Bool} {a : Addr} {vs : List V} {ds : List D} (t : SqK k K S a vs) (l : DenL K S ds vs) : ItOk K S (enumD 0 ds) (IteA K k a vs) := by
  intro S1 H1 h1 h2 i
  have t1 : SqK k K H1 a vs := sqK_same (h1.trans h2) t
  have hl : (enumD 0 ds).length = vs.length := by rw [enumD_len, l.length]
  rw [hl]
  refine ⟨fun c => ⟨⟨t1, c⟩, fun x H2 y => ?_⟩, fun c => ⟨t1, c⟩⟩
  obtain ⟨T, x', rfl, hT, rfl, hx⟩ := y
  obtain ⟨d, e1, e2⟩ := l.getv hx
  have g := Grow.stable h2 (o := .tup [.int (i : Nat), x']) hT
  refine ⟨_, g, .tup [.int (i : Nat), d], by rw [enumD_get, e1]; simp, ?_⟩
  exact of_tup (SqT.of upd_same) (DenL.cons of_int (DenL.cons ((e2.same h1).same g.s) DenL.nil))
def mEnum (m : Rho → R EV) (ρ : Rho) : R (List D) := (mFrz m ρ).bind fun ev ρ1 => match ev with
  | .d (.lst ds) => .ok (enumD 0 ds) ρ1
  | .d (.tup ds) => .ok (enumD 0 ds) ρ1
  | _ => .stuck
theorem ji_enum {t : TE} {m : Rho → R EV} (ha : JE K xc W t m) : JI K xc W (iEnumA K (tCons t tNil)) (mEnum m) := by
  intro S H σ ρ Q R h
  refine je_frz ha S H σ ρ _ R (ROk.mono (ROk.bind h) (fun ev ρ1 h1 => ?_) fun _ _ z => z)
  intro S1 H1 x s1 R1 e1
  match ev, h1, e1 with
  | .d (.lst ds), h1, e1 =>
    obtain ⟨a, vs, rfl, t, l⟩ := den_lst (show Den K S1 (.lst ds) x from e1)
    exact ⟨true, a, vs, rfl, sqL_same R1.sub t, h1 S1 H1 _ s1 R1 (it_enum (k := true) t l)⟩
  | .d (.tup ds), h1, e1 =>
    obtain ⟨a, vs, rfl, t, l⟩ := den_tup (show Den K S1 (.tup ds) x from e1)
    exact ⟨false, a, vs, rfl, sqT_same R1.sub t, h1 S1 H1 _ s1 R1 (it_enum (k := false) t l)⟩
  | .d .non, h1, _ => exact h1.elim
  | .d (.bl _), h1, _ => exact h1.elim
  | .d (.int _), h1, _ => exact h1.elim
  | .d (.str _), h1, _ => exact h1.elim
  | .d (.ref _), h1, _ => exact h1.elim
  | .new _, h1, _ => exact h1.elim
  | .slot _, h1, _ => exact h1.elim
/-! ### xs[a:c] = [..] -/
def mSlS (i : Nat) (ml mh : Rho → R (Option Int)) (mv : Rho → R EV) (ρ : Rho) : Out := (mv ρ).out fun ev ρ1 => match ev with
  | .new (.lst ys) => match ownL i ρ1 with
    | some _ => (ml ρ1).out fun lo ρ2 => (mh ρ2).out fun hi ρ3 => match lo, hi, ownL i ρ3 with
      | some a, some c, some (b, xs) => if decide (0 ≤ a) && decide (a ≤ c) && decide (c ≤ (xs.length : Nat)) && szOk (xs.length + ys.length) then .nx (ρ3.set i (.own b (.lst (xs.take a.toNat ++ ys ++ xs.drop c.toNat)))) else .stuck
      | _, _, _ => .stuck
    | none => .stuck
  | _ => .stuck
theorem js_slS {i : Nat} {tl th : TO} {tv : TE} {ml mh : Rho → R (Option Int)} {mv : Rho → R EV} (hl : JO2 K xc W tl ml) (hh : JO2 K xc W th mh) (hv : JE K xc W tv mv) : JS K xc W (tAsg tv (gSlS (tVar i) tl th)) (mSlS i ml mh mv) := by
  intro S H σ ρ D R h
  refine hv S H σ ρ _ R (ROk.mono (SPost.out h) (fun ev ρ1 h1 => ?_) fun _ _ z => z)
  intro S1 H1 x s1 R1 e1
  match ev, h1, e1 with
  | .new (.lst ys), h1, e1 =>
    cases q0 : ownL i ρ1 with
    | none => simp only [q0] at h1; exact h1.elim
    | some p0 =>
      simp only [q0] at h1
      obtain ⟨a, vs0, ha, h0, _⟩ := own_lst R1 (ownL_eq (b := p0.1) (xs := p0.2) q0)
      refine ⟨.ref a, ha, ?_⟩
      refine hl S1 H1 σ ρ1 _ R1 (ROk.mono (SPost.out (h1.step s1)) (fun lo ρ2 h2 => ?_) fun _ _ z => z)
      intro S2 H2 s2 R2
      refine hh S2 H2 σ ρ2 _ R2 (ROk.mono (SPost.out (h2.step s2)) (fun hi ρ3 h3 => ?_) fun _ _ z => z)
      intro S3 H3 s3 R3
      match lo, hi, q1 : ownL i ρ3, h3 with
      | some lo, some hi, some (b, xs), h3 =>
        simp only [q1] at h3
        by_cases c : (decide (0 ≤ lo) && decide (lo ≤ hi) && decide (hi ≤ (xs.length : Nat)) && szOk (xs.length + ys.length)) = true
        · rw [if_pos c] at h3
          simp only [Bool.and_eq_true, decide_eq_true_eq] at c
          obtain ⟨⟨⟨c1, c2⟩, c3⟩, c4⟩ := c
          have qi := ownL_eq q1
          obtain ⟨a1, vs, hv1, hl1, l1⟩ := own_lst R3 qi
          rw [ha] at hv1; cases hv1
          obtain ⟨ba, ho, rfl, k1, k2, k3, ⟨us, rfl, lu⟩, _⟩ := (e1.step s2).step s3
          have oa : Own σ ρ3 a := ⟨i, b, _, qi, ha⟩
          have hne : a ≠ ba := fun z => k3 (by rw [← z]; exact oa)
          have l2 : DenL K S3 (xs.take lo.toNat ++ ys ++ xs.drop hi.toNat) (vs.take lo.toNat ++ us ++ vs.drop hi.toNat) := ((l1.take _).append lu).append (l1.drop _)
          obtain ⟨s4, R4⟩ := own_upd R3 qi ha (o' := .lst (xs.take lo.toNat ++ ys ++ xs.drop hi.toNat)) (ho' := .lst (vs.take lo.toNat ++ us ++ vs.drop hi.toNat)) ⟨_, rfl, l2⟩
          refine ⟨a, ba, vs, us, lo, hi, rfl, rfl, rfl, rfl, hl1, k1, hne, c1, c2, by rw [l1.length]; exact c3, by rw [l1.length, lu.length]; exact Nat.le_of_lt (szOk.le c4), ?_⟩
          exact (h3.step s3) S3 _ σ s4 R4
        · rw [if_neg c] at h3; exact h3.elim
      | none, _, _, h3 => exact h3.elim
      | some _, none, _, h3 => exact h3.elim
      | some _, some _, none, h3 => simp only [q1] at h3; exact h3.elim
  | .new (.dic _), h1, _ => exact h1.elim
  | .d _, h1, _ => exact h1.elim
  | .slot _, h1, _ => exact h1.elim
end
section
variable {X : Cx} {xc : XC} {W : WX} {e a b : Expr} {ma mb mv : Rho → R EV} {pos p apos p2 tpos : Pos} {x : Str}
theorem i_enum {elts : List Expr} {kk : Nat} (hg : Gl X "enumerate") (hmg : X.mg "enumerate" = none) (ha : ME X xc W e ma) (hs : starEach [e] X.env = [(false, eval e X.env)] := by rfl) :
    MI X xc W (.Tuple elts kk tpos) (.Call (.Name "enumerate" p) [e] [] pos) (mEnum ma) := mkI (pi_enumA hg hmg (pa_cons ha pa_nil (by rw [hs] <;> rfl)) hs) (ji_enum je_cE)
theorem s_slS {i : Nat} {lo hi : Option Expr} {ml mh : Rho → R (Option Int)} (hN : X.N[i]? = some x) (hv : Vis X.env.scope x) (hl : MO X xc W lo ml) (hh : MO X xc W hi mh) (he : ME X xc W e mv) (hd : (x == ("__debug__" : Str)) = false := by decide) (hcd : (x == ("__classdict__" : Str)) = false := by decide)
    (hs : swapsWithSole [.Subscript (.Name x p) (.Slice lo hi none p2) apos] e pos.line X.env = pure false := by rfl) (hw : swappedStores [.Subscript (.Name x p) (.Slice lo hi none p2) apos] e X.env = pure none := by rfl)
    (hg : ∀ v, assign (.Subscript (.Name x p) (.Slice lo hi none p2) apos) X.env v = (do
      let ov ← holding [v] (eval (.Name x p) X.env)
      let iv ← holding [v, ov] (eval (.Slice lo hi none p2) X.env)
      standAt apos
      holding [v, ov, iv] (setItem ov iv v)
      release [iv, v, ov] []) := by intro _; rfl) (h1 : (assignEach [.Subscript (.Name x p) (.Slice lo hi none p2) apos] X.env).map (·.2) = [assign (.Subscript (.Name x p) (.Slice lo hi none p2) apos) X.env] := by rfl) :
    MS X xc W (.Assign [.Subscript (.Name x p) (.Slice lo hi none p2) apos] e pos) (mSlS i ml mh mv) := by
  obtain ⟨tl, pl, jl⟩ := hl
  obtain ⟨th, ph, jh⟩ := hh
  exact mkS (ps_asg he (pg_slS (pe_var hN hv hd hcd) pl ph hg) hs hw h1) (js_slS jl jh je_cE)
end
/-! ### any, tuple * int -/
section
variable {K : PySem.W.Frag} {xc : XC} {W : WX} {S S1 S' H H1 H' H0 S0 : Hp} {σ σ1 σ2 σ' σ0 : Sg} {ρ ρ1 ρ2 ρ' ρ0 : Rho}
def bAny : List D → Option EV
  | [.lst ds] => (blsOf ds).map fun ns => .d (.bl (ns.any id))
  | _ => none
theorem sqL_bls {K : PySem.W.Frag} {S H : Hp} {a : Addr} {vs : List V} {ns : List Bool} (t : SqL K H a vs) (l : DenL K S (ns.map D.bl) vs) : SqL K H a (ns.map V.bl) := by rw [← l.bls]; exact t
theorem cam_any {K : PySem.W.Frag} : CaM K (rAny K) bAny := by
  intro S H xs ds ev Q hs h e g
  match ds, e, h with
  | [.lst ds], e, h =>
    obtain ⟨v, rfl, s⟩ := seenL1 h
    obtain ⟨a, vs, rfl, t, l⟩ := seen_lst s
    simp only [bAny, Option.map_eq_some_iff] at e
    obtain ⟨ns, e1, rfl⟩ := e
    rw [blsOf_eq e1] at l
    exact ⟨a, ns, rfl, sqL_bls t l, g S H (.bl (ns.any id)) (.refl hs) (show Den K S (.bl (ns.any id)) (.bl (ns.any id)) from of_bl)⟩
def repD (xs : List D) (k : Int) : Option EV := if decide (-(2 ^ 62) ≤ k) && decide (k < 2 ^ 62) && szOk (xs.length * k.toNat) then some (.d (.tup (List.replicate k.toNat xs).flatten)) else none
def dRepT : D → D → Option EV
  | .tup xs, .int k => repD xs k
  | .int i, .int j => dMul (.int i) (.int j)
  | _, _ => none
theorem DenL.rep {ds : List D} {vs : List V} (l : DenL K S ds vs) : ∀ n : Nat, DenL K S (List.replicate n ds).flatten (List.replicate n vs).flatten
  | 0 => DenL.nil
  | n + 1 => by
    simp only [List.replicate_succ, List.flatten_cons]
    exact l.append (DenL.rep l n)
def rMulA (K : PySem.W.Frag) : R2 := fun x y H Q => rRepA K x y H Q ∨ rI (fun i j => (-(2 ^ 64) < i ∧ i < 2 ^ 64) ∨ (-(2 ^ 64) < j ∧ j < 2 ^ 64)) (fun i j => .int (i * j)) x y H Q
def dRepTT : D → D → Option EV := fun x y => match x, y with
  | .tup xs, .int k => repD xs k
  | _, _ => none
theorem opm_repT : OpM K (rRepA K) dRepTT := by
  intro S H x y dx dy ev Q hs sx sy e g
  match dx, dy, e with
  | .tup xs, .int k, e =>
    obtain ⟨a, vs, rfl, t, l⟩ := seen_tup sx
    have ey := seen_int sy
    simp only [dRepTT, repD] at e
    obtain ⟨c, e'⟩ := some_ite e
    subst e'
    simp only [Bool.and_eq_true, decide_eq_true_eq] at c
    obtain ⟨⟨c1, c2⟩, c3⟩ := c
    have hl := l.length
    refine ⟨a, k, vs, rfl, ey, sqT_same hs t, c1, c2, by rw [hl]; exact of_decide_eq_true c3, ?_⟩
    by_cases hsame : vs = [] ∨ k = 1
    · rw [if_pos hsame]
      refine g S H _ (.refl hs) ?_
      have eq : (List.replicate k.toNat xs).flatten = xs := by
        rcases hsame with z | z
        · have : xs = [] := List.eq_nil_of_length_eq_zero (by rw [← hl, z]; rfl)
          rw [this]
          simp
        · rw [z]; simp
      show Den K S (.tup _) _
      rw [eq]
      exact of_tup t l
    · rw [if_neg hsame]
      intro p hp
      have gg := Grow.stable hs (o := .tup (List.replicate k.toNat vs).flatten) hp
      exact g _ _ _ gg (of_tup (SqT.of upd_same) ((l.rep k.toNat).same gg.s))
end
section
variable {X : Cx} {xc : XC} {W : WX} {e a b : Expr} {ma mb mv : Rho → R EV} {m : Rho → R (List EV)} {pos p apos p2 tpos : Pos} {x : Str}
theorem r_any (hc : X.calm = true) (hg : Gl X "any") (hmg : X.mg "any" = none) (ha : MA X xc W [e] m) (he : starEach [e] X.env = (false, eval e X.env) :: starEach [] X.env := by rfl) : ME X xc W (.Call (.Name "any" p) [e] [] pos) (mCB bAny m) := r_callB (cr_any hc) cam_any hg hmg (by decide +kernel) ha (by decide) (by decide) he
theorem r_repT (ha : ME X xc W a ma) (hb : ME X xc W b mb) : ME X xc W (.BinOp a .Mult b pos) (mOp dRepTT ma mb) := r_op op_repA opm_repT ha hb
end
section
variable {K : PySem.W.Frag} {xc : XC} {W : WX} {S S1 S' H H1 H' H0 S0 : Hp} {σ σ1 σ2 σ' σ0 : Sg} {ρ ρ1 ρ2 ρ' ρ0 : Rho}
/-! ### list(range(a, b)), tuple(range(a, b)) -/
def mLstRg2 (m n : Rho → R EV) (ρ : Rho) : R EV := (mRng2 m n ρ).bind fun ds ρ1 => .ok (.new (.lst ds)) ρ1
def mTupRg2 (m n : Rho → R EV) (ρ : Rho) : R EV := (mRng2 m n ρ).bind fun ds ρ1 => .ok (.d (.tup ds)) ρ1
theorem je_lstRg2 {t u : TE} {m n : Rho → R EV} (ha : JE K xc W t m) (hb : JE K xc W u n) : JE K xc W (tLstRg (tRg2 t u)) (mLstRg2 m n) := by
  intro S H σ ρ Q R h
  refine ha S H σ ρ _ R (ROk.mono (ROk.bind (ROk.bind h)) (fun ev ρ1 h1 => ?_) fun _ _ z => z)
  intro S1 H1 x s1 R1 e1
  refine hb S1 H1 σ ρ1 _ R1 (ROk.mono (ROk.bind h1) (fun ew ρ2 h2 => ?_) fun _ _ z => z.step s1)
  intro S2 H2 y s2 R2 e2
  split at h2
  · rename_i i j
    by_cases c : (rngOk i && rngOk j) = true
    · simp only [if_pos c, ROk] at h2
      simp only [rngOk, Bool.and_eq_true, decide_eq_true_eq] at c
      refine ⟨i, j, ev_int e1 rfl, ev_int e2 rfl, ⟨by omega, by omega, by omega, by omega, by omega⟩, fun p hp => ?_⟩
      have g : Grow S2 H2 S2 (upd H2 p (.lst (rgV i j))) := Grow.loose R2.sub hp
      exact h2 _ _ _ ((s1.trans s2).trans (.laid g)) (R2.laid g) (EvOk.back (s1.trans s2) ((evg_lst R2.sub hp den_rng).ok R2))
    · simp only [if_neg c] at h2; exact h2.elim
  · exact h2.elim
theorem je_tupRg2 {t u : TE} {m n : Rho → R EV} (ha : JE K xc W t m) (hb : JE K xc W u n) : JE K xc W (tTupRg (tRg2 t u)) (mTupRg2 m n) := by
  intro S H σ ρ Q R h
  refine ha S H σ ρ _ R (ROk.mono (ROk.bind (ROk.bind h)) (fun ev ρ1 h1 => ?_) fun _ _ z => z)
  intro S1 H1 x s1 R1 e1
  refine hb S1 H1 σ ρ1 _ R1 (ROk.mono (ROk.bind h1) (fun ew ρ2 h2 => ?_) fun _ _ z => z.step s1)
  intro S2 H2 y s2 R2 e2
  split at h2
  · rename_i i j
    by_cases c : (rngOk i && rngOk j) = true
    · simp only [if_pos c, ROk] at h2
      simp only [rngOk, Bool.and_eq_true, decide_eq_true_eq] at c
      refine ⟨i, j, ev_int e1 rfl, ev_int e2 rfl, ⟨by omega, by omega, by omega, by omega, by omega⟩, fun p hp => ?_⟩
      have g : Grow S2 H2 (upd S2 p (.tup (rgV i j))) (upd H2 p (.tup (rgV i j))) := Grow.stable R2.sub hp
      exact h2 _ _ _ ((s1.trans s2).trans (.laid g)) (R2.laid g) (show Den K _ (.tup _) _ from of_tup (SqT.of upd_same) ((den_rng (lo := i) (hi := j)).same g.s))
    · simp only [if_neg c] at h2; exact h2.elim
  · exact h2.elim
end
section
variable {X : Cx} {xc : XC} {W : WX} {a b : Expr} {ma mb : Rho → R EV} {p q pos pos2 : Pos}
theorem r_lstRg2 (hc : X.calm = true) (hg : Gl X "list") (hm : X.mg "list" = none) (hg2 : Gl X "range") (hm2 : X.mg "range" = none) (ha : ME X xc W a ma) (hb : ME X xc W b mb) (na : starEach [a, b] X.env = (false, eval a X.env) :: starEach [b] X.env := by rfl)
    (nb : starEach [b] X.env = (false, eval b X.env) :: starEach [] X.env := by rfl) (hp : (backTo pos2 (starEach [b] X.env)).any (·.1) = false := by rfl)
    (na2 : starEach [.Call (.Name "range" q) [a, b] [] pos2] X.env = (false, eval (.Call (.Name "range" q) [a, b] [] pos2) X.env) :: starEach [] X.env := by rfl) : ME X xc W (.Call (.Name "list" p) [.Call (.Name "range" q) [a, b] [] pos2] [] pos) (mLstRg2 ma mb) :=
  mkE (pe_listRg hc hg hm (prg_2 hg2 hm2 ha hb na nb hp) na2) (je_lstRg2 je_cE je_cE)
theorem r_tupRg2 (hc : X.calm = true) (hg : Gl X "tuple") (hm : X.mg "tuple" = none) (hg2 : Gl X "range") (hm2 : X.mg "range" = none) (ha : ME X xc W a ma) (hb : ME X xc W b mb) (na : starEach [a, b] X.env = (false, eval a X.env) :: starEach [b] X.env := by rfl)
    (nb : starEach [b] X.env = (false, eval b X.env) :: starEach [] X.env := by rfl) (hp : (backTo pos2 (starEach [b] X.env)).any (·.1) = false := by rfl)
    (na2 : starEach [.Call (.Name "range" q) [a, b] [] pos2] X.env = (false, eval (.Call (.Name "range" q) [a, b] [] pos2) X.env) :: starEach [] X.env := by rfl) : ME X xc W (.Call (.Name "tuple" p) [.Call (.Name "range" q) [a, b] [] pos2] [] pos) (mTupRg2 ma mb) :=
  mkE (pe_tupRg hc hg hm (prg_2 hg2 hm2 ha hb na nb hp) na2) (je_tupRg2 je_cE je_cE)
theorem t_lt_lt {a b c : Expr} {pos : Pos} {ma mb mc : Rho → R EV} (ha : ME X xc W a ma) (hb : ME X xc W b mb) (hc : ME X xc W c mc) (hk : lastMarks [.Lt, .Lt] [b, c] = false := by with_unfolding_all rfl) : MT X xc W (.Compare a [.Lt, .Lt] [b, c] pos) (mTst (mChain dLt dLt ma mb mc)) := t_chain op_lt op_lt (opm_I0 fun _ _ _ => of_bl) (opm_I0 fun _ _ _ => of_bl) ha hb hc hk
theorem r_lt_lt {a b c : Expr} {pos : Pos} {ma mb mc : Rho → R EV} (ha : ME X xc W a ma) (hb : ME X xc W b mb) (hc : ME X xc W c mc) (hk : lastMarks [.Lt, .Lt] [b, c] = false := by with_unfolding_all rfl) : ME X xc W (.Compare a [.Lt, .Lt] [b, c] pos) (mChain dLt dLt ma mb mc) := r_chain op_lt op_lt (opm_I0 fun _ _ _ => of_bl) (opm_I0 fun _ _ _ => of_bl) ha hb hc hk
theorem t_lt_le {a b c : Expr} {pos : Pos} {ma mb mc : Rho → R EV} (ha : ME X xc W a ma) (hb : ME X xc W b mb) (hc : ME X xc W c mc) (hk : lastMarks [.Lt, .LtE] [b, c] = false := by with_unfolding_all rfl) : MT X xc W (.Compare a [.Lt, .LtE] [b, c] pos) (mTst (mChain dLt dLe ma mb mc)) := t_chain op_lt op_le (opm_I0 fun _ _ _ => of_bl) (opm_I0 fun _ _ _ => of_bl) ha hb hc hk
theorem r_lt_le {a b c : Expr} {pos : Pos} {ma mb mc : Rho → R EV} (ha : ME X xc W a ma) (hb : ME X xc W b mb) (hc : ME X xc W c mc) (hk : lastMarks [.Lt, .LtE] [b, c] = false := by with_unfolding_all rfl) : ME X xc W (.Compare a [.Lt, .LtE] [b, c] pos) (mChain dLt dLe ma mb mc) := r_chain op_lt op_le (opm_I0 fun _ _ _ => of_bl) (opm_I0 fun _ _ _ => of_bl) ha hb hc hk
end
end Mi

set_option Elab.async false
set_option linter.all false
set_option maxRecDepth 100000
set_option autoImplicit false
namespace Mi
open PySem L2
section
variable {K : PySem.W.Frag} {xc : XC} {W : WX} {S S1 S' H H1 H' H0 S0 : Hp} {σ σ1 σ2 σ' σ0 : Sg} {ρ ρ1 ρ2 ρ' ρ0 : Rho}
/-! ### a call whose first argument is a new object; the object is dropped -/
def mCallN (f : List Cell → CR) (n : Nat) (ma : Rho → R (List EV)) (ρ : Rho) : R EV := (ma ρ).bind fun evs ρ1 => match evs with
  | .new o :: es => match dsOf es with
    | some ds => if decide (ds.length + 1 = n) then match f (.own true o :: ds.map Cell.val) with
      | .ok (.slot _) _ => .stuck
      | .ok e _ => .ok e ρ1
      | .exn x => .exn x ρ1
      | .stuck => .stuck
      else .stuck
    | none => .stuck
  | _ => .stuck
theorem dsOf_map : ∀ {es : List EV} {ds : List D}, dsOf es = some ds → es = ds.map EV.d
  | [], ds, h => by simp only [dsOf, Option.some.injEq] at h; subst h; rfl
  | .d d :: es, ds, h => by
    simp only [dsOf, Option.bind_eq_some_iff, Option.map_eq_some_iff] at h
    first
      | (obtain ⟨r, h1, rfl⟩ := h; rw [dsOf_map h1]; rfl)
      | (obtain ⟨r, h1, h2⟩ := h; cases h2; rw [dsOf_map h1]; rfl)
theorem evs_vals : ∀ {ds : List D} {vs : List V}, EvsOk K σ ρ0 H0 S H σ ρ vs (ds.map EV.d) → DenL K S ds vs
  | [], [], _ => DenL.nil
  | d :: ds, v :: vs, h => DenL.cons h.1 (evs_vals h.2)
  | [], _ :: _, h => h.elim
  | _ :: _, [], h => h.elim
theorem je_callN {n : Nat} {f : List Cell → CR} {ta : TA} {ma : Rho → R (List EV)} (ha : JA K xc W ta ma) : JE K xc W (tCallS (FSp K xc n f) (WE W) ta) (mCallN f n ma) := by
  intro S H σ ρ Q R h
  refine ha S H σ ρ _ R (ROk.mono (ROk.bind h) (fun evs ρ1 h1 => ?_) fun _ _ z => z)
  intro S1 H1 vs s1 R1 k
  match evs, h1, k with
  | [], h1, k => exact h1.elim
  | .d _ :: _, h1, k => exact h1.elim
  | .slot _ :: _, h1, k => exact h1.elim
  | .new o :: es, h1, k =>
    simp only at h1
    cases q0 : dsOf es with
    | none => rw [q0] at h1; exact h1.elim
    | some ds =>
      rw [q0] at h1
      simp only at h1
      by_cases c : (decide (ds.length + 1 = n)) = true
      · rw [if_pos c] at h1
        have hn : ds.length + 1 = n := of_decide_eq_true c
        match vs, k with
        | [], k => exact k.elim
        | v0 :: vs, k =>
          obtain ⟨k0, k1⟩ := k
          rw [dsOf_map q0] at k1
          have dl := evs_vals k1
          obtain ⟨a, ho, rfl, hA, sA, nA, mA, fA⟩ := k0
          have R0 : Rel K S1 H1 ((V.ref a :: vs).map some) (.own true o :: ds.map Cell.val) := by
            refine ⟨R1.sub, by simp [dl.length], fun i c e => ?_, fun i1 i2 b1 b2 o1 o2 e1 e2 e3 => ?_, R1.tab⟩
            · cases i with
              | zero => simp at e; subst e; exact ⟨a, ho, rfl, hA, sA, mA⟩
              | succ i =>
                simp only [List.getElem?_cons_succ, List.getElem?_map, Option.map_eq_some_iff] at e
                obtain ⟨d, e1, rfl⟩ := e
                obtain ⟨v, e2, e3⟩ := dl.get e1
                exact ⟨v, by simp [e2], e3⟩
            · have z : ∀ (i : Nat) (b : Bool) (o' : Mo), (Cell.own true o :: ds.map Cell.val)[i]? = some (.own b o') → i = 0 := fun i b o' e => by
                cases i with
                | zero => rfl
                | succ i =>
                  simp only [List.getElem?_cons_succ, List.getElem?_map, Option.map_eq_some_iff] at e
                  obtain ⟨d, _, e⟩ := e
                  cases e
              rw [z _ _ _ e1, z _ _ _ e2]
          have own0 : ∀ {b : Addr}, Own ((V.ref a :: vs).map some) (.own true o :: ds.map Cell.val) b → b = a := fun {b} ⟨i, bb, m, e, g⟩ => by
            cases i with
            | zero => simp at g; exact g.symm
            | succ i =>
              simp only [List.getElem?_cons_succ, List.getElem?_map, Option.map_eq_some_iff] at e
              obtain ⟨d, _, e⟩ := e
              cases e
          refine ⟨by simp [← dl.length] at hn ⊢; omega, S1, _, R0, fun i o' e => ?_, ?_⟩
          · cases i with
            | zero => simp at e
            | succ i =>
              simp only [List.getElem?_cons_succ, List.getElem?_map, Option.map_eq_some_iff] at e
              obtain ⟨d, _, e⟩ := e
              cases e
          cases q : f (.own true o :: ds.map Cell.val) with
          | stuck => rw [q] at h1; exact h1.elim
          | exn x =>
            rw [q] at h1
            intro S' H' c dx g xo
            exact h1 S' H' σ c dx (s1.trans (.laid g)) (R1.laid g) xo
          | ok e outs =>
            rw [q] at h1
            intro S2 H2 v s R2 ev
            have a0 : ∀ b u, H b = some u → ¬ Own σ ρ b → b ≠ a := fun b u e n z => by
              subst z
              rcases fA with z | z
              · rw [z] at e; cases e
              · exact n z.own
            have R3 : Rel K S2 H2 σ ρ1 := by
              refine ⟨R2.sub, R1.len, fun i c e => ?_, R1.dist, R2.tab⟩
              have q := R1.cell i c e
              cases c with
              | no => trivial
              | val d => obtain ⟨u, e1, e2⟩ := q; exact ⟨u, e1, e2.same s.ex⟩
              | own b m =>
                obtain ⟨a2, ho2, e1, e2, e3, e4⟩ := q
                have ne : a2 ≠ a := fun z => nA ⟨i, b, m, e, by rw [← z]; exact e1⟩
                refine ⟨a2, ho2, e1, s.fr _ _ e2 fun z => ne (own0 z), ?_, e4.same s.ex⟩
                cases z : S2 a2 with
                | none => rfl
                | some u =>
                  rcases s.nw _ _ z with y | y | y
                  · rw [e3] at y; cases y
                  · rw [e2] at y; cases y
                  · exact (ne (own0 y)).elim
            have s3 : Stp S H σ ρ S2 H2 σ ρ1 := by
              refine ⟨s1.ex.trans s.ex, fun b u e n => s.fr _ _ (s1.fr _ _ e n) fun z => a0 b u e n (own0 z), fun b e => s1.th _ (s.th _ e), fun b u e => ?_, s1.ow, s1.owf, s1.bo, s1.ln⟩
              rcases s.nw b u e with z | z | z
              · exact s1.nw b u z
              · exact .inr (.inl (s1.th _ z))
              · have eb := own0 z
                subst eb
                rcases fA with y | y
                · exact .inr (.inl y)
                · exact .inr (.inr y.own)
            cases e with
            | slot i => exact h1.elim
            | d d => exact h1 S2 H2 v s3 R3 ev
            | new m =>
              refine h1 S2 H2 v s3 R3 ?_
              obtain ⟨a2, ho2, k1, k2, k3, k4, k5, k6⟩ := ev
              have fresh : H1 a2 = none := k6.elim id fun ⟨i, m', z, _⟩ => by
                cases i with
                | zero => simp at z
                | succ i =>
                  simp only [List.getElem?_cons_succ, List.getElem?_map, Option.map_eq_some_iff] at z
                  obtain ⟨d, _, e⟩ := z
                  cases e
              refine ⟨a2, ho2, k1, k2, k3, fun z => ?_, k5, .inl (s1.th _ fresh)⟩
              obtain ⟨u, y, _⟩ := R1.own_some z
              rw [fresh] at y; cases y
      · rw [if_neg c] at h1; exact h1.elim
/-! ### xs.pop() -/
def mPop0 (i : Nat) (ρ : Rho) : R EV := match ownL i ρ with
  | some (b, xs) => match xs[xs.length - 1]? with
    | some d => .ok (.d d) (ρ.set i (.own b (.lst xs.dropLast)))
    | none => .stuck
  | none => .stuck
theorem DenL.dropLast : ∀ {ds : List D} {vs : List V}, DenL K S ds vs → DenL K S ds.dropLast vs.dropLast := fun {ds vs} l => by
  rw [List.dropLast_eq_take, List.dropLast_eq_take, l.length]
  exact l.take _
theorem je_pop0 {i : Nat} : JE K xc W (tBM0 K "list" rPop (tVar i)) (mPop0 i) := by
  intro S H σ ρ Q R h
  unfold mPop0 at h
  cases q0 : ownL i ρ with
  | none => rw [q0] at h; exact h.elim
  | some p0 =>
    obtain ⟨b, xs⟩ := p0
    rw [q0] at h
    simp only at h
    have qi := ownL_eq q0
    obtain ⟨a, vs, hv, hl, l⟩ := own_lst R qi
    cases q1 : xs[xs.length - 1]? with
    | none => rw [q1] at h; exact h.elim
    | some d =>
      rw [q1] at h
      obtain ⟨y, w3, w4⟩ := l.get q1
      obtain ⟨s2, R2⟩ := own_upd R qi hv (o' := .lst xs.dropLast) (ho' := .lst vs.dropLast) ⟨_, rfl, l.dropLast⟩
      exact ⟨.ref a, hv, .inl ⟨rfl, _, SqL.of hl⟩, a, vs, y, rfl, rfl, hl, by rw [l.length]; exact w3, h _ _ _ s2 R2 (show Den K S d y from w4)⟩
/-! ### d[k]; d a slot -/
def mDget (i : Nat) (m : Rho → R EV) (ρ : Rho) : R EV := match ownD i ρ with
  | none => .stuck
  | some _ => (m ρ).bind fun ev ρ1 => match ev, ownD i ρ1 with
    | .d d, some (_, kvs) => R.of ((keyOf d).bind fun k => (lookD kvs k).map EV.d) ρ1
    | _, _ => .stuck
theorem je_dget {i : Nat} {t : TE} {m : Rho → R EV} (ha : JE K xc W t m) : JE K xc W (tDGet (tVar i) t) (mDget i m) := by
  intro S H σ ρ Q R h
  unfold mDget at h
  cases q0 : ownD i ρ with
  | none => rw [q0] at h; exact h.elim
  | some p0 =>
    rw [q0] at h
    obtain ⟨a, vs0, hv, h0, _⟩ := own_dic R (ownD_eq (b := p0.1) (xs := p0.2) q0)
    refine ⟨.ref a, hv, ?_⟩
    refine ha S H σ ρ _ R (ROk.mono (ROk.bind h) (fun ev ρ1 h1 => ?_) fun _ _ z => z)
    intro S1 H1 x s1 R1 e1
    cases ev with
    | new o => exact h1.elim
    | slot j => exact h1.elim
    | d d =>
      cases q1 : ownD i ρ1 with
      | none => simp only [q1] at h1; exact h1.elim
      | some p1 =>
        obtain ⟨b, kvs⟩ := p1
        simp only [q1] at h1
        obtain ⟨a1, vs, hv1, hl, l⟩ := own_dic R1 (ownD_eq q1)
        rw [hv] at hv1; cases hv1
        obtain ⟨ev, w1, w2⟩ := ROk.of h1
        simp only [Option.bind_eq_some_iff, Option.map_eq_some_iff] at w1
        obtain ⟨k, w3, y, w4, rfl⟩ := w1
        have ex := keyOf_v (show Den K S1 d x from e1) w3
        rcases kden_look (k := k) l with ⟨z1, z2⟩ | ⟨d', v', z1, z2, z3⟩
        · rw [z1] at w4; cases w4
        · rw [z1] at w4; cases w4
          exact ⟨a, v', rfl, by rw [ex, ← z2]; exact DGet.k hl, w2 S1 H1 _ s1 R1 z3⟩
/-! ### x is True, x is not True -/
def isB (b : Bool) : D → Option Bool
  | .bl c => some (decide (c = b))
  | .non => some false
  | _ => none
def dIsB (x y : D) : Option EV := match y with
  | .bl b => (isB b x).map fun c => .d (.bl c)
  | _ => none
def dNotB (x y : D) : Option EV := match y with
  | .bl b => (isB b x).map fun c => .d (.bl (!c))
  | _ => none
def rIsB (neg : Bool) : R2 := fun x y H Q => ∃ b, y = .bl b ∧ ((∃ c, x = .bl c ∧ Q (.bl (xor neg (decide (c = b)))) H) ∨ (x = .non ∧ Q (.bl neg) H))
theorem opm_isB {K : PySem.W.Frag} : OpM K (rIsB false) dIsB := by
  intro S H x y dx dy ev Q hs sx sy e q
  cases dy <;> simp only [dIsB, reduceCtorEq] at e
  rename_i b
  cases dx <;> simp only [isB, Option.map_some, Option.map_none, Option.some.injEq, reduceCtorEq] at e
  · subst e
    exact ⟨b, seen_bl sy, .inr ⟨seen_non sx, q S H _ (.refl hs) (evg of_bl)⟩⟩
  · subst e
    exact ⟨b, seen_bl sy, .inl ⟨_, seen_bl sx, by rw [Bool.false_xor]; exact q S H _ (.refl hs) (evg of_bl)⟩⟩
theorem opm_notB {K : PySem.W.Frag} : OpM K (rIsB true) dNotB := by
  intro S H x y dx dy ev Q hs sx sy e q
  cases dy <;> simp only [dNotB, reduceCtorEq] at e
  rename_i b
  cases dx <;> simp only [isB, Option.map_some, Option.map_none, Option.some.injEq, reduceCtorEq] at e
  · subst e
    exact ⟨b, seen_bl sy, .inr ⟨seen_non sx, q S H _ (.refl hs) (evg of_bl)⟩⟩
  · subst e
    exact ⟨b, seen_bl sy, .inl ⟨_, seen_bl sx, by rw [Bool.true_xor]; exact q S H _ (.refl hs) (evg of_bl)⟩⟩
end
section
variable {X : Cx}
theorem op_isB : OpR X (compareOp .Is) (rIsB false) := by
  intro pins s σ H x y v u Q I rx ry h
  obtain ⟨b, rfl, h⟩ := h
  cases (show u = Value.bool b from ry)
  rcases h with ⟨c, rfl, q⟩ | ⟨rfl, q⟩
  · cases (show v = Value.bool c from rx)
    exact wpAny_is_plain rfl (fin_bl I q (by cases c <;> cases b <;> rfl))
  · cases (show v = Value.none from rx)
    exact wpAny_is_plain rfl (fin_bl I q (by cases b <;> rfl))
theorem op_notB : OpR X (compareOp .IsNot) (rIsB true) := by
  intro pins s σ H x y v u Q I rx ry h
  obtain ⟨b, rfl, h⟩ := h
  cases (show u = Value.bool b from ry)
  rcases h with ⟨c, rfl, q⟩ | ⟨rfl, q⟩
  · cases (show v = Value.bool c from rx)
    exact wpAny_isNot_plain rfl (fin_bl I q (by cases c <;> cases b <;> rfl))
  · cases (show v = Value.none from rx)
    exact wpAny_isNot_plain rfl (fin_bl I q (by cases b <;> rfl))
end
section
variable {X : Cx} {xc : XC} {W : WX} {x : Str} {p pos apos : Pos} {a b e : Expr} {es : List Expr} {k n : Nat} {ad : Addr} {f : List Cell → CR} {ma' : Rho → R (List EV)} {ma mb : Rho → R EV}
theorem r_callN (F : Df X.prog X.w X.K X.mg X.base xc k ad n f) (hr : Room k X.A) (hg : Gl X x) (hm : X.mg x = some (.ref ad)) (tk : Takes X W) (ha : MA X xc W (e :: es) ma') (hdb : (x == ("__debug__" : Str)) = false := by decide)
    (he : starEach (e :: es) X.env = (false, eval e X.env) :: starEach es X.env := by rfl) (hpl : (backTo pos (starEach es X.env)).any (·.1) = false := by rfl) : ME X xc W (.Call (.Name x p) (e :: es) [] pos) (mCallN f n ma') := by
  obtain ⟨fd, ps, hn, F1, b1⟩ := F.ex
  exact mkE (pe_callS F1 hr hg hm F.kp b1 (fun σ => passAt tk σ) ha hdb he hpl) (je_callN ja_cA)
theorem r_pop0 {i : Nat} (hN : X.N[i]? = some x) (hv : Vis X.env.scope x) (hd : (x == ("__debug__" : Str)) = false := by decide) (hcd : (x == ("__classdict__" : Str)) = false := by decide)
    (hbase : attributeBase (.Name x p) "pop" X.env (eval (.Name x p) X.env) = eval (.Name x p) X.env := by rfl) (hline : (apos.endLine == pos.line) = true := by rfl) :
    ME X xc W (.Call (.Attribute (.Name x p) "pop" apos) [] [] pos) (mPop0 i) :=
  mkE (pe_bm0 PySem.F.plainAttrs_list PySem.F.slot_list_pop PySem.F.type_list_pop mt_pop (pe_var hN hv hd hcd) hbase hline) je_pop0
theorem r_dget {i : Nat} (hu : X.A.units + 1 < cLine) (hN : X.N[i]? = some x) (hv : Vis X.env.scope x) (ha : ME X xc W e ma) (hd : (x == ("__debug__" : Str)) = false := by decide) (hcd : (x == ("__classdict__" : Str)) = false := by decide) (hs : NoSl e := by intro _ _; rfl) :
    ME X xc W (.Subscript (.Name x p) e pos) (mDget i ma) :=
  mkE (pe_dget hu (pe_var hN hv hd hcd) ha hs) (je_dget je_cE)
theorem r_isB (ha : ME X xc W a ma) (hb : ME X xc W b mb) : ME X xc W (.Compare a [.Is] [b] pos) (mOp dIsB ma mb) := r_cmp op_isB opm_isB ha hb (nomark _)
theorem t_isB (ha : ME X xc W a ma) (hb : ME X xc W b mb) : MT X xc W (.Compare a [.Is] [b] pos) (mTst (mOp dIsB ma mb)) := t_cmp op_isB opm_isB ha hb (nomark _)
theorem r_notB (ha : ME X xc W a ma) (hb : ME X xc W b mb) : ME X xc W (.Compare a [.IsNot] [b] pos) (mOp dNotB ma mb) := r_cmp op_notB opm_notB ha hb (nomark _)
theorem t_notB (ha : ME X xc W a ma) (hb : ME X xc W b mb) : MT X xc W (.Compare a [.IsNot] [b] pos) (mTst (mOp dNotB ma mb)) := t_cmp op_notB opm_notB ha hb (nomark _)
end
end Mi

set_option Elab.async false
set_option linter.all false
set_option maxRecDepth 100000
set_option autoImplicit false
namespace Mi
open PySem L2 PySem.Spec PyProof.Rows HT
/-! ### t[::-1] of tuples -/
section
variable {prog : Program} {w : World} {A : Around} {E : Value → Shared → Prop} {s : Shared}
theorem back_places (n : Nat) : Builtin.Slice.slicePlaces ((n : Int) - 1) (-1) (-1) = n := by
  unfold Builtin.Slice.slicePlaces
  rw [if_neg (by decide)]
  by_cases c : (n : Int) - 1 > -1
  · rw [if_pos c, show (- -1 : Int) = 1 from by decide, Int.ediv_one]
    omega
  · rw [if_neg c]
    omega
theorem back_applied {sl : Addr} {v1 v2 v3 : Value} {n : Nat} {Q : Int × Int × Nat → Shared → Prop} (hs : s.heap.IsSliceOf sl v1 v2 v3) (p1 : IsPart v1 none) (p2 : IsPart v2 none) (p3 : IsPart v3 (some (-1))) (h : Q ((n : Int) - 1, -1, n) s) :
    wpAny (model prog w) A (Builtin.Slice.sliceApplied (.ref sl) (pure (n : Int))) Q E s := by
  cases p1
  cases p2
  cases p3 with
  | int i t =>
    obtain ⟨oo, k1, k2, k3⟩ := id hs
    unfold Builtin.Slice.sliceApplied Builtin.Slice.sliceFields
    refine wpAny_bind (wpAny_bind (wpAny_field k1 k3 (x := .none) rfl (wpAny_bind (wpAny_field k1 k3 (x := .none) rfl (wpAny_bind (wpAny_field k1 k3 (x := .int (-1) t) rfl (wpAny_pure ?_)))))))
    refine wpAny_bind (slicePart_int ?_)
    show wpAny _ _ (if ((-1 : Int) == 0) = true then _ else _) _ _ s
    rw [if_neg (by decide)]
    refine wpAny_bind (slicePart_none (wpAny_bind (slicePart_none (wpAny_bind (wpAny_pure ?_)))))
    show wpAny _ _ (pure ((n : Int) - 1, (-1 : Int), Builtin.Slice.slicePlaces ((n : Int) - 1) (-1) (-1))) _ _ s
    rw [back_places n]
    exact wpAny_pure h
theorem back_pick (xs : Array Value) : ((List.range xs.size).filterMap fun (m : Nat) => xs[(((xs.size : Int) - 1) + (m : Int) * (-1)).toNat]?).toArray = xs.toList.reverse.toArray := by
  congr 1
  apply List.ext_getElem?
  intro i
  have e : ((List.range xs.size).filterMap fun (m : Nat) => xs[(((xs.size : Int) - 1) + (m : Int) * (-1)).toNat]?) = (List.range xs.size).map fun m => xs.toList.reverse[m]?.getD .none := by
    have : ∀ l : List Nat, (∀ m ∈ l, m < xs.size) → (l.filterMap fun (m : Nat) => xs[(((xs.size : Int) - 1) + (m : Int) * (-1)).toNat]?) = l.map fun m => xs.toList.reverse[m]?.getD .none := by
      intro l
      induction l with
      | nil => intro _; rfl
      | cons m l ih =>
        intro h
        have hm := h m (by simp)
        have e1 : (((xs.size : Int) - 1) + (m : Int) * (-1)).toNat = xs.size - 1 - m := by omega
        have lt : xs.size - 1 - m < xs.size := by omega
        rw [List.filterMap_cons, e1, List.map_cons, ih fun y hy => h y (List.mem_cons_of_mem _ hy)]
        have e2 : xs[xs.size - 1 - m]? = some xs[xs.size - 1 - m] := Array.getElem?_eq_getElem lt
        rw [e2]
        simp [hm]
    exact this _ fun m hm => List.mem_range.mp hm
  rw [e, List.getElem?_map]
  by_cases c : i < xs.size
  · rw [List.getElem?_range c]
    simp [c]
  · have h1 : (List.range xs.size)[i]? = none := by simp; omega
    have h2 : xs.toList.reverse[i]? = none := by simp; omega
    rw [h1, h2]
    rfl
theorem back_item {t sl : Addr} {xs : Array Value} {v1 v2 v3 : Value} {Q : Value → Shared → Prop} (ht : IsTup s.heap t xs) (hs : s.heap.IsSliceOf sl v1 v2 v3) (p1 : IsPart v1 none) (p2 : IsPart v2 none) (p3 : IsPart v3 (some (-1)))
    (h : Q (.ref s.heap.objs.size) { s with heap := s.heap.push { cls := .type "tuple", data := .seq xs.toList.reverse.toArray } }) (hz : xs.size ≤ sizeLine) : wpAny (model prog w) A (getItem (.ref t) (.ref sl)) Q E s := by
  have ok : sizeOk (.seq xs.toList.reverse.toArray) := by
    show xs.toList.reverse.toArray.size ≤ sizeLine
    simpa using hz
  obtain ⟨oo, k1, k2, k3⟩ := id hs
  have ty : s.TypeIs (.ref sl) "slice" := ⟨oo, k1, k2⟩
  unfold getItem
  try (with_reducible refine wpAny_holding ?_)
  first | (refine wpAny_bind (wpAny_pure ?_)) | skip
  refine (wpAny_bind (wpAny_sequenceKey ht.typeIs (by decide) ?_))
  refine wpAny_bind (wpAny_callSpecial?_slot (name := Str.ofString "__getitem__") ht.typeIs slot_tuple_getitem (wpAny_call_entry slot_tuple_getitem ht.typeIs entry_tuple_getitem ?_ (args_tuple_getitem _ _)))
  show (wpAny _ _ (Builtin.Tuple.tupleItemsOf (.ref t) >>= _) _ _ s)
  refine (wpAny_bind (tupleItemsOf_ ht ?_))
  refine (wpAny_bind (wpAny_typeOf ty ?_))
  rw [if_pos (by decide)]
  refine wpAny_bind (back_applied hs p1 p2 p3 ?_)
  have no : ¬ ((((xs.size : Int) - 1) == 0 && (-1 : Int) == 1 && xs.size == xs.size) = true) := by simp
  show wpAny _ _ (if (((xs.size : Int) - 1) == 0 && (-1 : Int) == 1 && xs.size == xs.size) = true then _ else _) _ _ s
  rw [if_neg no, back_pick]
  first
    | (exact wpAny_bind (m := Builtin.Tuple.tupleExact _) (wpAny_newObj_type (wpAny_pure ⟨_, rfl, wpAny_pure h⟩) ok))
    | (exact wpAny_bind (m := Builtin.Tuple.tupleExact _) (wpAny_newObj_type (wpAny_bind (wpAny_pure (wpAny_pure ⟨_, rfl, wpAny_pure h⟩))) ok))
    | (exact wpAny_bind (wpAny_bind (m := Builtin.Tuple.tupleExact _) (wpAny_newObj_type (wpAny_pure (wpAny_pure ⟨_, rfl, wpAny_pure h⟩)) ok)))
    | (exact wpAny_bind (wpAny_bind (m := Builtin.Tuple.tupleExact _) (wpAny_newObj_type (wpAny_pure ⟨_, rfl, wpAny_pure h⟩) ok)))
end
section
variable {X : Cx} {xc : XC} {W : WX}
def tRevT (K : PySem.W.Frag) (te : TE) : TE := fun σ H Q => te σ H fun x H1 => ∃ a xs, x = .ref a ∧ SqT K H1 a xs ∧ ∀ p, H1 p = none → Q (.ref p) (upd H1 p (.tup xs.reverse))
theorem pe_revT {e : Expr} {te : TE} {k : Nat} {p1 p2 p3 pos : Pos} (he : PE X e te) : PE X (.Subscript e (.Slice none none (some (.UnaryOp .USub (.Constant (.int 1) k p1) p2)) p3) pos) (tRevT X.K te) := by
  refine ⟨fun pins s σ H Q I h => Subscript_ (thn (he.run pins s σ H _ I h) fun v s1 ⟨x, H1, I1, r1, q1⟩ => ?_)⟩
  obtain ⟨a, xs, rfl, hx, q⟩ := q1
  cases r1
  have st : PO X (some (.UnaryOp .USub (.Constant (.int 1) k p1) p2)) (tPart (tUn (rU fun i => .int (-i)) (tC (.int 1)))) := po_some (pe_un un_neg pe_int)
  refine wpAny_Slice (thn (po_none.run pins s1 σ H1 (fun o H2 => o = none ∧ H2 = H1) I1 ⟨rfl, rfl⟩) fun v1 s2 ⟨l, H2, I2, g1, l1, l2⟩ => ?_)
  subst l1 l2
  refine thn (po_none.run pins s2 σ H2 (fun o H3 => o = none ∧ H3 = H2) I2 ⟨rfl, rfl⟩) fun v2 s3 ⟨u, H3, I3, g2, l1, l2⟩ => ?_
  subst l1 l2
  refine thn (st.run pins s3 σ H3 (fun o H4 => o = some (-1) ∧ H4 = H3) I3 ⟨1, rfl, -1, rfl, rfl, rfl⟩) fun v3 s4 ⟨o, H4, I4, g3, l1, l2⟩ => ?_
  subst l1 l2
  have I5 : Inv X pins σ H4 { s4 with heap := s4.heap.push { cls := .type "slice", data := .fields #[v1, v2, v3] } } := I4.kept (t' := s4.toks) fun b ob q => Heap.get?_push_of_some _ q
  obtain ⟨its, r, ht, hz⟩ := I5.tuple hx
  have len := r.length
  show wpAny (model X.prog X.w) X.A (subscriptTail e (.Slice none none (some (.UnaryOp .USub (.Constant (.int 1) k p1) p2)) p3) (.ref a) (.ref s4.heap.objs.size)) (EP X pins σ Q) X.xe { s4 with heap := s4.heap.push { cls := .type "slice", data := .fields #[v1, v2, v3] } }
  refine tail_any (ops := [.ref a, .ref s4.heap.objs.size]) ht.typeIs (slot_tuple_getitem.lookup) ?_ (by with_unfolding_all rfl)
  refine back_item ht (Heap.IsSliceOf.new _ v1 v2 v3) g1 g2 g3 ?_ (by rw [List.size_toArray]; omega)
  refine ⟨.ref _, _, I5.laid (t' := s4.toks) (o := .tup xs.reverse) (fun b ob q => Heap.get?_push_of_some _ q) (Nat.le_refl _) ?_, rfl, q _ (I5.hok.fresh (Nat.le_refl _))⟩
  exact ⟨by rw [List.length_reverse]; exact hz, _, r.reverse, ⟨_, Heap.get?_push_size _ rfl, rfl, _, rfl⟩⟩
end
section
variable {K : PySem.W.Frag} {xc : XC} {W : WX} {S S1 S' H H1 H' H0 S0 : Hp} {σ σ1 σ2 σ' σ0 : Sg} {ρ ρ1 ρ2 ρ' ρ0 : Rho}
def mRevT (m : Rho → R EV) (ρ : Rho) : R EV := (m ρ).bind fun ev ρ1 => match rd ρ1 ev with
  | some (.tup ds) => .ok (.d (.tup ds.reverse)) ρ1
  | _ => .stuck
theorem je_revT {t : TE} {m : Rho → R EV} (ha : JE K xc W t m) : JE K xc W (tRevT K t) (mRevT m) := by
  intro S H σ ρ Q R h
  refine ha S H σ ρ _ R (ROk.mono (ROk.bind h) (fun ev ρ1 h1 => ?_) fun _ _ z => z)
  intro S1 H1 x s1 R1 e1
  split at h1
  · rename_i ds q
    obtain ⟨a, vs, rfl, t, l⟩ := seen_tup (rd_seen R1 e1 q)
    refine ⟨a, vs, rfl, sqT_same R1.sub t, fun p hp => ?_⟩
    have g : Grow S1 H1 (upd S1 p (.tup vs.reverse)) (upd H1 p (.tup vs.reverse)) := Grow.stable R1.sub hp
    exact h1 _ _ _ (s1.trans (.laid g)) (R1.laid g) (of_tup (SqT.of upd_same) (l.reverse.same g.s))
  · exact h1.elim
end
section
variable {X : Cx} {xc : XC} {W : WX} {e : Expr} {ma : Rho → R EV} {pos : Pos}
theorem r_revT {k : Nat} {p1 p2 p3 : Pos} (ha : ME X xc W e ma) : ME X xc W (.Subscript e (.Slice none none (some (.UnaryOp .USub (.Constant (.int 1) k p1) p2)) p3) pos) (mRevT ma) := mkE (pe_revT ha) (je_revT je_cE)
end
end Mi

set_option Elab.async false
set_option linter.all false
set_option maxRecDepth 100000
set_option autoImplicit false
namespace Mi
open PySem PySem.Spec PyProof.Rows L2
/-! ### set(t), t a tuple of ints -/
section
variable {prog : Program} {w : World} {A : Around} {E : Value → Shared → Prop} {s : Shared}
/-- the numbers met, each once -/
def once (ns : List Int) (n : Nat) : List Int := firstMet (fun i => ns.getD i 0) n
set_option maxHeartbeats 4000000 in
theorem set_of_tuple {t : Addr} {vs : Array Value} {ns : List Int} {Q : Value → Shared → Prop} (h0 : A.handled = none) (ht : s.heap.IsTuple t vs) (hi : IntsAre vs.toList ns) (hb : vs.size + 1 < scanBound)
    (h : ∀ (hp : Heap) (tk : Nat), hp.SetOf (intKind prog w) s.heap.objs.size (fun k => (firstMet (fun i => ns.getD i 0) vs.size).any (· == k)) (firstMet (fun i => ns.getD i 0) vs.size).length →
      (∀ b o, b < s.heap.objs.size → s.heap.get? b = some o → hp.get? b = some o) → Q (.ref s.heap.objs.size) { s with heap := hp, toks := tk }) : wpAny (model prog w) A (call (.type "set") [.ref t]) Q E s := by
  obtain ⟨c, tl, mro⟩ := PySem.F.called_set.mro
  have made := PySem.F.called_set.made
  have subs := PySem.F.called_set.sub
  refine wpAny_call (codeAny_of_tree ?_)
  show wpAny _ _ (callAny (.type "set") _) _ _ _
  refine wpAny_pure ⟨Code.quiet_builtin _ (by decide +kernel), (codeAny_builtin PySem.F.entry_type_call ?_)⟩
  rw [Around.under_plain (weight_type_call_type "set" [.ref t] []) rfl]
  have q1 := PySem.F.called_set.notType
  have q2 := PySem.F.called_set.canCreate
  have q3 := PySem.F.typeCall_set_1 (.ref t)
  repeat (any_goals (first | assumption | wp_step))
  refine codeAny_mono (code_set_new_1 (.ref t) (E := E) (Q₁ := fun ob s1 => ∃ ld : Bool, ob = .ref s.heap.objs.size ∧ s1 = { s with heap := s.heap.push { cls := .type "set", dict := none, data := .set #[] 0 (.fresh 0 0 ld) } }) fun ld => ⟨ld, rfl, rfl⟩) fun r s1 hr => ?_
  cases r with
  | error e => exact hr
  | ok fl =>
    cases fl with
    | ret ob =>
      obtain ⟨ld, rfl, rfl⟩ := hr
      have gS : (s.heap.push { cls := .type "set", dict := none, data := .set #[] 0 (.fresh 0 0 ld) }).get? s.heap.objs.size = some { cls := .type "set", dict := none, data := .set #[] 0 (.fresh 0 0 ld) } := Heap.get?_push_size _ rfl
      have tS : Shared.TypeIs { s with heap := s.heap.push { cls := .type "set", dict := none, data := .set #[] 0 (.fresh 0 0 ld) } } (.ref s.heap.objs.size) "set" := ⟨_, gS, rfl⟩
      have q4 := PySem.F.called_set.init.lookup
      have q5 := PySem.F.called_set.init.bind (.ref s.heap.objs.size)
      repeat (any_goals (first | assumption | wp_step))
      refine codeAny_mono (codeAny_call_builtin (R := wants (fun r s2 => r = .none ∧ ∃ hp tk, s2 = { s with heap := hp, toks := tk } ∧ hp.SetOf (intKind prog w) s.heap.objs.size (fun k => (firstMet (fun i => ns.getD i 0) vs.size).any (· == k)) (firstMet (fun i => ns.getD i 0) vs.size).length ∧
          (∀ b o, b < s.heap.objs.size → s.heap.get? b = some o → hp.get? b = some o)) E) PySem.F.called_set.init.plain PySem.F.entry_set_init (check_set_init_1 tS ?_)) fun r2 s2 hr2 => ?_
      · obtain ⟨ol, k1, k2, nl, k3⟩ := ht
        obtain ⟨c1, c2, c3, c4⟩ := ol
        simp only at k2 k3
        subst k2
        subst k3
        have k4 : (s.heap.push { cls := .type "set", dict := none, data := .set #[] 0 (.fresh 0 0 ld) }).get? t = some { cls := .type "tuple", dict := c2, data := .seq vs nl, slots := c4 } := Heap.get?_push_of_some _ k1
        have q6 := PySem.F.sub_tuple_set
        have q7 := PySem.F.sub_tuple_frozenset
        have q8 : (Value.type "tuple" == Value.type "dict") = false := by decide
        have k5 : (s.heap.push { cls := .type "set", dict := none, data := .set #[] 0 (.fresh 0 0 ld) }).IsTuple t vs := ⟨_, k4, rfl, nl, rfl⟩
        unfold Builtin.«set.__init__» noKeywords Builtin.Frozenset.updateFrom
        generalize hPI : pyIter = PI
        wp_walk
        subst hPI
        refine wpAny_pyIter_tuple k5 ?_
        refine wpAny_bind (wpAny_runValue ?_)
        have tlt : t < s.heap.objs.size := Heap.lt_size k1
        have h3 : A.in1.in1.in1.handled = none := by simp [h0]
        have nI : t ≠ (s.heap.push { cls := .type "set", dict := none, data := .set #[] 0 (.fresh 0 0 ld) }).objs.size := by
          rw [Heap.size_push]
          exact fun z => Nat.lt_irrefl t (by rw [z] at tlt; exact absurd tlt (by simp))
        have nS : s.heap.objs.size ∉ [(s.heap.push { cls := .type "set", dict := none, data := .set #[] 0 (.fresh 0 0 ld) }).objs.size, t] := by
          rw [Heap.size_push]
          intro z
          rcases List.mem_cons.mp z with z | z
          · exact absurd z (Nat.ne_of_lt (Nat.lt_succ_self _))
          · exact absurd (List.mem_singleton.mp z) (Nat.ne_of_gt tlt)
        have val : ∀ (i : Nat) (v : Value), vs[i]? = some v → ∃ tk, v = .int ((fun i => ns.getD i 0) i) tk := fun i v hv => IntsAre.int_at hi i v (by rw [Array.getElem?_toList]; exact hv)
        refine codeAny_set_update_loopS ((Walks.tuple h3 _ t nI vs).toS) s.heap.objs.size nS (fun i => ns.getD i 0) val hb (vs.size - 0) 0 _ (by omega) (Nat.zero_le _) ⟨⟨_, Heap.get?_push_size _ rfl, rfl, rfl⟩, (k5.push _)⟩ ?a1 ?a2
        case a1 =>
          have g2 : ((s.heap.push { cls := .type "set", dict := none, data := .set #[] 0 (.fresh 0 0 ld) }).push { cls := .type "tuple_iterator", data := .fields #[.ref t, .int 0 0] }).get? s.heap.objs.size = some { cls := .type "set", dict := none, data := .set #[] 0 (.fresh 0 0 ld) } := Heap.get?_push_of_some _ gS
          exact SetOf_congr ((setObjOf_fresh (knd := intKind prog w) ld).setOf g2 (by unfold scanBound; omega)) (fun _ => rfl) rfl
        case a2 =>
          intro s3 hm hS3
          obtain ⟨z1, z2, z3, z4, z5⟩ := s3
          have y1 : z2 = s.gens := hm.gens
          have y2 : z3 = s.drawn := hm.drawn
          have y3 : z5 = s.os := hm.os
          subst y1 y2 y3
          show wpAny _ _ _ _ _ _
          refine wpAny_pure ?_
          show wpAny _ _ (ret Value.none) _ _ _
          refine (wpAny_pure ⟨rfl, z1, z4, rfl, hS3, fun b o b1 e => ?_⟩)
          have b2 : b ≠ s.heap.objs.size := by omega
          have b3 : b ≠ (s.heap.push { cls := .type "set", dict := none, data := .set #[] 0 (.fresh 0 0 ld) }).objs.size := by
            rw [Heap.size_push]
            omega
          exact hm.heap b o (by simp; exact ⟨b2, by simpa using b3⟩) (Heap.get?_push_of_some _ ((Heap.get?_push_of_some _ e)))
      · cases r2 with
        | error e => exact hr2
        | ok f2 =>
          cases f2 with
          | ret r =>
            obtain ⟨rfl, hp, tk, rfl, g1, g2⟩ := hr2
            repeat (any_goals (first | assumption | wp_step))
            exact h _ _ g1 g2
          | _ => exact hr2.elim
    | _ => exact hr.elim
end
section
variable {X : Cx} {xc : XC} {W : WX}
/-- len(set(t)), t a tuple of ints -/
def tLenSetZ (K : PySem.W.Frag) (ta : TE) : TE := fun σ H Q => ta σ H fun x H1 => ∃ (l : Addr) (ns : List Int), x = .ref l ∧ SqT K H1 l (ns.map V.int) ∧ ns.length ≤ 4000 ∧ Q (.int ((once ns ns.length).length : Nat)) H1
theorem pe_lenSetZ {a : Expr} {ta : TE} {p p2 q pos : Pos} (hg : Gl X "len") (hm : X.mg "len" = none) (hg2 : Gl X "set") (hm2 : X.mg "set" = none) (ha : PE X a ta) (hc : X.calm = true)
    (na : starEach [a] X.env = (false, eval a X.env) :: starEach [] X.env) : PE X (.Call (.Name "len" p) [.Call (.Name "set" p2) [a] [] q] [] pos) (tLenSetZ X.K ta) := by
  constructor
  intro pins s σ H Q I h
  refine (Call_ (ld_blt I hg hm boot_len ?_))
  refine callWith_builtin1 (args_cons ?_ rfl) rfl rfl
  refine (Call_ (ld_blt I hg2 hm2 boot_set ?_))
  refine callWith_type1 (args_cons (thn (ha.run pins s σ H _ I h) fun v s1 ⟨x, H1, I1, r1, q1⟩ => args_nil ?_) na) na rfl
  obtain ⟨l, ns, rfl, hq, hl, q1⟩ := q1
  cases r1
  obtain ⟨its, r, pl, hz⟩ := I1.tuple hq
  have size : its.toArray.size = ns.length := by
    rw [List.size_toArray, ← r.length, List.length_map]
  refine set_of_tuple (I1.ok.hd hc) pl (ns := ns) (by simpa using intsAre_of r) (by rw [size]; unfold scanBound; omega) fun hp tk hS keep => ?_
  refine (args_nil ?_)
  rw [size] at hS
  obtain ⟨o, es, ep, tb, k1, k2, k3, _, _, _, k4, k5⟩ := hS
  have I2 : Inv X pins σ H1 { s1 with heap := hp, toks := tk } := I1.kept fun b o e => keep b o (Heap.lt_size e) e
  have le : (once ns ns.length).length ≤ ns.length := firstMet_length_le _ _
  exact call_len_set k1 k2 k3 k4 (by rw [k5]; unfold once at le; omega) ⟨.int ((once ns ns.length).length : Nat), H1, I2.tok _, ⟨_, by rw [k5]; rfl⟩, q1⟩
end
section
variable {K : PySem.W.Frag} {xc : XC} {W : WX} {S S1 S' H H1 H' H0 S0 : Hp} {σ σ1 σ2 σ' σ0 : Sg} {ρ ρ1 ρ2 ρ' ρ0 : Rho}
def mLenSet (m : Rho → R EV) (ρ : Rho) : R EV := (m ρ).bind fun ev ρ1 => match rd ρ1 ev with
  | some (.tup ds) => R.of ((intsOf ds).bind fun ns => if decide (ns.length ≤ 4000) then some (.d (.int ((once ns ns.length).length : Nat))) else none) ρ1
  | _ => .stuck
theorem je_lenSet {t : TE} {m : Rho → R EV} (ha : JE K xc W t m) : JE K xc W (tLenSetZ K t) (mLenSet m) := by
  intro S H σ ρ Q R h
  refine ha S H σ ρ _ R (ROk.mono (ROk.bind h) (fun ev ρ1 h1 => ?_) fun _ _ z => z)
  intro S1 H1 x s1 R1 e1
  split at h1
  · rename_i ds q
    obtain ⟨ev, w1, w2⟩ := ROk.of h1
    simp only [Option.bind_eq_some_iff] at w1
    obtain ⟨ns, w3, w4⟩ := w1
    obtain ⟨c, w5⟩ := some_ite w4
    subst w5
    have es := intsOf_eq w3
    subst es
    obtain ⟨a, vs, rfl, t, l⟩ := seen_tup (rd_seen R1 e1 q)
    rw [l.ints] at t
    exact ⟨a, ns, rfl, sqT_same R1.sub t, of_decide_eq_true c, w2 S1 H1 _ s1 R1 (show Den K S1 (.int _) _ from of_int)⟩
  · exact h1.elim
end
section
variable {X : Cx} {xc : XC} {W : WX} {a : Expr} {ma : Rho → R EV} {p p2 q pos : Pos}
theorem r_lenSet (hc : X.calm = true) (hg : Gl X "len") (hm : X.mg "len" = none) (hg2 : Gl X "set") (hm2 : X.mg "set" = none) (ha : ME X xc W a ma)
    (na : starEach [a] X.env = (false, eval a X.env) :: starEach [] X.env := by rfl) : ME X xc W (.Call (.Name "len" p) [.Call (.Name "set" p2) [a] [] q] [] pos) (mLenSet ma) := mkE (pe_lenSetZ hg hm hg2 hm2 ha hc na) (je_lenSet je_cE)
end
end Mi

set_option Elab.async false
set_option linter.all false
set_option maxRecDepth 100000
set_option autoImplicit false
namespace Mi
open PySem L2
section
variable {K : PySem.W.Frag} {xc : XC} {W : WX} {S S1 S' H H1 H' H0 S0 : Hp} {σ σ1 σ2 σ' σ0 : Sg} {ρ ρ1 ρ2 ρ' ρ0 : Rho}
/-! ### str(i), sum(xs) -/
def bStr : List D → Option EV
  | [.int i] => if decide (i.natAbs.log2 < 1920) then some (.d (.str (toString i))) else none
  | _ => none
def rStrI : List V → Hp → VK → Prop := fun xs H Q => ∃ i, xs = [V.int i] ∧ i.natAbs.log2 < 1920 ∧ Q (.str (toString i)) H
theorem cam_str : CaM K rStrI bStr := by
  intro S H xs ds ev Q hs sx e q
  match ds, sx, e with
  | [.int i], sx, e =>
    simp only [bStr] at e
    obtain ⟨c, e'⟩ := some_ite e
    subst e'
    obtain ⟨v, rfl, sv⟩ := seenL1 sx
    exact ⟨i, by rw [seen_int sv], of_decide_eq_true c, q S H _ (.refl hs) (evg of_str)⟩
def bSum : List D → Option EV
  | [.lst ds] => (intsOf ds).map fun ns => .d (.int ns.sum)
  | _ => none
theorem cam_sum : CaM K (rSum K) bSum := by
  intro S H xs ds ev Q hs sx e q
  match ds, sx, e with
  | [.lst ds], sx, e =>
    simp only [bSum, Option.map_eq_some_iff] at e
    obtain ⟨ns, e1, e2⟩ := e
    subst e2
    obtain ⟨v, rfl, sv⟩ := seenL1 sx
    obtain ⟨a, vs, rfl, t, l⟩ := seen_lst sv
    rw [intsOf_eq e1] at l
    rw [l.ints] at t
    exact ⟨a, ns, rfl, t, q S H _ (.refl hs) (evg of_int)⟩
/-! ### xs.extend([..]) -/
def mExt (i : Nat) (m : Rho → R EV) (ρ : Rho) : R EV := match ownL i ρ with
  | none => .stuck
  | some _ => (m ρ).bind fun ev ρ1 => match ev, ownL i ρ1 with
    | .new (.lst ys), some (b, xs) => if szOk (xs.length + ys.length) then .ok (.d .non) (ρ1.set i (.own b (.lst (xs ++ ys)))) else .stuck
    | _, _ => .stuck
theorem je_ext {i : Nat} {t : TE} {m : Rho → R EV} (ha : JE K xc W t m) : JE K xc W (tBM K "list" rExtend (tVar i) (tCons t tNil)) (mExt i m) := by
  intro S H σ ρ Q R h
  unfold mExt at h
  cases q0 : ownL i ρ with
  | none => rw [q0] at h; exact h.elim
  | some p0 =>
    rw [q0] at h
    obtain ⟨a, vs0, hv, h0, _⟩ := own_lst R (ownL_eq (b := p0.1) (xs := p0.2) q0)
    refine ⟨.ref a, hv, .inl ⟨rfl, _, SqL.of h0⟩, ?_⟩
    refine ha S H σ ρ _ R (ROk.mono (ROk.bind h) (fun ev ρ1 h1 => ?_) fun _ _ z => z)
    intro S1 H1 x s1 R1 e1
    match ev, h1, e1 with
    | .d _, h1, _ => exact h1.elim
    | .slot _, h1, _ => exact h1.elim
    | .new (.dic _), h1, _ => exact h1.elim
    | .new (.lst ys), h1, e1 =>
      cases q1 : ownL i ρ1 with
      | none => simp only [q1] at h1; exact h1.elim
      | some p1 =>
        obtain ⟨b, xs⟩ := p1
        simp only [q1] at h1
        have qi := ownL_eq q1
        obtain ⟨a1, vs, hv1, hl, l⟩ := own_lst R1 qi
        rw [hv] at hv1; cases hv1
        obtain ⟨a2, ho, rfl, k1, k2, k3, ⟨us, rfl, l2⟩, k5⟩ := e1
        by_cases c : szOk (xs.length + ys.length) = true
        · rw [if_pos c] at h1
          obtain ⟨s2, R2⟩ := own_upd R1 qi hv (o' := .lst (xs ++ ys)) (ho' := .lst (vs ++ us)) ⟨_, rfl, l.append l2⟩
          exact ⟨a, a2, vs, us, rfl, rfl, hl, k1, by rw [l.length, l2.length]; exact Nat.le_of_lt (szOk.le c), h1 _ _ _ (s1.trans s2) R2 (show Den K S1 .non .non from by unfold Den; rfl)⟩
        · rw [if_neg c] at h1; exact h1.elim
/-! ### d.get(k, x); d a slot -/
def mDget2 (i : Nat) (mk mv : Rho → R EV) (ρ : Rho) : R EV := match ownD i ρ with
  | none => .stuck
  | some _ => (mk ρ).bind fun ek ρ1 => (mFrz mv ρ1).bind fun ev ρ2 => match ek, ev, ownD i ρ2 with
    | .d dk, .d dv, some (_, kvs) => R.of ((keyOf dk).map fun k => .d ((lookD kvs k).getD dv)) ρ2
    | _, _, _ => .stuck
theorem je_dget2 {i : Nat} {t u : TE} {mk mv : Rho → R EV} (ha : JE K xc W t mk) (hb : JE K xc W u mv) : JE K xc W (tDGet2 (tVar i) t u) (mDget2 i mk mv) := by
  intro S H σ ρ Q R h
  unfold mDget2 at h
  cases q0 : ownD i ρ with
  | none => rw [q0] at h; exact h.elim
  | some p0 =>
    rw [q0] at h
    obtain ⟨a, vs0, hv, h0, _⟩ := own_dic R (ownD_eq (b := p0.1) (xs := p0.2) q0)
    refine ⟨.ref a, hv, a, rfl, .inl ⟨_, .inl h0⟩, ?_⟩
    refine ha S H σ ρ _ R (ROk.mono (ROk.bind h) (fun ek ρ1 h1 => ?_) fun _ _ z => z)
    intro S1 H1 x s1 R1 e1
    refine je_frz hb S1 H1 σ ρ1 _ R1 (ROk.mono (ROk.bind h1) (fun ev ρ2 h2 => ?_) fun _ _ z => z.step s1)
    intro S2 H2 y s2 R2 e2
    match ek, ev, h2, e1, e2 with
    | .d dk, .d dv, h2, e1, e2 =>
      cases q1 : ownD i ρ2 with
      | none => simp only [q1] at h2; exact h2.elim
      | some p1 =>
        obtain ⟨b, kvs⟩ := p1
        simp only [q1] at h2
        obtain ⟨a1, vs, hv1, hl, l⟩ := own_dic R2 (ownD_eq q1)
        rw [hv] at hv1; cases hv1
        obtain ⟨ev, w1, w2⟩ := ROk.of h2
        simp only [Option.map_eq_some_iff] at w1
        obtain ⟨k, w3, rfl⟩ := w1
        have ex := keyOf_v (show Den K S1 dk x from e1) w3
        refine ⟨valV vs k, by rw [ex]; exact DGet.k hl, w2 S2 H2 _ (s1.trans s2) R2 ?_⟩
        show Den K S2 _ _
        rcases kden_look (k := k) l with ⟨z1, z2⟩ | ⟨d', v', z1, z2, z3⟩
        · rw [z1, z2]; exact e2
        · rw [z1, z2]; exact z3
    | .new _, _, h2, _, _ => exact h2.elim
    | .slot _, _, h2, _, _ => exact h2.elim
    | .d _, .new _, h2, _, _ => exact h2.elim
    | .d _, .slot _, h2, _, _ => exact h2.elim
end
section
variable {X : Cx} {xc : XC} {W : WX} {x : Str} {p pos apos : Pos} {e f : Expr} {m : Rho → R (List EV)} {ma mb : Rho → R EV}
theorem r_str_ (hg : Gl X "str") (hmg : X.mg "str" = none) (ha : MA X xc W [e] m) (he : starEach [e] X.env = (false, eval e X.env) :: starEach [] X.env := by rfl) : ME X xc W (.Call (.Name "str" p) [e] [] pos) (mCB bStr m) := r_callTy call_str_int cam_str hg hmg (by decide +kernel) ha (by decide) (by decide) he
theorem r_sum (hc : X.calm = true) (hg : Gl X "sum") (hmg : X.mg "sum" = none) (ha : MA X xc W [e] m) (he : starEach [e] X.env = (false, eval e X.env) :: starEach [] X.env := by rfl) : ME X xc W (.Call (.Name "sum" p) [e] [] pos) (mCB bSum m) := r_callB (cr_sum hc) cam_sum hg hmg (by decide +kernel) ha (by decide) (by decide) he
theorem r_ext {i : Nat} (hN : X.N[i]? = some x) (hv : Vis X.env.scope x) (ha : ME X xc W e ma) (hd : (x == ("__debug__" : Str)) = false := by decide) (hcd : (x == ("__classdict__" : Str)) = false := by decide)
    (hbase : attributeBase (.Name x p) "extend" X.env (eval (.Name x p) X.env) = eval (.Name x p) X.env := by rfl)
    (hfew : ((backTo pos (starEach [e] X.env)).all (fun x => !x.1) && (backToKw pos (keywordEach [] X.env)).all (fun x => x.1.isSome)
      && decide (([e] : List Expr).length + ([] : List Keyword).length + (if ([] : List Keyword).isEmpty then 0 else 1) < 30)) = true := by rfl)
    (hline : (apos.endLine == pos.line) = true := by rfl) (hs : starEach [e] X.env = (false, eval e X.env) :: starEach [] X.env := by rfl) :
    ME X xc W (.Call (.Attribute (.Name x p) "extend" apos) [e] [] pos) (mExt i ma) :=
  mkE (pe_bm PySem.F.plainAttrs_list PySem.F.slot_list_extend PySem.F.type_list_extend mt_extend (pe_var hN hv hd hcd) (pa_cons ha pa_nil hs) hbase hfew hline hs) (je_ext je_cE)
theorem r_dget2 {i : Nat} (hu : X.A.units + 1 < cLine) (hN : X.N[i]? = some x) (hv : Vis X.env.scope x) (ha : ME X xc W e ma) (hb : ME X xc W f mb) (hd : (x == ("__debug__" : Str)) = false := by decide) (hcd : (x == ("__classdict__" : Str)) = false := by decide)
    (m : M2 X (.Name x p) "get" apos e f pos := by exact ⟨rfl, rfl, rfl, rfl⟩) : ME X xc W (.Call (.Attribute (.Name x p) "get" apos) [e, f] [] pos) (mDget2 i ma mb) :=
  mkE (pe_dget2 hu (pe_var hN hv hd hcd) ha hb m) (je_dget2 je_cE je_cE)
end
end Mi

set_option Elab.async false
set_option linter.all false
set_option maxRecDepth 100000
set_option autoImplicit false
set_option maxHeartbeats 1000000
/-! isinstance with (tuple, list); powers; walks over two lists or tuples at once -/
namespace Mi
open PySem L2
def dIsTL : D → Option EV
  | .ref _ => none
  | .tup _ => some (.d (.bl true))
  | .lst _ => some (.d (.bl true))
  | _ => some (.d (.bl false))
def tIsTLx (K : PySem.W.Frag) (ta : TE) : TE := tCB (rIsiT K) (tCons ta (tCons (tTup (tCons (tC (.ty "tuple")) (tCons (tC (.ty "list")) tNil))) tNil))
def mIsTL (ma : Rho → R EV) (ρ : Rho) : R EV := (ma ρ).bind fun ea ρ1 => R.of ((rd ρ1 ea).bind dIsTL) ρ1
theorem kit_TL (K : PySem.W.Frag) (d : D) (n : String) (ev : EV) (e : d.ty = some n) (h : dIsTL d = some ev) : ∃ b, ev = .d (.bl b) ∧ PySem.W.kitAny K (.type n) [.type "tuple", .type "list"] = some b := by
  cases d <;> simp only [D.ty, reduceCtorEq, Option.some.injEq] at e <;> subst e <;> simp only [dIsTL, Option.some.injEq] at h <;> subst h <;> exact ⟨_, rfl, by first | rfl | kernel_rfl⟩
theorem je_isTL {K : PySem.W.Frag} {xc : XC} {W : WX} {ta : TE} {ma : Rho → R EV} (ha : JE K xc W ta ma) : JE K xc W (tIsTLx K ta) (mIsTL ma) := by
  intro S H σ ρ Q R h
  refine ha S H σ ρ _ R (ROk.mono (ROk.bind h) (fun ea ρ1 h1 => ?_) fun _ _ z => z)
  intro S1 H1 x s1 R1 e1
  obtain ⟨ev, q, hq⟩ := ROk.of h1
  simp only [Option.bind_eq_some_iff] at q
  obtain ⟨d, q1, q2⟩ := q
  have sn := rd_seen R1 e1 q1
  have hty : ∃ n, d.ty = some n := by
    cases d <;> first | exact ⟨_, rfl⟩ | simp [dIsTL] at q2
  obtain ⟨n, hn⟩ := hty
  obtain ⟨b, rfl, hk⟩ := kit_TL K d n ev hn q2
  show 2 ≤ sizeLine ∧ ∀ p : Addr, H1 p = none → rIsiT K [x, .ref p] (upd H1 p (.tup [.ty "tuple", .ty "list"])) Q
  refine ⟨by decide, fun p hp => ?_⟩
  have g : Grow S1 H1 S1 (upd H1 p (.tup [.ty "tuple", .ty "list"])) := Grow.loose R1.sub hp
  have sn2 : Seen K S1 (upd H1 p (.tup [.ty "tuple", .ty "list"])) d x := rd_seen (R1.laid g) (e1.step (.laid g)) q1
  exact ⟨x, p, [.ty "tuple", .ty "list"], _, [.type "tuple", .type "list"], b, rfl, upd_same, .cons (.ty _) (.cons (.ty _) .nil), tyX_of g.sub sn2 hn, hk, hq S1 _ _ (s1.trans (.laid g)) (R1.laid g) (show Den K S1 (.bl b) _ from of_bl)⟩
section
variable {X : Cx} {xc : XC} {W : WX} {a : Expr} {p p2 p3 pos tpos : Pos} {kk : Nat} {ma : Rho → R EV}
theorem r_isTL (hg : Gl X "isinstance") (hmg : X.mg "isinstance" = none) (hg1 : Gl X "tuple") (hm1 : X.mg "tuple" = none) (hg2 : Gl X "list") (hm2 : X.mg "list" = none) (ha : ME X xc W a ma)
    (he : starEach [a, .Tuple [.Name "tuple" p2, .Name "list" p3] kk tpos] X.env = (false, eval a X.env) :: starEach [.Tuple [.Name "tuple" p2, .Name "list" p3] kk tpos] X.env := by rfl)
    (he2 : starEach [.Tuple [.Name "tuple" p2, .Name "list" p3] kk tpos] X.env = (false, eval (.Tuple [.Name "tuple" p2, .Name "list" p3] kk tpos) X.env) :: starEach [] X.env := by rfl)
    (hpl : (backTo pos (starEach [.Tuple [.Name "tuple" p2, .Name "list" p3] kk tpos] X.env)).any (·.1) = false := by rfl)
    (he3 : starEach [.Name "tuple" p2, .Name "list" p3] X.env = (false, eval (.Name "tuple" p2) X.env) :: starEach [.Name "list" p3] X.env := by rfl)
    (he4 : starEach [.Name "list" p3] X.env = (false, eval (.Name "list" p3) X.env) :: starEach [] X.env := by rfl) :
    ME X xc W (.Call (.Name "isinstance" p) [a, .Tuple [.Name "tuple" p2, .Name "list" p3] kk tpos] [] pos) (mIsTL ma) := by
  have h1 : PE X (.Name "tuple" p2) (tC (.ty "tuple")) := pe_bltn hg1 hm1 (by decide +kernel) rfl (by decide) (by decide)
  have h2 : PE X (.Name "list" p3) (tC (.ty "list")) := pe_bltn hg2 hm2 (by decide +kernel) rfl (by decide) (by decide)
  have hT := pe_tup (pos := tpos) (x1 := kk) (pa_cons h1 (pa_cons h2 pa_nil he4) he3)
  exact mkE (pe_callB call_isiT hg hmg (by decide +kernel) (pa_cons ha (pa_cons hT pa_nil he2) he) (by decide) (by decide) he hpl) (je_isTL je_cE)
end
def powOk (i j : Int) : Bool := decide (0 ≤ j) && decide (j ≤ 1000000) && decide (i.natAbs < 2 ^ 64)
def dPow := dI2c powOk fun i j => .int (i ^ j.toNat)
section
variable {X : Cx} {xc : XC} {W : WX} {a b : Expr} {pos : Pos} {ma mb : Rho → R EV}
theorem r_pow (ha : ME X xc W a ma) (hb : ME X xc W b mb) : ME X xc W (.BinOp a .Pow b pos) (mOp dPow ma mb) := r_op op_pow (opm_I (fun i j h => by
  simp only [powOk, Bool.and_eq_true, decide_eq_true_eq] at h; exact ⟨h.1.1, h.1.2, h.2⟩) fun _ _ _ => of_int) ha hb
end

open PySem.Spec PyProof.Rows
theorem turn_of2 {P : Program} {w : World} {K : PySem.W.Frag} {elts : List Expr} {kk : Nat} {tpos : Pos} {it : Addr} {fp ch : List Addr} {tn : Nat → Heap → Prop} {J : It} (mem : it ∈ fp) (sub : ∀ b ∈ ch, b ∈ fp) (obj : ∀ i h, tn i h → ∀ b ∈ fp, ∃ o, h.get? b = some o ∧ ∀ v, o.data ≠ .cell v)
    (keep : ∀ i h h', tn i h → (∀ b ∈ fp, ∀ o, h.get? b = some o → h'.get? b = some o) → tn i h') (self : ∀ (A : Around) (i : Nat) (s : Shared) (Q : Value → Shared → Prop) (E : Value → Shared → Prop), tn i s.heap → Q (.ref it) s → wpAny (model P w) A (pyIter (.ref it)) Q E s)
    (W : ∀ (X : Cx), X.prog = P → X.w = w → X.K = K → X.calm = true → ∀ (i : Nat) (pins : List (Addr × Obj)) (s : Shared) (σ : L2.St) (H : Hp), Inv X pins σ H s → (J.go i H ∨ J.stop i H) → tn i s.heap →
      ∃ (fpa : List Addr) (n : Nat) (Pt : Nat → Array Value → Prop) (St : Nat → Heap → Prop) (Mid : Nat → Addr → Heap → Prop), WalksT P w X.A it fpa ch n Pt St Mid ∧ St i s.heap ∧ (∀ h, i < n → St (i + 1) h → tn (i + 1) h) ∧
        (J.go i H → i < n ∧ ∀ us, Pt i us → ∃ vs, Vals vs us.toList ∧ vs.length ≤ sizeLine ∧ ∀ T, H T = none → J.yld i H (.ref T) (upd H T (.tup vs))) ∧ (J.stop i H → i = n)) :
    Turn P w K (.Tuple elts kk tpos) J fp it tn where
  mem := mem
  obj := obj
  keep := keep
  item := by
    intro X hP hw hK hc i pins s σ H E I hf st hg
    obtain ⟨fpa, n, Pt, St, Mid, Wk, hst, hnext, hgo, _⟩ := W X hP hw hK hc i pins s σ H I (.inl hg) st
    have hobj := obj i s.heap st
    subst hP hw hK
    obtain ⟨hlt, hv⟩ := hgo hg
    refine Wk.item i s _ _ hlt hst fun T vals h' tk hPt hT hTup hMid hk => ?_
    refine ⟨_, rfl, Wk.go elts kk tpos i T { s with heap := h', toks := tk } _ _ hMid fun h'' hst' hk' => ?_⟩
    obtain ⟨vs, rv, hl, hy⟩ := hv vals hPt
    have hTf : T ∉ fp := fun m => by
      obtain ⟨o, ho, _⟩ := hobj T m
      exact absurd (Heap.lt_size ho) (Nat.not_lt.mpr hT)
    have hTw : T ∉ ch := fun m => hTf (sub T m)
    have new : ObjOk X.prog X.w (upd H T (.tup vs)) h'' T (.tup vs) := ⟨hl, vals.toList, rv, by
      have e : vals.toList.toArray = vals := Array.toArray_toList
      rw [e]
      obtain ⟨o, ho, r⟩ := hTup
      exact ⟨o, hk' T o hTw ho, r⟩⟩
    have I1 : Inv X pins σ (upd H T (.tup vs)) { s with heap := h'', toks := tk } :=
      I.turnedNew (ch := fp) (fun b ob hb q => hk' b ob (fun z => hb (sub b z)) (hk b ob (fun z => hb (sub b z)) q)) hf hT new
    refine ⟨.ref T, _, I1, rfl, hy T (I.hok.fresh hT), hnext h'' hlt hst', fun b hb => ?_⟩
    have hb' : b ≠ T := fun z => hTf (by rw [← z]; exact hb)
    rw [upd_ne hb']
    exact (hf b hb).1
  done := by
    intro X hP hw hK hc i pins s σ H E I hf st hg
    obtain ⟨fpa, n, Pt, St, Mid, Wk, hst, hnext, _, hstop⟩ := W X hP hw hK hc i pins s σ H I (.inr hg) st
    subst hP hw hK
    have e := hstop hg
    subst e
    exact Wk.done s _ _ hst fun h' tk hk => ⟨rfl, I.turnedL (t' := tk) (ch := fp) (fun b o hb q => hk b o (fun z => hb (sub b z)) q) hf⟩
  self := self
/-! ### zip of two lists or tuples -/
def ZipA (K : PySem.W.Frag) (k1 k2 : Bool) (a1 a2 : Addr) (xs ys : List V) : It :=
  ⟨fun i H => (SqK k1 K H a1 xs ∧ SqK k2 K H a2 ys) ∧ i < min xs.length ys.length, fun i H v H' => ∃ T x y, v = .ref T ∧ H T = none ∧ H' = upd H T (.tup [x, y]) ∧ xs[i]? = some x ∧ ys[i]? = some y, fun i H => (SqK k1 K H a1 xs ∧ SqK k2 K H a2 ys) ∧ min xs.length ys.length ≤ i⟩
structure Zs (z TI TO i1 i2 a1 a2 : Addr) : Prop where
  s : ZipSep2 z TI TO i1 i2 [i1, a1] [i2, a2]
  n1 : a1 ≠ i1
  n2 : a2 ≠ i2
theorem turn_zipA {P : Program} {w : World} {K : PySem.W.Frag} {elts : List Expr} {kk : Nat} {tpos : Pos} (k1 k2 : Bool) (z TI TO i1 i2 a1 a2 : Addr) (xs ys : List V) :
    Turn P w K (.Tuple elts kk tpos) (ZipA K k1 k2 a1 a2 xs ys) [z, TI, TO, i1, i2] z (fun i h => IsZip h z TI TO .none ∧ IsTupOf2 h TI (.ref i1) (.ref i2) ∧ (∃ u v, IsTupOf2 h TO u v) ∧ ItA k1 h i1 a1 i ∧ ItA k2 h i2 a2 i ∧ Zs z TI TO i1 i2 a1 a2 ∧ i ≤ min xs.length ys.length) := by
  refine turn_of2 (ch := [z, TO, i1, i2]) (by simp) (fun b hb => ?_) (fun i h st b hb => ?_) (fun i h h' st kp => ?_) (fun A i s Q E st h => ?_) ?_
  · simp only [List.mem_cons, List.not_mem_nil, or_false] at hb ⊢
    rcases hb with h | h | h | h <;> simp [h]
  · obtain ⟨hz, hti, ⟨u, v, hto⟩, h1, h2, _⟩ := st
    simp only [List.mem_cons, List.not_mem_nil, or_false] at hb
    rcases hb with e | e | e | e | e <;> rw [e]
    · exact ⟨_, hz, fun v q => nomatch q⟩
    · exact ⟨_, hti, fun v q => nomatch q⟩
    · exact ⟨_, hto, fun v q => nomatch q⟩
    · exact itA_obj h1
    · exact itA_obj h2
  · obtain ⟨hz, hti, ⟨u, v, hto⟩, h1, h2, r⟩ := st
    exact ⟨kp z (by simp) _ hz, kp TI (by simp) _ hti, ⟨u, v, kp TO (by simp) _ hto⟩, itA_at h1 fun o q => kp i1 (by simp) o q, itA_at h2 fun o q => kp i2 (by simp) o q, r⟩
  · exact wpAny_pyIter_zip st.1 h
  · intro X hP hw hK hc i pins s σ H I hg st
    subst hP hw hK
    obtain ⟨hz, hti, hto, h1, h2, sp, hle⟩ := st
    have hq : SqK k1 X.K H a1 xs ∧ SqK k2 X.K H a2 ys := hg.elim (·.1) (·.1)
    obtain ⟨its1, rv1, p1, hz1⟩ := sqK_at I hq.1
    obtain ⟨its2, rv2, p2, hz2⟩ := sqK_at I hq.2
    have l1 := rv1.length
    have l2 := rv2.length
    have D1 := drawsA (prog := X.prog) (w := X.w) (A := X.A.in1) k1 (I.ok.hd hc) i1 a1 sp.n1 its1.toArray
    have D2 := drawsA (prog := X.prog) (w := X.w) (A := X.A.in1) k2 (I.ok.hd hc) i2 a2 sp.n2 its2.toArray
    refine ⟨_, _, _, _, _, WalksT.zipD2 sp.s D1 D2, ⟨hz, hti, hto, ⟨h1, p1⟩, ⟨h2, p2⟩⟩, fun h hlt st' => ?_, fun hgo => ⟨?_, fun us ⟨x1, x2, hx1, hx2, eu⟩ => ?_⟩, fun hst => ?_⟩
    · obtain ⟨hz', hti', hto', ⟨h1', _⟩, ⟨h2', _⟩⟩ := st'
      exact ⟨hz', hti', hto', h1', h2', sp, by simp at hlt; omega⟩
    · have := hgo.2
      simp; omega
    · have hlt := hgo.2
      have ex : xs[i]? = some xs[i] := List.getElem?_eq_getElem (by omega)
      have ey : ys[i]? = some ys[i] := List.getElem?_eq_getElem (by omega)
      obtain ⟨u, hu, ru⟩ := rv1.get ex
      obtain ⟨v, hv, rv⟩ := rv2.get ey
      have e1 : x1 = u := by
        have hx' : its1[i]? = some x1 := by simpa using hx1
        rw [hu] at hx'
        exact (Option.some.inj hx').symm
      have e2 : x2 = v := by
        have hx' : its2[i]? = some x2 := by simpa using hx2
        rw [hv] at hx'
        exact (Option.some.inj hx').symm
      refine ⟨[xs[i], ys[i]], ?_, by show 2 ≤ sizeLine; decide, fun T hT => ⟨T, _, _, rfl, hT, rfl, ex, ey⟩⟩
      rw [eu, e1, e2]
      exact .cons ru (.cons rv .nil)
    · have := hst.2
      simp; omega
end Mi

set_option Elab.async false
set_option linter.all false
set_option maxRecDepth 100000
set_option autoImplicit false
set_option maxHeartbeats 1000000
namespace Mi
open PySem PySem.Spec PyProof.Rows L2
def tupO (xs : Array Value) : Obj := { cls := .type "tuple", data := .seq xs }
def zipO (TI TO : Addr) : Obj := { cls := .type "zip", data := .fields #[.none, .bool false, .bool false, .ref TI, .ref TO] }
def zH2 (h : Heap) (o1 o2 : Obj) : Heap := (h.push o1).push o2
def zH3 (h : Heap) (o1 o2 : Obj) : Heap := (zH2 h o1 o2).push (tupO #[.ref h.objs.size, .ref (h.push o1).objs.size])
def zH4 (h : Heap) (o1 o2 : Obj) : Heap := (zH3 h o1 o2).push (tupO #[.none, .none])
def zH5 (h : Heap) (o1 o2 : Obj) : Heap := (zH4 h o1 o2).push (zipO (zH2 h o1 o2).objs.size (zH3 h o1 o2).objs.size)
set_option maxHeartbeats 4000000 in
theorem meets_zipA {v1 v2 : Value} {o1 o2 : Obj} {H1 H2 : Heap → Prop} (B1 : Begins v1 o1 H1) (B2 : Begins v2 o2 H2) :
    Meets (Builtin.«zip.__new__» ⟨[.type "zip", v1, v2], []⟩) (fun _ R s => (H1 s.heap ∧ H2 s.heap) ∧
      R (.ok (.ret (.ref (zH4 s.heap o1 o2).objs.size))) { s with heap := zH5 s.heap o1 o2 }) :=
  .of_wp fun prog w A R s h => by
    obtain ⟨hp, g, d, tk, os⟩ := s; obtain ⟨⟨h1, h2⟩, h⟩ := h
    have hsub := sub_zip
    have q1 : ∀ {A' : Around} {E : Value → Shared → Prop} {Q : Value → Shared → Prop}, Q (.ref hp.objs.size) ⟨hp.push o1, g, d, tk, os⟩ → wpAny (model prog w) A' (pyIter v1) Q E ⟨hp, g, d, tk, os⟩ :=
      fun q => B1.iter prog w _ _ ⟨hp, g, d, tk, os⟩ _ h1 q
    have h2' : H2 (hp.push o1) := B2.keeps _ _ h2 fun b o x => Heap.get?_push_of_some _ x
    have q2 : ∀ {A' : Around} {E : Value → Shared → Prop} {Q : Value → Shared → Prop}, Q (.ref (hp.push o1).objs.size) ⟨(hp.push o1).push o2, g, d, tk, os⟩ → wpAny (model prog w) A' (pyIter v2) Q E ⟨hp.push o1, g, d, tk, os⟩ :=
      fun q => B2.iter prog w _ _ ⟨hp.push o1, g, d, tk, os⟩ _ h2' q
    wp_walk using q1, q2
    exact ⟨_, rfl, h⟩
set_option maxHeartbeats 1000000 in
theorem call_zipA {prog : Program} {w : World} {A : Around} {E : Value → Shared → Prop} {s : Shared} {v1 v2 : Value} {o1 o2 : Obj} {H1 H2 : Heap → Prop} {Q : Value → Shared → Prop} (B1 : Begins v1 o1 H1) (B2 : Begins v2 o2 H2) (h1 : H1 s.heap) (h2 : H2 s.heap)
    (h : ∀ h', IsZip h' (s.heap.objs.size + 4) (s.heap.objs.size + 2) (s.heap.objs.size + 3) .none → IsTupOf2 h' (s.heap.objs.size + 2) (.ref s.heap.objs.size) (.ref (s.heap.objs.size + 1)) → IsTupOf2 h' (s.heap.objs.size + 3) .none .none →
      h'.get? s.heap.objs.size = some o1 → h'.get? (s.heap.objs.size + 1) = some o2 → h'.objs.size = s.heap.objs.size + 5 →
      (∀ b o, s.heap.get? b = some o → h'.get? b = some o) → Q (.ref (s.heap.objs.size + 4)) { s with heap := h' }) :
    wpAny (model prog w) A (call (.type "zip") [v1, v2]) Q E s := by
  refine callType_new F.called_zip (by decide) (F.typeCall_zip_2 _ _) (F.newCall_zip_2 _ _) (fun obj => F.args_object_init_3 obj _ _) F.entry_zip_new
    (meets_zipA B1 B2) ⟨⟨h1, h2⟩, ?_⟩
  have z1 : (s.heap.push o1).objs.size = s.heap.objs.size + 1 := Heap.size_push ..
  have z2 : (zH2 s.heap o1 o2).objs.size = s.heap.objs.size + 2 := by unfold zH2; rw [Heap.size_push, z1]
  have z3 : (zH3 s.heap o1 o2).objs.size = s.heap.objs.size + 3 := by unfold zH3; rw [Heap.size_push, z2]
  have z4 : (zH4 s.heap o1 o2).objs.size = s.heap.objs.size + 4 := by unfold zH4; rw [Heap.size_push, z3]
  have z5 : (zH5 s.heap o1 o2).objs.size = s.heap.objs.size + 5 := by unfold zH5; rw [Heap.size_push, z4]
  have up45 : ∀ b o, (zH4 s.heap o1 o2).get? b = some o → (zH5 s.heap o1 o2).get? b = some o := fun b o x => by unfold zH5; exact Heap.get?_push_of_some _ x
  have up34 : ∀ b o, (zH3 s.heap o1 o2).get? b = some o → (zH5 s.heap o1 o2).get? b = some o := fun b o x => up45 b o (by unfold zH4; exact Heap.get?_push_of_some _ x)
  have up23 : ∀ b o, (zH2 s.heap o1 o2).get? b = some o → (zH5 s.heap o1 o2).get? b = some o := fun b o x => up34 b o (by unfold zH3; exact Heap.get?_push_of_some _ x)
  have up1 : ∀ b o, (s.heap.push o1).get? b = some o → (zH5 s.heap o1 o2).get? b = some o := fun b o x => up23 b o (by unfold zH2; exact Heap.get?_push_of_some _ x)
  have g5 : (zH5 s.heap o1 o2).get? (s.heap.objs.size + 4) = some (zipO (s.heap.objs.size + 2) (s.heap.objs.size + 3)) := by
    have := Heap.get?_push_size (zH4 s.heap o1 o2) (o := zipO (zH2 s.heap o1 o2).objs.size (zH3 s.heap o1 o2).objs.size) rfl
    rw [z4, z2, z3] at this
    unfold zH5; rw [z2, z3]; exact this
  show _ ∧ _
  rw [z4]
  refine ⟨⟨_, g5, rfl⟩, h _ g5 ?_ ?_ ?_ ?_ z5 fun b o x => up1 b o (Heap.get?_push_of_some _ x)⟩
  · have := Heap.get?_push_size (zH2 s.heap o1 o2) (o := tupO #[.ref s.heap.objs.size, .ref (s.heap.push o1).objs.size]) rfl
    rw [z2, z1] at this
    exact up34 _ _ (by unfold zH3; rw [z1]; exact this)
  · have := Heap.get?_push_size (zH3 s.heap o1 o2) (o := tupO #[.none, .none]) rfl
    rw [z3] at this
    exact up45 _ _ (by unfold zH4; exact this)
  · exact up1 _ _ (Heap.get?_push_size _ B1.free)
  · have := Heap.get?_push_size (s.heap.push o1) B2.free
    rw [z1] at this
    exact up23 _ _ (by unfold zH2; exact this)
theorem not_mem2 {x y z : Nat} (h1 : x ≠ y) (h2 : x ≠ z) : ¬ (x ∈ ([y, z] : List Nat)) := by simp [h1, h2]
theorem zs_new {n a1 a2 : Nat} (l1 : a1 < n) (l2 : a2 < n) : Zs (n + 4) (n + 2) (n + 3) n (n + 1) a1 a2 where
  s := {
    TIz := show ¬ (n + 2 = n + 4) by omega
    TOz := show ¬ (n + 3 = n + 4) by omega
    TITO := show ¬ (n + 2 = n + 3) by omega
    TIi1 := show ¬ (n + 2 = n) by omega
    mem1 := by simp
    zf1 := not_mem2 (by omega) (by omega)
    Tf1 := not_mem2 (by omega) (by omega)
    TIi2 := show ¬ (n + 2 = n + 1) by omega
    mem2 := by simp
    zf2 := not_mem2 (by omega) (by omega)
    Tf2 := not_mem2 (by omega) (by omega)
    sep1_2 := not_mem2 (by omega) (by omega)
    sep2_1 := not_mem2 (by omega) (by omega) }
  n1 := show ¬ (a1 = n) by omega
  n2 := show ¬ (a2 = n + 1) by omega
def iZipA (K : PySem.W.Frag) (ta : TA) : TI := fun σ H R => ta σ H fun vs H1 => ∃ k1 k2 a1 a2 xs ys, vs = [.ref a1, .ref a2] ∧ SqK k1 K H1 a1 xs ∧ SqK k2 K H1 a2 ys ∧ R (ZipA K k1 k2 a1 a2 xs ys) H1
set_option maxHeartbeats 1000000 in
theorem pi_zipA {X : Cx} {e1 e2 : Expr} {ta : TA} {p pos tpos : Pos} {elts : List Expr} {kk : Nat} (hg : Gl X "zip") (hm : X.mg "zip" = none) (ha : PA X [e1, e2] ta) (hs : starEach [e1, e2] X.env = (false, eval e1 X.env) :: starEach [e2] X.env := by rfl) (hp : (backTo pos (starEach [e2] X.env)).any (·.1) = false := by rfl) :
    PI X (.Tuple elts kk tpos) (.Call (.Name "zip" p) [e1, e2] [] pos) (iZipA X.K ta) := by
  refine ⟨fun pins s σ H R I h => ?_⟩
  refine Call_ (ld_blt I hg hm boot_zip (PyProof.Rows.callWith_type1 (thn (ha.run pos pins s σ H _ I h) fun us s1 ⟨vs, H1, I1, r1, q1⟩ => ?_) hs hp))
  obtain ⟨k1, k2, a1, a2, xs, ys, ex, hq1, hq2, q⟩ := q1
  subst ex
  cases r1 with
  | cons r rr =>
    cases rr with
    | cons r' rr' =>
    cases rr'
    cases r
    cases r'
    obtain ⟨its1, rv1, p1, hz1⟩ := sqK_at I1 hq1
    obtain ⟨its2, rv2, p2, hz2⟩ := sqK_at I1 hq2
    refine call_zipA (beginsA k1 a1 its1.toArray) (beginsA k2 a2 its2.toArray) p1 p2 fun h' gz gti gto g1 g2 hsz hk => wpAny_pyIter_zip gz ?_
    have I2 : Inv X pins σ H1 { s1 with heap := h' } := I1.kept (t' := s1.toks) hk
    have l1 : (a1 : Nat) < s1.heap.objs.size := srA_lt p1
    have l2 : (a2 : Nat) < s1.heap.objs.size := srA_lt p2
    have sp : Zs (s1.heap.objs.size + 4) (s1.heap.objs.size + 2) (s1.heap.objs.size + 3) s1.heap.objs.size (s1.heap.objs.size + 1) a1 a2 := zs_new l1 l2
    refine ⟨s1.heap.objs.size + 4, [s1.heap.objs.size + 4, s1.heap.objs.size + 2, s1.heap.objs.size + 3, s1.heap.objs.size, s1.heap.objs.size + 1], _, _, H1, rfl, I2, turn_zipA k1 k2 (s1.heap.objs.size + 4) (s1.heap.objs.size + 2) (s1.heap.objs.size + 3) s1.heap.objs.size (s1.heap.objs.size + 1) a1 a2 xs ys, ⟨gz, gti, ⟨_, _, gto⟩, itA_new k1 g1, itA_new k2 g2, sp, Nat.zero_le _⟩, fun b hb => ?_, q⟩
    have hle : s1.heap.objs.size ≤ b := by
      simp only [List.mem_cons, List.not_mem_nil, or_false] at hb
      rcases hb with z | z | z | z | z <;> (rw [z]; first | exact Nat.le_add_right _ _ | exact Nat.le_refl _)
    exact I1.fpOk hle (I1.hok.fresh hle)
section
variable {K : PySem.W.Frag} {xc : XC} {W : WX} {S S1 S' H H1 H' H0 S0 : Hp} {σ σ1 σ2 σ' σ0 : Sg} {ρ ρ1 ρ2 ρ' ρ0 : Rho}
def zipD : List D → List D → List D
  | x :: xs, y :: ys => .tup [x, y] :: zipD xs ys
  | _, _ => []
theorem zipD_len : ∀ (xs ys : List D), (zipD xs ys).length = min xs.length ys.length
  | [], _ => by simp [zipD]
  | _ :: _, [] => by simp [zipD]
  | x :: xs, y :: ys => by simp only [zipD, List.length_cons, zipD_len xs ys]; omega
theorem zipD_get : ∀ (xs ys : List D) (i : Nat) (x y : D), xs[i]? = some x → ys[i]? = some y → (zipD xs ys)[i]? = some (.tup [x, y])
  | [], _, _, _, _, h, _ => by simp at h
  | _ :: _, [], _, _, _, _, h => by simp at h
  | a :: as, b :: bs, 0, x, y, h1, h2 => by simp at h1 h2; subst h1 h2; rfl
  | a :: as, b :: bs, i + 1, x, y, h1, h2 => by
    simp only [zipD, List.getElem?_cons_succ] at h1 h2 ⊢
    exact zipD_get as bs i x y h1 h2
theorem it_zip {k1 k2 : Bool} {a b : Addr} {vs us : List V} {ds es : List D} (t : SqK k1 K S a vs) (l : DenL K S ds vs) (t2 : SqK k2 K S b us) (l2 : DenL K S es us) : ItOk K S (zipD ds es) (ZipA K k1 k2 a b vs us) := by
  intro S1 H1 h1 h2 i
  have t1 : SqK k1 K H1 a vs := sqK_same (h1.trans h2) t
  have t3 : SqK k2 K H1 b us := sqK_same (h1.trans h2) t2
  have hl : (zipD ds es).length = min vs.length us.length := by rw [zipD_len, l.length, l2.length]
  rw [hl]
  refine ⟨fun c => ⟨⟨⟨t1, t3⟩, c⟩, fun x H2 y => ?_⟩, fun c => ⟨⟨t1, t3⟩, c⟩⟩
  obtain ⟨T, x', y', rfl, hT, rfl, hx, hy⟩ := y
  obtain ⟨d, e1, e2⟩ := l.getv hx
  obtain ⟨e, f1, f2⟩ := l2.getv hy
  have g := Grow.stable h2 (o := .tup [x', y']) hT
  refine ⟨_, g, .tup [d, e], zipD_get _ _ _ _ _ e1 f1, ?_⟩
  exact of_tup (SqT.of upd_same) (DenL.cons ((e2.same h1).same g.s) (DenL.cons ((f2.same h1).same g.s) DenL.nil))
def seqD : D → Option (List D)
  | .lst ds => some ds
  | .tup ds => some ds
  | _ => none
def mZip (m n : Rho → R EV) (ρ : Rho) : R (List D) := (mFrz m ρ).bind fun ev ρ1 => (mFrz n ρ1).bind fun ev2 ρ2 => match ev, ev2 with
  | .d x, .d y => R.of ((seqD x).bind fun xs => (seqD y).map fun ys => zipD xs ys) ρ2
  | _, _ => .stuck
theorem seqD_den {S : Hp} {x : D} {v : V} {ds : List D} (h : Den K S x v) (e : seqD x = some ds) : ∃ k a vs, v = .ref a ∧ SqK k K S a vs ∧ DenL K S ds vs := by
  cases x <;> simp only [seqD, reduceCtorEq, Option.some.injEq] at e <;> subst e
  · obtain ⟨a, vs, r, t, l⟩ := den_tup h
    exact ⟨false, a, vs, r, t, l⟩
  · obtain ⟨a, vs, r, t, l⟩ := den_lst h
    exact ⟨true, a, vs, r, t, l⟩
theorem ji_zip {t u : TE} {m n : Rho → R EV} (ha : JE K xc W t m) (hb : JE K xc W u n) : JI K xc W (iZipA K (tCons t (tCons u tNil))) (mZip m n) := by
  intro S H σ ρ Q R h
  refine je_frz ha S H σ ρ _ R (ROk.mono (ROk.bind h) (fun ev ρ1 h1 => ?_) fun _ _ z => z)
  intro S1 H1 x s1 R1 e1
  refine je_frz hb S1 H1 σ ρ1 _ R1 (ROk.mono (ROk.bind h1) (fun ev2 ρ2 h2 => ?_) fun _ _ z => z.step s1)
  intro S2 H2 y s2 R2 e2
  match ev, ev2, h2, e1, e2 with
  | .d dx, .d dy, h2, e1, e2 =>
    obtain ⟨l, q, hq⟩ := ROk.of h2
    simp only [Option.bind_eq_some_iff, Option.map_eq_some_iff] at q
    obtain ⟨ds, q1, es, q2, rfl⟩ := q
    obtain ⟨k1, a1, vs, r1, t1, l1⟩ := seqD_den (show Den K S1 dx x from e1) q1
    obtain ⟨k2, a2, us, r2, t2, l2⟩ := seqD_den (show Den K S2 dy y from e2) q2
    have t1' := sqK_same s2.ex t1
    exact ⟨k1, k2, a1, a2, vs, us, by rw [r1, r2], sqK_same R2.sub t1', sqK_same R2.sub t2, hq S2 H2 _ (s1.trans s2) R2 (it_zip t1' (l1.same s2.ex) t2 l2)⟩
  | .d _, .new _, h2, _, _ => exact h2.elim
  | .d _, .slot _, h2, _, _ => exact h2.elim
  | .new _, _, h2, _, _ => exact h2.elim
  | .slot _, _, h2, _, _ => exact h2.elim
end
section
variable {X : Cx} {xc : XC} {W : WX} {e1 e2 : Expr} {ma mb : Rho → R EV} {pos p tpos : Pos}
theorem i_zip {elts : List Expr} {kk : Nat} (hg : Gl X "zip") (hmg : X.mg "zip" = none) (ha : ME X xc W e1 ma) (hb : ME X xc W e2 mb) (hs : starEach [e1, e2] X.env = (false, eval e1 X.env) :: starEach [e2] X.env := by rfl) (hp : (backTo pos (starEach [e2] X.env)).any (·.1) = false := by rfl) (hs2 : starEach [e2] X.env = (false, eval e2 X.env) :: starEach [] X.env := by rfl) :
    MI X xc W (.Tuple elts kk tpos) (.Call (.Name "zip" p) [e1, e2] [] pos) (mZip ma mb) := mkI (pi_zipA hg hmg (pa_cons ha (pa_cons hb pa_nil hs2) hs) hs hp) (ji_zip je_cE je_cE)
end
end Mi

set_option Elab.async false
set_option linter.all false
set_option maxRecDepth 100000
set_option autoImplicit false
set_option maxHeartbeats 2000000
/-! sorted(t), t a tuple of ints -/
namespace Mi
open PySem PySem.Spec PyProof.Rows L2
theorem meets_sortInts (a : Addr) (vs : List Value) (ns : List Int) : Meets (Builtin.«list.sort» { pos := [.ref a] }) (fun _ R s => (s.heap.get? a = some (seqObj "list" vs.toArray 0) ∧ IntsAre vs ns ∧ vs.length < 64) ∧
    ∀ (out : Array Value) (ns' : List Int), IntsAre out.toList ns' → ns'.Perm ns → ns'.Pairwise (· ≤ ·) → R (.ok (.ret .none)) { s with heap := sortedHeap s.heap a vs out }) :=
  .of_wp fun prog w A R s h => list_sort_tree h.1.1 h.1.2.1 h.1.2.2 fun out ns' h1 h2 h3 => ⟨_, rfl, h.2 out ns' h1 h2 h3⟩
theorem run_sorted {prog : Program} {w : World} {A : Around} {E : Value → Shared → Prop} {s : Shared} {a : Addr} {its : List Value} {ns : List Int} {Q : Value → Shared → Prop} (p : s.heap.IsTuple a its.toArray) (hi : IntsAre its ns) (hz : its.length < 64)
    (h : ∀ (h' : Heap) (out : Array Value) (ns' : List Int), (∀ b o, s.heap.get? b = some o → h'.get? b = some o) → IntsAre out.toList ns' → ns'.Perm ns → ns'.Pairwise (· ≤ ·) →
      Q (.ref h'.objs.size) { s with heap := sortedHeap (h'.push (seqObj "list" its.toArray 0)) h'.objs.size its out }) :
    wpAny (model prog w) A (call (.builtin "sorted") [.ref a]) Q E s := by
  refine call_function_tree kind_sorted plain_sorted entry_sorted (args_sorted1 _) ?_
  unfold Builtin.sorted
  obtain ⟨o, ho, hc, n, hd⟩ := p
  have q1 : ∀ {A' : Around} {E : Value → Shared → Prop} {Q : List Value → Shared → Prop}, (∀ h' : Heap, (∀ (b : Addr) (o' : Obj), s.heap.get? b = some o' → h'.get? b = some o') → Q its { s with heap := h' }) → wpAny (model prog w) A' (collect (.ref a)) Q E s := fun {A'} {E} {Q} k =>
    wpAny_collect_seq a (.inr rfl) ho hc hd (fun h' e => by simpa using k h' e) (by rw [List.size_toArray]; exact Nat.le_trans (Nat.le_of_lt hz) (by decide))
  refine wpAny_bind (m := checkCount "sorted" 1 1 _) (wpAny_pure ?_)
  refine wpAny_bind (q1 fun h' hk => ?_)
  have gl : (h'.push (seqObj "list" its.toArray 0)).get? h'.objs.size = some (seqObj "list" its.toArray 0) := Heap.get?_push_size _ rfl
  have q2 : ∀ {A' : Around} {E : Value → Shared → Prop} {Q : Value → Shared → Prop}, (∀ (out : Array Value) (ns' : List Int), IntsAre out.toList ns' → ns'.Perm ns → ns'.Pairwise (· ≤ ·) → Q .none { s with heap := sortedHeap (h'.push (seqObj "list" its.toArray 0)) h'.objs.size its out }) →
      wpAny (model prog w) A' (call (.builtin "list.sort") [.ref h'.objs.size]) Q E { s with heap := h'.push (seqObj "list" its.toArray 0) } := fun {A'} {E} {Q} k =>
    call_meets PySem.F.slot_list_sort ⟨_, gl, rfl⟩ PySem.F.entry_list_sort (PySem.F.args_list_sort_1 _) (meets_sortInts h'.objs.size its ns) ⟨⟨gl, hi, hz⟩, k⟩
  have hz2 : its.length ≤ sizeLine := Nat.le_trans (Nat.le_of_lt hz) (by decide)
  wp_walk using q2
  intro out ns' h1 h2 h3
  exact wpAny_pure (h h' out ns' hk h1 h2 h3)
theorem vals_ints {us : List Value} {ns : List Int} (h : IntsAre us ns) : Vals (ns.map V.int) us := by
  induction h with
  | nil => exact .nil
  | cons n t _ ih => exact .cons ⟨t, rfl⟩ ih
def rSortedTu (K : PySem.W.Frag) (vs : List V) (H : Hp) (Q : VK) : Prop := ∃ (a : Addr) (ns : List Int), vs = [.ref a] ∧ SqT K H a (ns.map V.int) ∧ ns.length < 64 ∧
  ∀ (ns' : List Int) (p : Addr), ns'.Perm ns → ns'.Pairwise (· ≤ ·) → H p = none → Q (.ref p) (upd H p (.lst (ns'.map V.int)))
theorem cr_sortedTu {X : Cx} : CallR X (.builtin "sorted") (rSortedTu X.K) := by
  intro pins s σ H xs us Q I r h
  obtain ⟨a, ns, rfl, hq, hl, q⟩ := h
  cases r with
  | cons r rr =>
  cases rr
  cases r
  obtain ⟨its, rv, p, hz⟩ := I.tuple hq
  have hn := rv.length
  rw [List.length_map] at hn
  refine run_sorted p (intsAre_of rv) (by omega) fun h' out ns' hk h1 h2 h3 => ?_
  have gl : (h'.push (seqObj "list" its.toArray 0)).get? h'.objs.size = some (seqObj "list" its.toArray 0) := Heap.get?_push_size _ rfl
  have I2 : Inv X pins σ H { s with heap := h' } := I.kept (t' := s.toks) hk
  have keep : ∀ (b : Addr) (u : Obj), h'.get? b = some u → (sortedHeap (h'.push (seqObj "list" its.toArray 0)) h'.objs.size its out).get? b = some u := fun b u e2 => by
    have lt := Heap.lt_size e2
    rw [sortedHeap_old (Nat.ne_of_lt lt) (by rw [Heap.size_push]; exact Nat.lt_succ_of_lt lt)]
    exact Heap.get?_push_of_some _ e2
  have ob : ObjOk X.prog X.w (upd H h'.objs.size (.lst (ns'.map V.int))) (sortedHeap (h'.push (seqObj "list" its.toArray 0)) h'.objs.size its out) h'.objs.size (.lst (ns'.map V.int)) := by
    obtain ⟨e, ge⟩ := sortedHeap_at (vs := its) (out := out) gl
    refine ⟨by rw [List.length_map, h2.length_eq, hn]; rw [List.length_map] at hz; omega, out.toList, e, vals_ints h1, ?_⟩
    rw [Array.toArray_toList]; exact ge
  exact ⟨.ref h'.objs.size, _, I2.laid (s := { s with heap := h' }) (t' := s.toks) keep (Nat.le_refl _) ob, rfl, q ns' _ h2 h3 (I2.hok.fresh (Nat.le_refl _))⟩
end Mi
namespace Mi
open PySem L2
theorem callR_or {X : Cx} {f : Value} {r1 r2 : List V → Hp → VK → Prop} (h1 : CallR X f r1) (h2 : CallR X f r2) : CallR X f (fun xs H Q => r1 xs H Q ∨ r2 xs H Q) := fun pins s σ H xs us Q I r h => h.elim (h1 pins s σ H xs us Q I r) (h2 pins s σ H xs us Q I r)
def bSortedA : List D → Option EV
  | [.lst ds] => (intsOf ds).map fun ns => .new (.lst ((ns.mergeSort leI).map D.int))
  | [.tup ds] => (intsOf ds).bind fun ns => if decide (ns.length < 64) then some (.new (.lst ((ns.mergeSort leI).map D.int))) else none
  | _ => none
theorem cam_sortedA {K : PySem.W.Frag} : CaM K (fun xs H Q => rSortedI K xs H Q ∨ rSortedTu K xs H Q) bSortedA := by
  intro S H xs ds ev Q hs sx e q
  match ds, sx, e with
  | [.lst ds], sx, e => exact .inl (cam_sorted S H xs [.lst ds] ev Q hs sx e q)
  | [.tup ds], sx, e =>
    simp only [bSortedA, Option.bind_eq_some_iff] at e
    obtain ⟨ns, e1, e2⟩ := e
    split at e2
    · rename_i c
      simp only [Option.some.injEq] at e2
      subst e2
      obtain ⟨v, rfl, sv⟩ := seenL1 sx
      obtain ⟨a, vs, rfl, t, l⟩ := seen_tup sv
      rw [intsOf_eq e1] at l
      rw [l.ints] at t
      refine .inr ⟨a, ns, rfl, sqT_same hs t, of_decide_eq_true c, ?_⟩
      intro ns' p h1 h2 hp
      have e3 : ns' = ns.mergeSort leI := perm_le (h1.trans (List.mergeSort_perm _ _).symm) h2 (ms_le ns)
      subst e3
      exact q _ _ _ (Grow.loose hs hp) (evg_lst hs hp DenL.of_ints)
    · cases e2
section
variable {X : Cx} {xc : XC} {W : WX} {a : Expr} {p pos : Pos} {m : Rho → R (List EV)}
theorem r_sortedA (hg : Gl X "sorted") (hmg : X.mg "sorted" = none) (ha : MA X xc W [a] m) (he : starEach [a] X.env = (false, eval a X.env) :: starEach [] X.env := by rfl) : ME X xc W (.Call (.Name "sorted" p) [a] [] pos) (mCB bSortedA m) := r_callB (callR_or cr_sortedI cr_sortedTu) cam_sortedA hg hmg (by decide +kernel) ha (by decide) (by decide) he rfl
end
end Mi

set_option Elab.async false
set_option linter.all false
set_option maxRecDepth 100000
set_option autoImplicit false
set_option maxHeartbeats 1000000
/-! for k, v in d.items(), d a dict of this def that the loop leaves alone -/
noncomputable section
namespace Mi
open PySem L2
section
variable {K : PySem.W.Frag} {xc : XC} {W : WX} {S S1 S' H H1 H' : Hp} {σ σ1 σ' : Sg} {ρ ρ1 ρ' : Rho}
theorem for_core {J : It} {g : TG} {tb : TS} {sl : List Nat} {mt : D → Rho → Option Rho} {b : Rho → Out} {ds : List D} {D : Ends} (hg : JG K g sl mt) (hb : JS K xc W tb b) (R1 : Rel K S1 H1 σ ρ1) (ok : ItOk K S1 ds J) (h1 : SPost K xc W D S1 H1 σ ρ1 (forL mt b ds ρ1)) :
    tFor (fun _ H R => R J H) g tb D σ H1 := by
  refine ⟨fun i m σ' H' => ∃ S' ρ', Same S1 S' ∧ Stp S1 H1 σ ρ1 S' H' σ' ρ' ∧ Rel K S' H' σ' ρ' ∧ m = ds.length - i ∧ i ≤ ds.length ∧ SPost K xc W D S' H' σ' ρ' (forL mt b (ds.drop i) ρ'),
    ⟨ds.length, S1, ρ1, Same.refl _, .refl, R1, rfl, Nat.zero_le _, by simpa using h1⟩, ?_⟩
  rintro i m σ' H' ⟨S', ρ', sm, s2, R2, rfl, hi2, h2⟩
  obtain ⟨go, stop⟩ := ok S' H' sm R2.sub i
  by_cases c : i < ds.length
  · obtain ⟨g1, y⟩ := go c
    refine .inr ⟨g1, fun σ3 H3 => ∃ S3 ρ3, Same S1 S3 ∧ Stp S1 H1 σ ρ1 S3 H3 σ3 ρ3 ∧ Rel K S3 H3 σ3 ρ3 ∧ SPost K xc W D S3 H3 σ3 ρ3 (forL mt b (ds.drop (i + 1)) ρ3), ?_, ?_⟩
    · rintro σ3 H3 ⟨S3, ρ3, a1, a2, a3, a4⟩
      exact ⟨ds.length - (i + 1), by omega, S3, ρ3, a1, a2, a3, rfl, c, a4⟩
    · intro x H3 yx
      obtain ⟨S3, gr, d, ed, hd⟩ := y x H3 yx
      have dr : ds.drop i = d :: ds.drop (i + 1) := by
        rw [List.drop_eq_getElem_cons c]
        congr 1
        rw [List.getElem?_eq_getElem c] at ed
        exact Option.some.inj ed
      rw [dr] at h2
      simp only [forL] at h2
      have R3 := R2.laid gr
      have s3 : Stp S1 H1 σ ρ1 S3 H3 σ' ρ' := s2.trans (.laid gr)
      have h3 := h2.step (.laid gr : Stp S' H' σ' ρ' S3 H3 σ' ρ')
      cases q : mt d ρ' with
      | none => rw [q] at h3; exact h3.elim
      | some ρ4 =>
        simp only [q] at h3
        refine hg S3 H3 σ' ρ' x d ρ4 _ R3 hd q fun σ4 s4 R4 _ => ?_
        have h4 := h3.step s4
        have s5 := s3.trans s4
        refine hb S3 H3 σ4 ρ4 _ R4 ?_
        cases qb : b ρ4 with
        | nx ρ5 =>
          simp only [qb] at h4
          exact fun S6 H6 σ6 s6 R6 => ⟨S6, ρ5, (sm.trans gr.s).trans s6.ex, s5.trans s6, R6, h4.step s6⟩
        | ct ρ5 =>
          simp only [qb] at h4
          exact fun S6 H6 σ6 s6 R6 => ⟨S6, ρ5, (sm.trans gr.s).trans s6.ex, s5.trans s6, R6, h4.step s6⟩
        | bk ρ5 => simp only [qb] at h4; exact h4
        | rt e ρ5 => simp only [qb] at h4; exact h4
        | exn x ρ5 => simp only [qb] at h4; exact h4
        | stuck => simp only [qb] at h4; exact h4
  · have c' : ds.length ≤ i := Nat.le_of_not_lt c
    refine .inl ⟨stop c', ?_⟩
    rw [List.drop_eq_nil_of_le c'] at h2
    exact h2 S' H' σ' .refl R2
/-! ### the items -/
def keyD : Key → D
  | .inl i => .int i
  | .inr x => .str x
def itemsD (kvs : List (Key × D)) : List D := kvs.map fun p => .tup [keyD p.1, p.2]
theorem keyD_den (S : Hp) (k : Key) : Den K S (keyD k) (kV k) := by
  cases k with
  | inl i => exact of_int
  | inr x => exact of_str
theorem kden_get : ∀ {kvs : List (Key × D)} {vs : List (Key × V)} {i : Nat} {p : Key × V}, KDen K S kvs vs → vs[i]? = some p → ∃ d, kvs[i]? = some (p.1, d) ∧ Den K S d p.2
  | [], vs, i, p, h, e => by unfold KDen at h; subst h; simp at e
  | q :: kvs, vs, 0, p, h, e => by
    unfold KDen at h
    obtain ⟨v, r, rfl, h1, h2⟩ := h
    simp at e; subst e
    exact ⟨q.2, rfl, h1⟩
  | q :: kvs, vs, i + 1, p, h, e => by
    unfold KDen at h
    obtain ⟨v, r, rfl, h1, h2⟩ := h
    obtain ⟨d, e1, e2⟩ := kden_get h2 (by simpa using e)
    exact ⟨d, by simpa using e1, e2⟩
theorem it_items {a : Addr} {od : Obj} {kvs : List (Key × D)} {vs : List (Key × V)} (e : S a = some (.frz od (.dK vs))) (l : KDen K S kvs vs) : ItOk K S (itemsD kvs) (Iti a od vs) := by
  intro S1 H1 h1 h2 i
  have e1 : H1 a = some (.frz od (.dK vs)) := h2 _ _ (h1 _ _ e)
  have hl : (itemsD kvs).length = vs.length := by unfold itemsD; rw [List.length_map, kden_len l]
  rw [hl]
  refine ⟨fun c => ⟨⟨e1, c⟩, fun x H2 y => ?_⟩, fun c => ⟨e1, c⟩⟩
  obtain ⟨T, k, v, hx, rfl, hT, rfl⟩ := y
  obtain ⟨d, f1, f2⟩ := kden_get l hx
  have g := Grow.stable h2 (o := .tup [kV k, v]) hT
  refine ⟨_, g, .tup [keyD k, d], by unfold itemsD; rw [List.getElem?_map, f1]; rfl, ?_⟩
  exact of_tup (SqT.of upd_same) (DenL.cons (keyD_den _ k) (DenL.cons ((f2.same h1).same g.s) DenL.nil))
/-! ### what stays when the lock goes -/
def less (S : Hp) (a : Addr) : Hp := fun b => if b = a then none else S b
theorem less_ne {a b : Addr} (h : b ≠ a) : less S a b = S b := if_neg h
theorem less_same {a : Addr} : less S a a = none := if_pos rfl
mutual
theorem Den.less {a : Addr} {od : Obj} {kv : List (Key × V)} (e : S a = some (.frz od (.dK kv))) : ∀ {d : D} {v : V}, Den K S d v → Den K (less S a) d v
  | .non, _, h => h
  | .bl _, _, h => h
  | .int _, _, h => h
  | .str _, _, h => h
  | .ref _, _, h => h
  | .tup ds, v, h => by
    unfold Den at h ⊢
    obtain ⟨p, vs, r, s, l⟩ := h
    refine ⟨p, vs, r, ?_, DenL.less e l⟩
    rcases s with (s | ⟨o, s⟩) | s
    · exact .inl (.inl (by rw [less_ne fun z => by rw [z, e] at s; cases s]; exact s))
    · exact .inl (.inr ⟨o, by rw [less_ne fun z => by rw [z, e] at s; cases s]; exact s⟩)
    · exact .inr s
  | .lst ds, v, h => by
    unfold Den at h ⊢
    obtain ⟨p, vs, r, s, l⟩ := h
    refine ⟨p, vs, r, ?_, DenL.less e l⟩
    rcases s with (s | ⟨o, s⟩) | s
    · exact .inl (.inl (by rw [less_ne fun z => by rw [z, e] at s; cases s]; exact s))
    · exact .inl (.inr ⟨o, by rw [less_ne fun z => by rw [z, e] at s; cases s]; exact s⟩)
    · exact .inr s
  | .emp, v, h => by
    unfold Den at h ⊢
    obtain ⟨p, r, s⟩ := h
    exact ⟨p, r, by rw [less_ne fun z => by rw [z, e] at s; cases s]; exact s⟩
theorem DenL.less {a : Addr} {od : Obj} {kv : List (Key × V)} (e : S a = some (.frz od (.dK kv))) : ∀ {ds : List D} {vs : List V}, DenL K S ds vs → DenL K (less S a) ds vs
  | [], _, h => h
  | d :: ds, vs, h => by
    unfold DenL at h ⊢
    obtain ⟨v, r, e1, h1, h2⟩ := h
    exact ⟨v, r, e1, Den.less e h1, DenL.less e h2⟩
end
theorem KDen.less {a : Addr} {od : Obj} {kv : List (Key × V)} (e : S a = some (.frz od (.dK kv))) : ∀ {ds : List (Key × D)} {vs : List (Key × V)}, KDen K S ds vs → KDen K (less S a) ds vs
  | [], _, h => h
  | p :: ds, vs, h => by
    obtain ⟨v, r, e1, h1, h2⟩ := h
    exact ⟨v, r, e1, Den.less e h1, KDen.less e h2⟩
theorem MoOk.less {a : Addr} {od : Obj} {kv : List (Key × V)} (e : S a = some (.frz od (.dK kv))) {m : Mo} {o : HO} (h : MoOk K S m o) : MoOk K (less S a) m o := by
  cases m with
  | lst xs => obtain ⟨vs, r, l⟩ := h; exact ⟨vs, r, l.less e⟩
  | dic kvs => obtain ⟨vs, r, l⟩ := h; exact ⟨vs, r, l.less e⟩
/-! ### the loop -/
open Classical in
def mForI (i : Nat) (mt : D → Rho → Option Rho) (b : Rho → Out) (ρ : Rho) : Out := match ownD i ρ with
  | some (bb, kvs) => if h : ∃ ρ2 : Rho, ρ2[i]? = some (.own bb (.dic kvs)) ∧ ∀ a, forL mt b (itemsD kvs) (ρ.set i (.val (.ref a))) = .nx (ρ2.set i (.val (.ref a))) then .nx h.choose else .stuck
  | none => .stuck
theorem set_back {i : Nat} {c : Cell} {ρ2 ρ3 : Rho} {x : Cell} (h2 : ρ2[i]? = some c) (h3 : ρ3[i]? = some c) (e : ρ2.set i x = ρ3.set i x) : ρ2 = ρ3 := by
  apply List.ext_getElem?
  intro j
  by_cases z : i = j
  · subst z; rw [h2, h3]
  · have := congrArg (fun l => l[j]?) e
    simp only [get_set, if_neg z] at this
    exact this
theorem mForI_eq {i : Nat} {mt : D → Rho → Option Rho} {b : Rho → Out} {bb : Bool} {kvs : List (Key × D)} {ρ2 : Rho} (h : ρ[i]? = some (.own bb (.dic kvs))) (h2 : ρ2[i]? = some (.own bb (.dic kvs))) (e : ∀ a, forL mt b (itemsD kvs) (ρ.set i (.val (.ref a))) = .nx (ρ2.set i (.val (.ref a)))) : mForI i mt b ρ = .nx ρ2 := by
  have o : ownD i ρ = some (bb, kvs) := by unfold ownD; rw [h]
  have ex : ∃ ρ2 : Rho, ρ2[i]? = some (.own bb (.dic kvs)) ∧ ∀ a, forL mt b (itemsD kvs) (ρ.set i (.val (.ref a))) = .nx (ρ2.set i (.val (.ref a))) := ⟨ρ2, h2, e⟩
  unfold mForI
  rw [o]
  simp only []
  rw [dif_pos ex]
  obtain ⟨k1, k2⟩ := ex.choose_spec
  have := (k2 0).symm.trans (e 0)
  rw [set_back k1 h2 (Out.nx.inj this)]
end
section
variable {K : PySem.W.Frag} {xc : XC} {W : WX}
theorem js_forI {i : Nat} {g : TG} {tb : TS} {sl : List Nat} {mt : D → Rho → Option Rho} {b : Rho → Out} (hg : JG K g sl mt) (hb : JS K xc W tb b) : JS K xc W (tLock (tFor (iItems (tVar i)) g tb)) (mForI i mt b) := by
  intro S H σ ρ D R h
  unfold mForI at h
  cases qo : ownD i ρ with
  | none => rw [qo] at h; exact h.elim
  | some p =>
  obtain ⟨bb, kvs⟩ := p
  rw [qo] at h
  have q := ownD_eq qo
  simp only at h
  split at h
  · rename_i ex
    obtain ⟨k1, k2⟩ := ex.choose_spec
    generalize ex.choose = ρ2 at h k1 k2
    obtain ⟨a, vs, hv, hH, hl⟩ := own_dic R q
    obtain ⟨a', ho, c1, c2, c3, c4⟩ := R.cell i _ q
    rw [hv] at c1; cases c1
    have hi : i < ρ.length := (List.getElem?_eq_some_iff.mp q).1
    have oa : Own σ ρ a := ⟨i, bb, _, q, hv⟩
    refine ⟨a, .dK vs, hH, trivial, fun od => ?_⟩
    have sm : Same S (upd S a (.frz od (.dK vs))) := same_upd c3
    have back : ∀ c, Own σ (ρ.set i (.val (.ref a))) c → Own σ ρ c := fun c ⟨j, b2, o, z1, z2⟩ => by
      rw [get_set] at z1
      split at z1
      · split at z1 <;> cases z1
      · exact ⟨j, b2, o, z1, z2⟩
    have backF : ∀ c, OwnF σ (ρ.set i (.val (.ref a))) c → OwnF σ ρ c := fun c ⟨j, o, z1, z2⟩ => by
      rw [get_set] at z1
      split at z1
      · split at z1 <;> cases z1
      · exact ⟨j, o, z1, z2⟩
    have R1 : Rel K (upd S a (.frz od (.dK vs))) (upd H a (.frz od (.dK vs))) σ (ρ.set i (.val (.ref a))) := by
      refine ⟨fun c u z => ?_, by rw [List.length_set]; exact R.len, fun j c z => ?_, fun j1 j2 b1 b2 o1 o2 z1 z2 z3 => ?_, R.tab.same sm⟩
      · by_cases ba : c = a
        · subst ba; rw [upd_same] at z ⊢; exact z
        · rw [upd_ne ba] at z ⊢; exact R.sub c u z
      · by_cases ji : i = j
        · subst ji
          rw [get_set, if_pos rfl, if_pos hi] at z
          cases z
          exact ⟨_, hv, by unfold Den; rfl⟩
        · rw [get_set, if_neg ji] at z
          have k := R.cell j c z
          cases c with
          | no => trivial
          | val d' => obtain ⟨u, y1, y2⟩ := k; exact ⟨u, y1, y2.same sm⟩
          | own b o =>
            obtain ⟨p, ho', y1, y2, y3, y4⟩ := k
            have ne : p ≠ a := fun w => ji (R.dist i j _ _ _ _ q z (by rw [hv, y1, w]))
            exact ⟨p, ho', y1, by rw [upd_ne ne]; exact y2, by rw [upd_ne ne]; exact y3, y4.same sm⟩
      · rw [get_set] at z1 z2
        split at z1
        · split at z1 <;> cases z1
        · split at z2
          · split at z2 <;> cases z2
          · exact R.dist j1 j2 b1 b2 o1 o2 z1 z2 z3
    refine ⟨.ref a, hv, a, od, vs, rfl, upd_same, ?_⟩
    refine for_core (xc := xc) (W := W) (ρ1 := ρ.set i (.val (.ref a))) hg hb R1 (it_items (kvs := kvs) upd_same (hl.same sm)) ?_
    rw [k2 a]
    intro S' H' σ' st R'
    have sa : S' a = some (.frz od (.dK vs)) := st.ex _ _ upd_same
    refine ⟨R'.sub _ _ sa, ?_⟩
    have hi2 : i < ρ2.length := (List.getElem?_eq_some_iff.mp k1).1
    have hv' : σ'[i]? = some (some (.ref a)) := by
      obtain ⟨u, y1, y2⟩ := R'.cell i (.val (.ref a)) (by rw [get_set, if_pos rfl, if_pos hi2])
      unfold Den at y2
      rw [y1, y2]
    have sm2 : Same S (less S' a) := fun c u z => by
      have ne : c ≠ a := fun w => by rw [w, c3] at z; cases z
      rw [less_ne ne]; exact st.ex _ _ (sm _ _ z)
    have notA : ∀ {j : Nat} {b1 : Bool} {o1 : Mo}, i ≠ j → ρ2[j]? = some (.own b1 o1) → σ'[j]? ≠ some (some (.ref a)) := fun {j b1 o1} ji z w => by
      obtain ⟨p, ho', y1, y2, y3, y4⟩ := R'.cell j (.own b1 o1) (by rw [get_set, if_neg ji]; exact z)
      rw [w] at y1; cases y1
      rw [sa] at y3; cases y3
    refine h (less S' a) (upd H' a (.dK vs)) σ' ⟨sm2, fun c u z n => ?_, fun c z => ?_, fun c u z => ?_, fun c z => ?_, fun c z => ?_, fun j o z => ?_, ?_⟩ ⟨fun c u z => ?_, ?_, fun j c z => ?_, fun j1 j2 b1 b2 o1 o2 z1 z2 z3 => ?_, R.tab.same sm2⟩
    · have ne : c ≠ a := fun w => n (by rw [w]; exact oa)
      rw [upd_ne ne]
      exact st.fr c u (by rw [upd_ne ne]; exact z) (fun w => n (back c w))
    · by_cases w : c = a
      · subst w; rw [upd_same] at z; cases z
      · rw [upd_ne w] at z
        have := st.th c z
        rwa [upd_ne w] at this
    · by_cases w : c = a
      · subst w; rw [less_same] at z; cases z
      · rw [less_ne w] at z
        rcases st.nw c u z with y | y | y
        · rw [upd_ne w] at y; exact .inl y
        · rw [upd_ne w] at y; exact .inr (.inl y)
        · exact .inr (.inr (back c y))
    · obtain ⟨j, b2, o, z1, z2⟩ := z
      by_cases ji : i = j
      · subst ji
        rw [hv'] at z2; cases z2
        exact .inl oa
      · have ow : Own σ' (ρ2.set i (.val (.ref a))) c := ⟨j, b2, o, by rw [get_set, if_neg ji]; exact z1, z2⟩
        rcases st.ow c ow with y | y
        · exact .inl (back c y)
        · by_cases w : c = a
          · subst w; rw [upd_same] at y; cases y
          · rw [upd_ne w] at y; exact .inr y
    · obtain ⟨j, o, z1, z2⟩ := z
      by_cases ji : i = j
      · subst ji
        rw [hv'] at z2; cases z2
        rw [k1] at z1; cases z1
        exact .inl ⟨i, _, q, hv⟩
      · have ow : OwnF σ' (ρ2.set i (.val (.ref a))) c := ⟨j, o, by rw [get_set, if_neg ji]; exact z1, z2⟩
        rcases st.owf c ow with y | y
        · exact .inl (backF c y)
        · by_cases w : c = a
          · subst w; rw [upd_same] at y; cases y
          · rw [upd_ne w] at y; exact .inr y
    · by_cases ji : i = j
      · subst ji
        rw [q] at z; cases z
        exact ⟨by rw [hv', hv], _, k1⟩
      · obtain ⟨y1, o', y2⟩ := st.bo j o (by rw [get_set, if_neg ji]; exact z)
        rw [get_set, if_neg ji] at y2
        exact ⟨y1, o', y2⟩
    · have := st.ln
      rw [List.length_set, List.length_set] at this
      exact this
    · by_cases w : c = a
      · subst w; rw [less_same] at z; cases z
      · rw [less_ne w] at z; rw [upd_ne w]; exact R'.sub c u z
    · have := R'.len
      rw [List.length_set] at this
      exact this
    · by_cases ji : i = j
      · subst ji
        rw [k1] at z; cases z
        exact ⟨a, .dK vs, hv', upd_same, less_same, vs, rfl, hl.same sm2⟩
      · have k := R'.cell j c (by rw [get_set, if_neg ji]; exact z)
        cases c with
        | no => trivial
        | val d' => obtain ⟨u, y1, y2⟩ := k; exact ⟨u, y1, y2.less sa⟩
        | own b o =>
          obtain ⟨p, ho', y1, y2, y3, y4⟩ := k
          have ne : p ≠ a := fun w => notA ji z (by rw [y1, w])
          exact ⟨p, ho', y1, by rw [upd_ne ne]; exact y2, by rw [less_ne ne]; exact y3, y4.less sa⟩
    · by_cases j1i : i = j1
      · by_cases j2i : i = j2
        · rw [← j1i, ← j2i]
        · subst j1i
          exact (notA j2i z2 (by rw [← z3, hv'])).elim
      · by_cases j2i : i = j2
        · subst j2i
          exact (notA j1i z1 (by rw [z3, hv'])).elim
        · exact R'.dist j1 j2 b1 b2 o1 o2 (by rw [get_set, if_neg j1i]; exact z1) (by rw [get_set, if_neg j2i]; exact z2) z3
  · exact h.elim
end
section
variable {X : Cx} {xc : XC} {W : WX} {x : Str} {pos p apos cpos tpos : Pos} {elts : List Expr} {kk : Nat} {sl : List Nat} {mt : D → Rho → Option Rho} {m : Rho → Out} {sts : List Stmt}
theorem s_forI {i : Nat} (hp : PassesOwn (model X.prog X.w) X.A X.env X.xe) (hc : X.calm = true) (hN : X.N[i]? = some x) (hv : Vis X.env.scope x) (hg : MG X (.Tuple elts kk tpos) sl mt) (hb : MSs X xc W sts m)
    (hd1 : (x == ("__debug__" : Str)) = false := by decide) (hd2 : (x == ("__classdict__" : Str)) = false := by decide)
    (h1 : attributeBase (.Name x p) "items" X.env (eval (.Name x p) X.env) = eval (.Name x p) X.env := by rfl) (h2 : (apos.endLine == cpos.line) = true := by rfl)
    (hs : ∀ v, foldedSetIterable (.Call (.Attribute (.Name x p) "items" apos) [] [] cpos) X.env v = pure v := by intro _; rfl) :
    MS X xc W (.For (.Tuple elts kk tpos) (.Call (.Attribute (.Name x p) "items" apos) [] [] cpos) sts [] pos) (mForI i mt m) :=
  mkS (ps_lock (ps_for hp hc (pi_items (pe_var hN hv hd1 hd2) h1 h2) hg hb hs)) (js_forI jg_cG js_cS)
end
end Mi

set_option Elab.async false
set_option linter.all false
set_option maxRecDepth 100000
set_option autoImplicit false
set_option maxHeartbeats 1000000
/-! x in t, x not in t: t a tuple of nested data -/
noncomputable section
namespace Mi
open PySem L2
def rInT (neg : Bool) (K : PySem.W.Frag) : R2 := fun x y H Q => ∃ d ds, Dp K H x d ∧ Dp K H y (.tuple ds) ∧ SeqAt.shaped d = true ∧ SeqAt.shaped (.tuple ds) = true ∧ Q (.bl (xor neg (ds.any fun z => PyData.eqv z d))) H
section
variable {X : Cx}
theorem op_inT (hu : X.A.units + 65 < cLine) : OpR X (compareOp .In) (rInT false X.K) := by
  intro pins s σ H x y v u Q I rx ry h
  obtain ⟨d, ds, hd, he, sd, se, q⟩ := h
  obtain ⟨as, r1⟩ := Dp.reads I d x v hd rx
  obtain ⟨bs, r2⟩ := Dp.reads I (.tuple ds) y u he ry
  exact SeqAt.in_tuple_reads r2 r1 (SeqAt.canLay_of_shaped se) (SeqAt.canLay_of_shaped sd) (PyProof.Rows.room_in_shaped sd hu) ⟨.bl _, H, I, by simp only [Bool.false_xor]; rfl, q⟩
theorem op_notInT (hu : X.A.units + 65 < cLine) : OpR X (compareOp .NotIn) (rInT true X.K) := by
  intro pins s σ H x y v u Q I rx ry h
  obtain ⟨d, ds, hd, he, sd, se, q⟩ := h
  obtain ⟨as, r1⟩ := Dp.reads I d x v hd rx
  obtain ⟨bs, r2⟩ := Dp.reads I (.tuple ds) y u he ry
  exact SeqAt.notIn_tuple_reads r2 r1 (SeqAt.canLay_of_shaped se) (SeqAt.canLay_of_shaped sd) (PyProof.Rows.room_in_shaped sd hu) ⟨.bl _, H, I, by simp only [Bool.true_xor]; rfl, q⟩
end
def inN (x y : D) : Option Bool := match y with
  | .tup ys => (pyD x).bind fun d => (pyDs ys).bind fun es => if SeqAt.shaped d && SeqAt.shaped (.tuple es) then some (es.any fun z => PyData.eqv z d) else none
  | _ => none
def dInT (neg : Bool) (x y : D) : Option EV := (inN x y).map fun b => .d (.bl (xor neg b))
theorem opm_inT {K : PySem.W.Frag} (neg : Bool) : OpM K (rInT neg K) (dInT neg) := by
  intro S H x y dx dy ev Q hs sx sy e q
  unfold dInT at e
  simp only [Option.map_eq_some_iff] at e
  obtain ⟨b, e1, rfl⟩ := e
  cases dy with
  | tup ys =>
    simp only [inN, Option.bind_eq_some_iff] at e1
    obtain ⟨d, q1, es, q2, q3⟩ := e1
    obtain ⟨c, q4⟩ := some_ite q3
    rw [Bool.and_eq_true] at c
    refine ⟨d, es, den_dp (seen_den hs sx) q1, den_dp (seen_den hs sy) (by simp [pyD, q2]), c.1, c.2, q S H _ (.refl hs) (evg (by rw [q4]; exact of_bl))⟩
  | _ => cases e1
section
variable {X : Cx} {xc : XC} {W : WX} {a b : Expr} {pos : Pos} {ma mb : Rho → R EV} {k : Nat}
theorem r_inT (hr : Room k X.A) (hm : behindInMarks .In b = false) (ha : ME X xc W a ma) (hb : ME X xc W b mb) : ME X xc W (.Compare a [.In] [b] pos) (mOp (dInT false) ma mb) := r_cmp (op_inT (by have := hr.un; omega)) (opm_inT false) ha hb hm
theorem t_inT (hr : Room k X.A) (hm : behindInMarks .In b = false) (ha : ME X xc W a ma) (hb : ME X xc W b mb) : MT X xc W (.Compare a [.In] [b] pos) (mTst (mOp (dInT false) ma mb)) := t_cmp (op_inT (by have := hr.un; omega)) (opm_inT false) ha hb hm
theorem r_notInT (hr : Room k X.A) (hm : behindInMarks .NotIn b = false) (ha : ME X xc W a ma) (hb : ME X xc W b mb) : ME X xc W (.Compare a [.NotIn] [b] pos) (mOp (dInT true) ma mb) := r_cmp (op_notInT (by have := hr.un; omega)) (opm_inT true) ha hb hm
theorem t_notInT (hr : Room k X.A) (hm : behindInMarks .NotIn b = false) (ha : ME X xc W a ma) (hb : ME X xc W b mb) : MT X xc W (.Compare a [.NotIn] [b] pos) (mTst (mOp (dInT true) ma mb)) := t_cmp (op_notInT (by have := hr.un; omega)) (opm_inT true) ha hb hm
end
/-! ### x, y = a, b where a comprehension holds x or y -/
section
variable {K : PySem.W.Frag} {xc : XC} {W : WX} {S S1 S' H H1 H' : Hp} {σ σ1 σ' : Sg} {ρ ρ1 ρ' : Rho}
theorem js_par2 {i j : Nat} {ta tb : TE} {ma mb : Rho → R EV} (ha : JE K xc W ta ma) (hb : JE K xc W tb mb) : JS K xc W (tAsg (tTup (tCons ta (tCons tb tNil))) (gTup K 2 (gCons (gName i) (gCons (gName j) gNil)))) (mPar i j ma mb) := by
  intro S H σ ρ D R h
  refine ha S H σ ρ _ R (ROk.mono (SPost.out h) (fun ea ρ1 h1 => ?_) fun _ _ z => z)
  intro S1 H1 x s1 R1 e1
  refine hb S1 H1 σ ρ1 _ R1 (ROk.mono (SPost.out h1) (fun eb ρ2 h2 => ?_) fun _ _ z => z.step s1)
  intro S2 H2 y s2 R2 e2
  refine ⟨Nat.le_of_lt (szOk.le (n := 2) (by decide)), fun p hp => ⟨p, [x, y], rfl, SqT.of upd_same, rfl, x, [y], rfl, y, [], rfl, rfl, ?_⟩⟩
  have g : Grow S2 H2 S2 (upd H2 p (.tup [x, y])) := Grow.loose R2.sub hp
  cases q1 : putC i ea ρ2 with
  | none => rw [q1] at h2; exact h2.elim
  | some ρ3 =>
    simp only [q1, Option.bind_some] at h2
    cases q2 : putC j eb ρ3 with
    | none => rw [q2] at h2; exact h2.elim
    | some ρ4 =>
      rw [q2] at h2
      obtain ⟨s3, R3⟩ := put_ok (s1.trans s2) R2 (e1.step s2) q1
      have e3 : EvOk K σ ρ H S2 H2 (σ.set i (some x)) ρ3 y eb := by
        cases eb with
        | slot k =>
          obtain ⟨c, _, _⟩ := putC_eq q2
          unfold putC at q2
          split at q2
          · cases q2
          · cases q2
          · cases q2
        | d d => exact e2
        | new o =>
          have e2' := EvOk.back s1 e2
          obtain ⟨a2, ho, k1, k2, k3, k4, k5, k6⟩ := e2
          obtain ⟨a3, ho3, w1, w2, w3, w4, w5, w6⟩ := e2'
          rw [k1] at w1
          cases w1
          refine ⟨a2, ho, k1, k2, k3, fun ⟨k, bb, m, z1, z2⟩ => ?_, k5, w6⟩
          obtain ⟨c, rfl, hc⟩ := putC_eq q1
          by_cases ik : i = k
          · subst ik
            have hi : i < ρ2.length := by
              have z := (List.getElem?_eq_some_iff.mp z1).1
              rw [List.length_set] at z; exact z
            rw [get_set, if_pos rfl, if_pos hi] at z1
            have ec := hc _ _ (Option.some.inj z1)
            subst ec
            obtain ⟨a1, _, y1, y2, _, y4, _⟩ := e1
            have hi' : i < σ.length := by rw [R2.len]; exact hi
            rw [get_set, if_pos rfl, if_pos hi'] at z2
            have z3 : x = .ref a2 := by simpa using z2
            rw [y1] at z3
            cases z3
            rcases k6 with z | z
            · rw [y2] at z; cases z
            · exact y4 z.own
          · rw [get_set, if_neg ik] at z1 z2
            exact k4 ⟨k, bb, m, z1, z2⟩
      obtain ⟨s4, R4⟩ := put_ok s3 R3 e3 q2
      exact h2 S2 _ _ (s4.trans (.laid g)) (R4.laid g)
end
section
variable {X : Cx} {xc : XC} {W : WX} {a b : Expr} {pos : Pos} {ma mb : Rho → R EV} {x y : Str}
theorem s_par2 {i j : Nat} {px py pt : Pos} {kt k2 pt2} (hc : X.calm = true) (hN : X.N.Nodup) (hi : X.N[i]? = some x) (hj : X.N[j]? = some y)
    (hx : Loc X.env.scope x) (hy : Loc X.env.scope y) (ha : ME X xc W a ma) (hb : ME X xc W b mb)
    (hw : swappedStores [.Tuple [.Name x px, .Name y py] kt pt] (.Tuple [a, b] k2 pt2) X.env = pure none)
    (fx : X.fn x = true ∨ X.env.scope.names.lookup x = some .local := by first | exact .inl rfl | exact .inr rfl | assumption) (fy : X.fn y = true ∨ X.env.scope.names.lookup y = some .local := by first | exact .inl rfl | exact .inr rfl | assumption)
    (hs : swapsWithSole [.Tuple [.Name x px, .Name y py] kt pt] (.Tuple [a, b] k2 pt2) pos.line X.env = pure false := by rfl)
    (h0 : (assignEach [.Tuple [.Name x px, .Name y py] kt pt] X.env).map (·.2) = [assign (.Tuple [.Name x px, .Name y py] kt pt) X.env] := by rfl)
    (hn : (assignEach [.Name x px, .Name y py] X.env).length = 2 := by rfl) (hst : (assignEach [.Name x px, .Name y py] X.env).findIdx? (·.1) = none := by rfl)
    (h1 : starEach [a, b] X.env = (false, eval a X.env) :: starEach [b] X.env := by rfl) (h2 : starEach [b] X.env = (false, eval b X.env) :: starEach [] X.env := by rfl)
    (g1 : (assignEach [.Name x px, .Name y py] X.env).map (·.2) = assign (.Name x px) X.env :: (assignEach [.Name y py] X.env).map (·.2) := by rfl) (g2 : (assignEach [.Name y py] X.env).map (·.2) = assign (.Name y py) X.env :: (assignEach [] X.env).map (·.2) := by rfl) :
    MS X xc W (.Assign [.Tuple [.Name x px, .Name y py] kt pt] (.Tuple [a, b] k2 pt2) pos) (mPar i j ma mb) :=
  mkS (ps_asg (pe_tup (pa_cons ha (pa_cons hb pa_nil h2) h1)) (pg_tup hc (pgs_cons (pg_name hN hi hx fx) (pgs_cons (pg_name hN hj hy fy) pgs_nil g2) g1) hn hst) hs hw h0) (js_par2 je_cE je_cE)
end
/-! ### len(d) -/
def mLenD (i : Nat) (ρ : Rho) : R EV := match ownD i ρ with
  | some (_, kvs) => .ok (.d (.int kvs.length)) ρ
  | none => .stuck
section
variable {K : PySem.W.Frag} {xc : XC} {W : WX}
theorem je_lenD {i : Nat} : JE K xc W (tCB (fun xs H Q => ∃ a kvs, xs = [.ref a] ∧ H a = some (.dK kvs) ∧ Q (.int kvs.length) H) (tCons (tVar i) tNil)) (mLenD i) := by
  intro S H σ ρ Q R h
  unfold mLenD at h
  cases qo : ownD i ρ with
  | none => rw [qo] at h; exact h.elim
  | some p =>
    obtain ⟨b, kvs⟩ := p
    rw [qo] at h
    obtain ⟨a, vs, ha, h0, l⟩ := own_dic R (ownD_eq qo)
    refine ⟨.ref a, ha, a, vs, rfl, h0, ?_⟩
    exact h S H _ .refl R (show Den K S (.int (kvs.length : Int)) _ by rw [kden_len l]; exact of_int)
end
section
variable {X : Cx} {xc : XC} {W : WX} {x : Str} {p np pos : Pos}
theorem r_lenD {i : Nat} (hg : Gl X "len") (hmg : X.mg "len" = none) (hN : X.N[i]? = some x) (hv : Vis X.env.scope x)
    (hd : (x == ("__debug__" : Str)) = false := by decide) (hcd : (x == ("__classdict__" : Str)) = false := by decide)
    (he : starEach [.Name x p] X.env = (false, eval (.Name x p) X.env) :: starEach [] X.env := by rfl) : ME X xc W (.Call (.Name "len" np) [.Name x p] [] pos) (mLenD i) :=
  mkE (pe_callB call_lenD hg hmg PySem.boot_len (pa_cons (pe_var hN hv hd hcd) pa_nil he) (by decide) (by decide) he) je_lenD
end
end Mi
end

set_option Elab.async false
set_option linter.all false
set_option maxRecDepth 100000
set_option autoImplicit false
set_option maxHeartbeats 1000000
/-! raise Refused(e); try: .. except Malformed: .. except Refused as error: return (c, error.reason) -/
noncomputable section
namespace Mi
open PySem L2
/-- what __init__ does to a new error at a: its dict, new, holds the reason -/
def spInit (C : Addr) : Sp := fun vs H Q _ => ∃ (a : Addr) (v : V), vs = [.ref a, v] ∧ H a = some (exo a C none) ∧ ∀ d, H d = none → d ≠ a → Q .non (upd (upd H d (exd d [(("reason" : Str), v)])) a (exo a C (some d)))
/-- what the top has written of the class -/
structure RefC (K : PySem.W.Frag) (mg : Str → Option Value) (C M fI : Addr) : Prop where
  oex : OexC K C
  xf : XfC K C
  noN : PySem.W.findIn K (.ref C) ("reason" : Str) = some none
  iC : PySem.W.findIn K (.ref C) "__init__" = some (some (.ref fI))
  tI : PySem.W.typeIn K (.ref fI) = some (.type "function")
  gC : mg "Refused" = some (.ref C)
  rm : PySem.W.exmOne K (.ref C) (.ref M) = some false
  rr : PySem.W.exmOne K (.ref C) (.ref C) = some true
theorem ok_init {P : Program} {w : World} {K : PySem.W.Frag} {mg : Str → Option Value} {base : Heap} {qual : Str} {st : Stmt} {C f : Addr} {fd : FuncData} {q1 q2 q3 q4 : Pos} (F : Fun K "__init__" qual st f fd) (T : OexC K C) (hno : PySem.W.findIn K (.ref C) ("reason" : Str) = some none)
    (hb : defBody st = [.Assign [.Attribute (.Name "self" q1) "reason" q2] (.Name "reason" q3) q4]) (S : FnScope ["self", "reason"] ["self", "reason"] (defScope st)) : FnOk P w K mg base CX0 1 f fd ["self", "reason"] (spInit C) := by
  refine F.ok (k := 0) S (fun vs H Q E h => ?_) (fun cdv A outer s H vs Q E hr h => ⟨tOst K "reason" (tVar 0) (tVar 1), ?_, ?_⟩)
  · obtain ⟨a, v, rfl, _⟩ := h; rfl
  · rw [hb]
    have v0 : ∀ x ∈ (["self", "reason"] : List Str), Vis (defScope st) x := fun x hx => (S.par x hx).elim Or.inl (Or.inr ∘ Or.inl)
    exact pss_one (ps_ost (pe_var (i := 0) rfl (v0 "self" (by simp))) (pe_var (i := 1) rfl (v0 "reason" (by simp))))
  · obtain ⟨a, v, rfl, ha, q⟩ := h
    exact ⟨v, rfl, .ref a, rfl, a, C, rfl, T, hno, .inl ⟨ha, fun d hd dne => q d hd dne⟩⟩
/-- its __init__ keeps the promise -/
structure RefD (P : Program) (w : World) (K : PySem.W.Frag) (mg : Str → Option Value) (base : Heap) (C fI : Addr) : Prop where
  ex : ∃ fd : FuncData, FnOk P w K mg base CX0 1 fI fd ["self", "reason"] (spInit C) ∧ Binds K fd ["self", "reason"] []
/-! ### raise -/
def mRaiseR (m : Rho → R EV) (ρ : Rho) : Out := (mFrz m ρ).out fun ev ρ1 => match ev with
  | .d d => .exn (.refd d) ρ1
  | _ => .stuck
section
variable {K : PySem.W.Frag} {xc : XC} {W : WX}
theorem made_heap {H : Hp} {a d : Addr} {C : Addr} {fs : List (Str × V)} (ha : H a = none) (dne : d ≠ a) : upd (del (upd (upd (upd H a (exo a C none)) d (exd d fs)) a (exo a C (some d))) a) d (.xd fs) = upd H d (.xd fs) := by
  funext b
  by_cases c : b = d
  · subst c; rw [upd_same, upd_same]
  · rw [upd_ne c, upd_ne c]
    by_cases e : b = a
    · subst e; rw [del_same, ha]
    · rw [del_ne e, upd_ne e, upd_ne c, upd_ne e]
theorem js_raiseR {t : TE} {m : Rho → R EV} (ha : JE K xc W t m) : JS K xc W (fun _ σ H => tMkO xc.refd (spInit xc.refd) [] (tCons t tNil) σ H fun cls d H' => W cls d σ H') (mRaiseR m) := by
  intro S H σ ρ D R h
  refine je_frz ha S H σ ρ _ R (ROk.mono (SPost.out h) (fun ev ρ1 h1 => ?_) fun _ _ z => z)
  intro S1 H1 v s1 R1 e1
  cases ev with
  | new o => exact h1.elim
  | slot j => exact h1.elim
  | d dd =>
    refine ⟨by show 1 ≤ 1000; decide, fun a hn => ⟨a, v, rfl, upd_same, fun d hd dne => ?_⟩⟩
    have hd1 : H1 d = none := by rw [upd_ne dne] at hd; exact hd
    refine ⟨rfl, d, [(("reason" : Str), v)], upd_same, ?_, hd1, ?_⟩
    · rw [upd_ne dne, upd_same]
    · rw [made_heap hn dne]
      have g : Grow S1 H1 S1 (upd H1 d (.xd [(("reason" : Str), v)])) := Grow.loose R1.sub hd1
      exact h1 S1 _ σ (.ref xc.refd) (some d) (s1.trans (.laid g)) (R1.laid g) ⟨rfl, d, v, rfl, upd_same, e1⟩
/-! ### the clauses -/
theorem no_set {S H : Hp} {σ : Sg} {ρ : Rho} {i : Nat} (R : Rel K S H σ ρ) (h : ρ[i]? = some .no) (w : Option V) : Rel K S H (σ.set i w) ρ ∧ Stp S H σ ρ S H (σ.set i w) ρ := by
  have away : ∀ {j : Nat} {b : Bool} {o : Mo}, ρ[j]? = some (.own b o) → (σ.set i w)[j]? = σ[j]? := fun {j b o} e => by
    rw [List.getElem?_set]
    by_cases c : i = j
    · subst c; rw [h] at e; cases e
    · rw [if_neg c]
  refine ⟨⟨R.sub, by rw [List.length_set]; exact R.len, fun j c e => ?_, fun j1 j2 b b' o o' e1 e2 z => ?_, R.tab⟩, ⟨Same.refl _, fun _ _ z _ => z, fun _ z => z, fun _ _ z => .inl z, fun b z => ?_, fun b z => ?_, fun j o e => ⟨away e, o, e⟩, rfl⟩⟩
  · by_cases c2 : i = j
    · subst c2
      rw [h] at e; cases e
      trivial
    · have := R.cell j c e
      rw [List.getElem?_set, if_neg c2]
      exact this
  · rw [away e1, away e2] at z
    exact R.dist j1 j2 b b' o o' e1 e2 z
  · obtain ⟨j, bb, o, e1, e2⟩ := z
    rw [away e1] at e2
    exact .inl ⟨j, bb, o, e1, e2⟩
  · obtain ⟨j, o, e1, e2⟩ := z
    rw [away e1] at e2
    exact .inl ⟨j, o, e1, e2⟩
def isNo : Option Cell → Bool
  | some .no => true
  | _ => false
theorem isNo_eq {c : Option Cell} (h : isNo c = true) : c = some .no := by
  cases c with
  | none => cases h
  | some c => cases c <;> first | rfl | cases h
def mTryR (c : Str) (i : Nat) (b s1 : Rho → Out) (ρ : Rho) : Out := match b ρ with
  | .exn .mal ρ1 => noExn (s1 ρ1)
  | .exn (.refd d) ρ1 => if isNo ρ1[i]? then .rt (.d (.tup [.str c, d])) ρ1 else .stuck
  | .exn _ _ => .stuck
  | o => o
structure XR (K : PySem.W.Frag) (xc : XC) : Prop where
  rm : PySem.W.exmOne K (.ref xc.refd) (.ref xc.mal) = some false
  rr : PySem.W.exmOne K (.ref xc.refd) (.ref xc.refd) = some true
/-- return (c, error.reason), error the exception that the suite holds at a -/
def tTold (xc : XC) (c : Str) (i : Nat) : Addr → Value → Option Addr → TS := fun a cls d => tRet (tTup (tCons (tC (.str c)) (tCons (tXf a cls d xc.refd "reason" (tVar i)) tNil)))
theorem js_tryR {c : Str} {i : Nat} {b s1 : Rho → Out} {Wo : WX} (xf : XF K xc) (xr : XR K xc) : JS K xc W (fun D σ H => cS K xc (wB K Wo D [(.ref xc.mal, none, fun _ _ _ => cS K xc WF s1), (.ref xc.refd, some i, tTold xc c i)]) b D σ H) (mTryR c i b s1) := by
  intro S H σ ρ D R h
  refine ⟨S, ρ, R, ?_⟩
  unfold mTryR at h
  cases q : b ρ with
  | nx ρ1 => rw [q] at h; exact h
  | rt e ρ1 => rw [q] at h; exact h
  | bk ρ1 => rw [q] at h; exact h
  | ct ρ1 => rw [q] at h; exact h
  | stuck => rw [q] at h; exact h
  | exn x ρ1 =>
    cases x with
    | nt d => rw [q] at h; exact h.elim
    | mal =>
      rw [q] at h
      intro S' H' σ' cl dx st R' xo
      obtain ⟨rfl, rfl⟩ := xo
      refine ⟨true, xf.mm, fun _ a na => ⟨S', ρ1, R', ?_⟩, fun z => nomatch z⟩
      have h2 := h.step st
      cases q2 : s1 ρ1 with
      | nx ρ2 => simp only [q2, noExn] at h2; exact h2
      | rt e ρ2 => simp only [q2, noExn] at h2; exact h2
      | bk ρ2 => simp only [q2, noExn] at h2; exact h2
      | ct ρ2 => simp only [q2, noExn] at h2; exact h2
      | exn x ρ2 => simp only [q2, noExn] at h2; exact h2.elim
      | stuck => simp only [q2, noExn] at h2; exact h2
    | refd d =>
      rw [q] at h
      intro S' H' σ' cl dx st R' xo
      obtain ⟨rfl, a0, v, rfl, hx, hd⟩ := xo
      refine ⟨false, xr.rm, (fun z => nomatch z), fun _ => ⟨true, xr.rr, fun _ a na => ?_, (fun z => nomatch z)⟩⟩
      by_cases cn : isNo ρ1[i]? = true
      · have h2 : SPost K xc W D S H σ ρ (.rt (.d (.tup [.str c, d])) ρ1) := by simpa only [if_pos cn] using h
        have hi := isNo_eq cn
        have li : i < σ'.length := by rw [R'.len]; exact (List.getElem?_eq_some_iff.mp hi).1
        obtain ⟨R2, s2⟩ := no_set R' hi (some (.ref a))
        refine ⟨.ref a, by rw [List.getElem?_set, if_pos rfl, if_pos li], rfl, rfl, a0, [(("reason" : Str), v)], v, rfl, hx, by simp [List.lookup], ?_⟩
        refine ⟨Nat.le_of_lt (szOk.le (n := 2) (by decide)), fun p hp => ?_⟩
        have g : Grow S' H' (upd S' p (.tup [.str c, v])) (upd H' p (.tup [.str c, v])) := Grow.stable R'.sub hp
        refine h2 _ _ _ (.ref p) ((st.trans s2).trans (.laid g)) (R2.laid g) ?_
        show Den K _ (.tup [.str c, d]) _
        unfold Den
        exact ⟨p, [.str c, v], rfl, SqT.of upd_same, DenL.cons of_str (DenL.cons (hd.same g.s) DenL.nil)⟩
      · have : SPost K xc W D S H σ ρ .stuck := by simpa only [if_neg cn] using h
        exact this.elim
end
section
variable {X : Cx} {xc : XC} {W : WX} {e : Expr} {p pos : Pos} {m : Rho → R EV}
theorem s_raiseR {rp : Pos} {fI : Addr} (hc : X.calm = true) (tk : Takes X W) (T : RefC X.K X.mg xc.refd xc.mal fI) (F1 : RefD X.prog X.w X.K X.mg X.base xc.refd fI) (hr : Room 2 X.A)
    (hg : Gl X "Refused") (ha : ME X xc W e m) (he : starEach [e] X.env = (false, eval e X.env) :: starEach [] X.env := by rfl) (hpl : (backTo pos (starEach [] X.env)).any (·.1) = false := by rfl) :
    MS X xc W (.Raise (some (.Call (.Name "Refused" p) [e] [] pos)) none rp) (mRaiseR m) :=
  let ⟨⟨_, F, bi⟩⟩ := F1
  mkS (ps_raise hc tk (pmk_oex (dvs := []) T.oex T.iC T.tI F hr bi .nil pass0 hg T.gC (pa_cons ha pa_nil he) (by decide) he hpl)) (js_raiseR je_cE)
theorem s_tryR {c n : Str} {i : Nat} {b s1 : Rho → Out} {body su : List Stmt} {b1 : Stmt} {np np2 np3 hp hp2 tp qc qa qt qr : Pos} {jc k2 : Nat} {fI : Addr} (xf : XF X.K xc) (T : RefC X.K X.mg xc.refd xc.mal fI) (hs : X.stack = X.env :: X.outer) (hf : X.env.frame = some X.env.locals) (hN : X.N.Nodup)
    (hc : Names X "Malformed" (.ref xc.mal)) (hg : Gl X "Refused") (hi : X.N[i]? = some n) (hln : X.env.kindOf n = some .local) (hv : Vis X.env.scope n)
    (hb : ∀ (W' : WX) (pn : List (Addr × Obj)) (xe : Value → Shared → Prop), Takes (X.tr pn xe) W' → PassesOwn (model X.prog X.w) X.A X.env xe → MSs (X.tr pn xe) xc W' body b)
    (hsu : ∀ (a : Addr) (oe : Obj) (pn : List (Addr × Obj)), MSs (X.suite a ((a, oe) :: pn)) xc WF (b1 :: su) s1)
    (hd : (n == ("__debug__" : Str)) = false := by decide) (hcd : (n == ("__classdict__" : Str)) = false := by decide)
    (hat : attributeBase (.Name n np3) "reason" X.env (eval (.Name n np3) X.env) = eval (.Name n np3) X.env := by rfl)
    (h1 : starEach [.Constant (.str c) jc qc, .Attribute (.Name n np3) "reason" qa] X.env = (false, eval (.Constant (.str c) jc qc) X.env) :: starEach [.Attribute (.Name n np3) "reason" qa] X.env := by rfl)
    (h2 : starEach [.Attribute (.Name n np3) "reason" qa] X.env = (false, eval (.Attribute (.Name n np3) "reason" qa) X.env) :: starEach [] X.env := by rfl) :
    MS X xc W (.Try body [.ExceptHandler (some (.Name "Malformed" np)) none (b1 :: su) hp, .ExceptHandler (some (.Name "Refused" np2)) (some n) [.Return (some (.Tuple [.Constant (.str c) jc qc, .Attribute (.Name n np3) "reason" qa] k2 qt)) qr] hp2] [] [] tp) (mTryR c i b s1) :=
  mkS (ps_tryB (Wo := fun _ _ _ _ => False) (l := [(.ref xc.mal, none, fun _ _ _ => cS X.K xc WF s1), (.ref xc.refd, some i, tTold xc c i)]) (tb := fun W' => cS X.K xc W' b) hs hf hN takes0 hb
    (.plain hc (fun a oe cls d pn _ _ => hsu a oe pn) (.named ⟨hg, by decide, .inl T.gC⟩ hi hln (fun a oe cls d pn hz hfl => pss_one (ps_ret (pe_tup (pa_cons pe_str (pa_cons (pe_xf T.xf T.noN hz hfl (pe_var hi hv hd hcd) hat) pa_nil h2) h1)))) .nil))) (js_tryR xf ⟨T.rm, T.rr⟩)
end
end Mi
end

set_option Elab.async false
set_option linter.all false
set_option maxRecDepth 100000
set_option autoImplicit false
set_option maxHeartbeats 1000000
/-! min(xs), xs a list of ints and tuples of such, compared as the heap has them -/
namespace Mi
open PySem PySem.Spec PyProof.Rows
/-- all that stood in h0 stands in h -/
def Kp (h0 h : Heap) : Prop := ∀ b o, h0.get? b = some o → h.get? b = some o
/-- the items compare so in every heap that keeps h0 -/
def CmpKp (prog : Program) (w : World) (A : Around) (h0 : Heap) (P : Nat → Value → Prop) (bt : Nat → Nat → Bool) : Prop :=
  ∀ (i j : Nat) (u v : Value) (s : Shared), Kp h0 s.heap → P i u → P j v → Ob.RcOp .Lt A s u v (bt i j)
section
variable {prog : Program} {w : World} {A : Around} {R : Result → Shared → Prop} {I S : Addr} {fp wr : List Addr} {n : Nat} {P : Nat → Value → Prop} {St : Nat → Heap → Prop} {bt : Nat → Nat → Bool} {h0 : Heap}
theorem min_nm : (toString "min" ++ toString ".loop" : String) = "min.loop" := by decide
theorem min_turns (W : Walks prog w A.in1 I fp wr n P St) (hcmp : CmpKp prog w A.in1 h0 P bt) (hSf : S ∉ fp) (hS0 : h0.objs.size ≤ S) (hwr : ∀ b ∈ wr, h0.objs.size ≤ b) : ∀ (m at_ : Nat) (s : Shared) (best : Value) (c : Nat),
    at_ + 1 + m = n → St (at_ + 1) s.heap → Kp h0 s.heap → P (argBest bt at_) best → s.heap.get? S = some { cls := .type "list", dict := none, data := .seq #[best, best] c, slots := #[] } →
    (∀ u g tk, P (argBest bt (n - 1)) u → Kp h0 g → R (.ok (.ret u)) { s with heap := g, toks := tk }) → codeAny (model prog w) A (.builtin "min.loop" ⟨[.ref I, .none, .ref S], []⟩) R s := by
  intro m
  have offS : S ∉ wr := fun z => hSf (W.sub _ z)
  have old : ∀ {h h' : Heap}, Kp h0 h → (∀ b o, b ∉ wr → h.get? b = some o → h'.get? b = some o) → Kp h0 h' := fun {h h'} k q b o e => q b o (fun z => absurd (Heap.lt_size e) (Nat.not_lt.mpr (hwr b z))) (k b o e)
  induction m with
  | zero =>
    intro at_ s best c en st k hb eS done
    have en' : at_ + 1 = n := by omega
    refine codeAny_builtin F.entry_min_loop ?_
    rw [Around.under_plainId F.plain_min_loop _]
    refine wpAny_bind (m := seqItems? (.ref S)) (wpAny_seqItems eS rfl (wpAny_bind (m := tryCatch (pyNext (.ref I)) _) (wpAny_tryCatch (W.done s _ _ (en' ▸ st) fun h' tk q => ?_))))
    have eS' := q S _ offS eS
    refine wpAny_bind (m := updateSeq S (fun _ => #[])) (wpAny_updateSeq eS' rfl (wpAny_bind (wpAny_letGo (wpAny_pure (done best _ tk (by rw [← en']; exact hb) ?_)))))
    exact fun b o e => (Heap.get?_update_other _ _ (fun z => by rw [← z] at e; exact absurd (Heap.lt_size e) (Nat.not_lt.mpr hS0))).trans (old k q b o e)
  | succ m ih =>
    intro at_ s best c en st k hb eS done
    refine codeAny_builtin F.entry_min_loop ?_
    rw [Around.under_plainId F.plain_min_loop _]
    refine wpAny_bind (m := seqItems? (.ref S)) (wpAny_seqItems eS rfl (wpAny_bind (m := tryCatch (pyNext (.ref I)) _) (wpAny_tryCatch (W.item (at_ + 1) s _ _ (by omega) st fun v h' tk pv st' q => ?_))))
    have eS' := q S _ offS eS
    have k' := old k q
    refine wpAny_bind (m := tryCatch (holding [v, v] (richCompare .Lt v best >>= _)) _) (wpAny_tryCatch (wpAny_holding (wpAny_bind (hcmp (at_ + 1) (argBest bt at_) v best _ k' pv hb prog w _ _ (wpAny_bind (m := holding _ _) (wpAny_holding (wpAny_truthy_bool (wpAny_bind (wpAny_letGo (wpAny_pure ?_))))))))))
    cases q2 : bt (at_ + 1) (argBest bt at_) with
    | true =>
      simp only [if_true]
      refine wpAny_bind (wpAny_updateSeq eS' rfl (wpAny_bind (wpAny_letGo ?_)))
      rw [min_nm]
      refine wpAny_pure ⟨plainId_quiet F.plain_min_loop _, ih (at_ + 1) _ v _ (by omega) (W.frame _ _ _ st' fun b bf o e => ?_) (fun b o e => ?_) (by unfold argBest; rw [q2]; exact pv) (Heap.get?_update_self _ eS' rfl) fun u g tk2 pu kg => done u g tk2 pu kg⟩
      · exact (Heap.get?_update_other _ _ (fun z : S = b => hSf (by rw [z]; exact bf))).trans e
      · exact (Heap.get?_update_other _ _ (fun z => by rw [← z] at e; exact absurd (Heap.lt_size e) (Nat.not_lt.mpr hS0))).trans (k' b o e)
    | false =>
      simp only [Bool.false_eq_true, if_false]
      refine wpAny_bind (wpAny_letGo ?_)
      rw [min_nm]
      exact wpAny_pure ⟨plainId_quiet F.plain_min_loop _, ih (at_ + 1) _ best c (by omega) st' k' (by unfold argBest; rw [q2]; exact hb) eS' fun u g tk2 pu kg => done u g tk2 pu kg⟩
theorem min_start (W : Walks prog w A.in1 I fp wr n P St) (hcmp : CmpKp prog w A.in1 h0 P bt) (hSf : S ∉ fp) (hS0 : h0.objs.size ≤ S) (hwr : ∀ b ∈ wr, h0.objs.size ≤ b) (hn : 0 < n) {s : Shared} {c : Nat} (st : St 0 s.heap) (k : Kp h0 s.heap)
    (eS : s.heap.get? S = some { cls := .type "list", dict := none, data := .seq #[] c, slots := #[] }) (done : ∀ u g tk, P (argBest bt (n - 1)) u → Kp h0 g → R (.ok (.ret u)) { s with heap := g, toks := tk }) :
    codeAny (model prog w) A (.builtin "min.loop" ⟨[.ref I, .none, .ref S], []⟩) R s := by
  have offS : S ∉ wr := fun z => hSf (W.sub _ z)
  refine codeAny_builtin F.entry_min_loop ?_
  rw [Around.under_plainId F.plain_min_loop _]
  refine wpAny_bind (m := seqItems? (.ref S)) (wpAny_seqItems eS rfl (wpAny_bind (m := tryCatch (pyNext (.ref I)) _) (wpAny_tryCatch (W.item 0 s _ _ hn st fun v h' tk pv st' q => ?_))))
  have eS' := q S _ offS eS
  have k' : Kp h0 h' := fun b o e => q b o (fun z => absurd (Heap.lt_size e) (Nat.not_lt.mpr (hwr b z))) (k b o e)
  refine wpAny_bind (m := updateSeq S (fun _ => #[v, v])) (wpAny_updateSeq eS' rfl ?_)
  rw [min_nm]
  refine wpAny_pure ⟨plainId_quiet F.plain_min_loop _, min_turns W hcmp hSf hS0 hwr (n - 1) 0 _ v _ (by omega) (W.frame _ _ _ st' fun b bf o e => ?_) (fun b o e => ?_) pv (Heap.get?_update_self _ eS' rfl) fun u g tk2 pu kg => done u g tk2 pu kg⟩
  · exact (Heap.get?_update_other _ _ (fun z : S = b => hSf (by rw [z]; exact bf))).trans e
  · exact (Heap.get?_update_other _ _ (fun z => by rw [← z] at e; exact absurd (Heap.lt_size e) (Nat.not_lt.mpr hS0))).trans (k' b o e)
end
theorem min_call {prog : Program} {w : World} {A : Around} {E : Value → Shared → Prop} {s : Shared} {l : Addr} {items : Array Value} {bt : Nat → Nat → Bool} {Q : Value → Shared → Prop} (hh : A.handled = none) (hl : s.heap.IsList l items) (hne : 0 < items.size)
    (hcmp : CmpKp prog w A.in1 s.heap (fun i v => items[i]? = some v) bt) (done : ∀ u g tk, items[argBest bt (items.size - 1)]? = some u → Kp s.heap g → Q u { s with heap := g, toks := tk }) : wpAny (model prog w) A (call (.builtin "min") [.ref l]) Q E s := by
  have lt : l < s.heap.objs.size := by obtain ⟨_, e, _⟩ := hl; exact Heap.lt_size e
  refine call_function_tree F.kind_min F.plain_min F.entry_min (F.args_min1 _) ?_
  refine wpAny_bind (m := Builtin.Builtins.bindParams "min" ["key", "default"] 0 ⟨[], []⟩) (wpAny_of_eq (show Builtin.Builtins.bindParams "min" ["key", "default"] 0 ⟨[], []⟩ = pure [none, none] from rfl) (wpAny_bind (wpAny_pure ?_)))
  refine wpAny_bind (wpAny_pyIter_list hl ?_)
  refine wpAny_bind (wpAny_newObj_type ?_)
  rw [min_nm]
  have sz : (s.heap.push { cls := .type "list_iterator", data := .fields #[.ref l, .int 0 0] }).objs.size = s.heap.objs.size + 1 := Heap.size_push ..
  refine wpAny_pure ⟨plainId_quiet F.plain_min_loop _, min_start (h0 := s.heap) (Walks.list (A := A.in1) hh s.heap.objs.size l (Nat.ne_of_lt lt) items) hcmp ?_ ?_ ?_ hne ?_ ?_ (Heap.get?_push_size _ rfl) fun u g tk pu kg => done u g tk pu kg⟩
  · intro z
    rw [sz] at z
    rcases List.mem_cons.mp z with z | z
    · exact absurd (show s.heap.objs.size + 1 = s.heap.objs.size from z) (by omega)
    · have z2 : s.heap.objs.size + 1 = l := List.mem_singleton.mp z
      rw [← z2] at lt
      exact absurd (Nat.lt_trans (Nat.lt_succ_self _) lt) (Nat.lt_irrefl _)
  · rw [sz]; exact Nat.le_succ _
  · intro b z
    rw [List.mem_singleton.mp z]; exact Nat.le_refl _
  · exact ⟨⟨_, Heap.get?_push_of_some _ (Heap.get?_push_size _ rfl), rfl, rfl⟩, (hl.push _).push _⟩
  · exact fun b o e => Heap.get?_push_of_some _ (Heap.get?_push_of_some _ e)
end Mi

set_option Elab.async false
set_option linter.all false
set_option maxRecDepth 100000
set_option autoImplicit false
set_option maxHeartbeats 1000000
/-! min(xs): ints and tuples in their order -/
noncomputable section
namespace Mi
open PySem PySem.Spec PyProof.Rows L2
mutual
def ltP : PyData → PyData → Bool
  | .int a, .int b => decide (a < b)
  | .tuple xs, .tuple ys => ltL xs ys
  | _, _ => false
def ltL : List PyData → List PyData → Bool
  | [], [] => false
  | [], _ :: _ => true
  | _ :: _, [] => false
  | x :: xs, y :: ys => if PyData.eqv x y then ltL xs ys else ltP x y
end
mutual
/-- two that may be compared: ints, or tuples whose items may be, place by place -/
def cmP : PyData → PyData → Bool
  | .int _, .int _ => true
  | .tuple xs, .tuple ys => cmL xs ys
  | _, _ => false
def cmL : List PyData → List PyData → Bool
  | x :: xs, y :: ys => cmP x y && cmL xs ys
  | _, _ => true
end
mutual
def okP : PyData → Bool
  | .int _ => true
  | .tuple xs => okL xs
  | _ => false
def okL : List PyData → Bool
  | [] => true
  | x :: xs => okP x && okL xs
end
mutual
theorem reads_kp {h h' : Heap} (k : Kp h h') : ∀ (d : PyData) (u : Value) (as : List Addr), okP d = true → Reads h u d as → Reads h' u d as
  | .int i, _, _, _, r => by cases r; exact .int ..
  | .tuple xs, _, _, o, r => by
    cases r with
    | tuple h1 h2 h3 h4 => exact .tuple (k _ _ h1) h2 h3 (readsAll_kp k xs _ _ (by simpa [okP] using o) h4)
  | .none, _, _, o, _ => by simp [okP] at o
  | .bool _, _, _, o, _ => by simp [okP] at o
  | .str _, _, _, o, _ => by simp [okP] at o
  | .list _, _, _, o, _ => by simp [okP] at o
  | .dict _, _, _, o, _ => by simp [okP] at o
theorem readsAll_kp {h h' : Heap} (k : Kp h h') : ∀ (ds : List PyData) (us : List Value) (as : List Addr), okL ds = true → ReadsAll h us ds as → ReadsAll h' us ds as
  | [], _, _, _, r => by cases r; exact .nil
  | d :: ds, _, _, o, r => by
    have o' : okP d = true ∧ okL ds = true := by simpa [okL] using o
    cases r with
    | cons r1 r2 => exact .cons (reads_kp k d _ _ o'.1 r1) (readsAll_kp k ds _ _ o'.2 r2)
end
theorem reads_at {h : Heap} : ∀ {ds : List PyData} {us : List Value} {as : List Addr} {j : Nat} {u : Value}, ReadsAll h us ds as → us[j]? = some u → ∃ d bs, ds[j]? = some d ∧ Reads h u d bs
  | [], _, _, j, u, r, e => by cases r; simp at e
  | d :: ds, _, _, 0, u, r, e => by
    cases r with
    | cons r1 r2 => simp at e; subst e; exact ⟨d, _, rfl, r1⟩
  | d :: ds, _, _, j + 1, u, r, e => by
    cases r with
    | cons r1 r2 => exact reads_at (ds := ds) (j := j) r2 (by simpa using e)
theorem cm_at : ∀ {xs ys : List PyData} {j : Nat} {x y : PyData}, cmL xs ys = true → xs[j]? = some x → ys[j]? = some y → cmP x y = true
  | [], _, j, x, y, _, e, _ => by simp at e
  | _ :: _, [], j, x, y, _, _, e => by simp at e
  | a :: xs, b :: ys, 0, x, y, h, e1, e2 => by
    simp at e1 e2; subst e1; subst e2
    have h' : cmP a b = true ∧ cmL xs ys = true := by simpa [cmL] using h
    exact h'.1
  | a :: xs, b :: ys, j + 1, x, y, h, e1, e2 => by
    have h' : cmP a b = true ∧ cmL xs ys = true := by simpa [cmL] using h
    exact cm_at h'.2 (by simpa using e1) (by simpa using e2)
theorem dep_at : ∀ {xs : List PyData} {j : Nat} {x : PyData}, xs[j]? = some x → x.depth ≤ PyData.depthAll xs
  | [], j, x, e => by simp at e
  | a :: xs, 0, x, e => by simp at e; subst e; simp only [PyData.depthAll]; omega
  | a :: xs, j + 1, x, e => by
    have := dep_at (xs := xs) (j := j) (x := x) (by simpa using e)
    simp only [PyData.depthAll]; omega
theorem lay_at : ∀ {xs : List PyData} {j : Nat} {x : PyData}, PyData.canLayAll0 xs = true → xs[j]? = some x → x.canLay0 = true
  | [], j, x, _, e => by simp at e
  | a :: xs, j, x, h, e => by
    have h' : a.canLay0 = true ∧ PyData.canLayAll0 xs = true := by simpa [PyData.canLayAll0] using h
    cases j with
    | zero => simp at e; subst e; exact h'.1
    | succ j => exact lay_at h'.2 (by simpa using e)
theorem lex_ltL : ∀ (xs ys pre pre' : List PyData) (e r : Nat → Bool), pre.length = pre'.length → (∀ j x y, (pre ++ xs)[j]? = some x → (pre' ++ ys)[j]? = some y → e j = PyData.eqv x y ∧ r j = ltP x y) →
    Ob.lexAt e r (decide ((pre ++ xs).length < (pre' ++ ys).length)) pre.length (min xs.length ys.length) = ltL xs ys
  | [], [], pre, pre', e, r, hl, h => by
    simp only [List.length_nil, Nat.min_self, Ob.lexAt_zero, ltL, List.append_nil, hl, Nat.lt_irrefl, decide_false]
  | [], y :: ys, pre, pre', e, r, hl, h => by
    rw [show min ([] : List PyData).length (y :: ys).length = 0 from by simp, Ob.lexAt_zero]
    simp only [ltL]
    exact decide_eq_true (by simp [hl])
  | x :: xs, [], pre, pre', e, r, hl, h => by
    rw [show min (x :: xs).length ([] : List PyData).length = 0 from by simp, Ob.lexAt_zero]
    simp only [ltL]
    exact decide_eq_false (by simp [hl])
  | x :: xs, y :: ys, pre, pre', e, r, hl, h => by
    rw [show min (x :: xs).length (y :: ys).length = min xs.length ys.length + 1 from by simp, Ob.lexAt_succ]
    obtain ⟨h1, h2⟩ := h pre.length x y (by simp) (by rw [hl]; simp)
    rw [h1, h2]
    unfold ltL
    by_cases c : PyData.eqv x y = true
    · rw [if_pos c, if_pos c]
      have := lex_ltL xs ys (pre ++ [x]) (pre' ++ [y]) e r (by simp [hl]) (fun j a b q1 q2 => h j a b (by simpa using q1) (by simpa using q2))
      simpa using this
    · rw [if_neg c, if_neg c]
theorem lt_tup {n : Nat} {xs ys : List PyData} (ih : ∀ (d e : PyData) (A : Around) (s : Shared) (u v : Value) (as bs : List Addr), d.depth ≤ n → Reads s.heap u d as → Reads s.heap v e bs → cmP d e = true → d.canLay0 = true → e.canLay0 = true → A.units + n + 2 < cLine → Ob.RcOp .Lt A s u v (ltP d e))
    {A : Around} {s : Shared} {l b : Addr} {vs ws : Array Value} {as bs : List Addr} (hd : PyData.depthAll xs ≤ n) (p1 : s.heap.IsTuple l vs) (p4 : ReadsAll s.heap vs.toList xs as) (q1 : s.heap.IsTuple b ws) (q4 : ReadsAll s.heap ws.toList ys bs) (hc : cmL xs ys = true)
    (k1 : PyData.canLayAll0 xs = true) (k2 : PyData.canLayAll0 ys = true) (hu : A.units + (n + 1) + 2 < cLine) : Ob.RcOp .Lt A s (.ref l) (.ref b) (ltL xs ys) := by
  have R := Ob.RcOp.tuples_lt (A := A) (s := s) (e := fun j => PyData.eqv (xs.getD j .none) (ys.getD j .none)) (r := fun j => ltP (xs.getD j .none) (ys.getD j .none)) p1 q1 (by omega)
    (fun j h1 h2 => by
      obtain ⟨x, cs, ex, rx⟩ := reads_at (j := j) p4 (show vs.toList[j]? = some vs[j] from by simp [h1])
      obtain ⟨y, ds, ey, ry⟩ := reads_at (j := j) q4 (show ws.toList[j]? = some ws[j] from by simp [h2])
      have := dep_at ex
      have z := SeqAt.eqAt_reads x y A.in1 s _ _ _ _ rx ry (lay_at k1 ex) (lay_at k2 ey) (by rw [Around.in1_units]; omega)
      show SeqAt.EqAt A.in1 s vs[j] ws[j] (PyData.eqv (xs.getD j .none) (ys.getD j .none))
      rw [List.getD_eq_getElem?_getD, List.getD_eq_getElem?_getD, ex, ey]
      exact z)
    (fun j h1 h2 _ => by
      obtain ⟨x, cs, ex, rx⟩ := reads_at (j := j) p4 (show vs.toList[j]? = some vs[j] from by simp [h1])
      obtain ⟨y, ds, ey, ry⟩ := reads_at (j := j) q4 (show ws.toList[j]? = some ws[j] from by simp [h2])
      have := dep_at ex
      have z := ih x y A.in1 s _ _ _ _ (by omega) rx ry (cm_at hc ex ey) (lay_at k1 ex) (lay_at k2 ey) (by rw [Around.in1_units]; omega)
      show Ob.RcOp .Lt A.in1 s vs[j] ws[j] (ltP (xs.getD j .none) (ys.getD j .none))
      rw [List.getD_eq_getElem?_getD, List.getD_eq_getElem?_getD, ex, ey]
      exact z)
  have z1 : vs.size = xs.length := by have := SeqAt.ReadsAll.length xs vs.toList _ p4; rwa [Array.length_toList] at this
  have z2 : ws.size = ys.length := by have := SeqAt.ReadsAll.length ys ws.toList _ q4; rwa [Array.length_toList] at this
  have L := lex_ltL xs ys [] [] (fun j => PyData.eqv (xs.getD j .none) (ys.getD j .none)) (fun j => ltP (xs.getD j .none) (ys.getD j .none)) rfl (fun j x y ex ey => by
    rw [List.nil_append] at ex ey
    refine ⟨?_, ?_⟩
    · rw [List.getD_eq_getElem?_getD, List.getD_eq_getElem?_getD, ex, ey]; rfl
    · rw [List.getD_eq_getElem?_getD, List.getD_eq_getElem?_getD, ex, ey]; rfl)
  rw [List.nil_append, List.nil_append, List.length_nil] at L
  rw [z1, z2, L] at R
  exact R
theorem lt_reads (n : Nat) : ∀ (d e : PyData) (A : Around) (s : Shared) (u v : Value) (as bs : List Addr), d.depth ≤ n → Reads s.heap u d as → Reads s.heap v e bs → cmP d e = true → d.canLay0 = true → e.canLay0 = true → A.units + n + 2 < cLine → Ob.RcOp .Lt A s u v (ltP d e) := by
  induction n with
  | zero =>
    intro d e A s u v as bs hd ru rv hc l1 l2 hu
    cases d with
    | int a => cases e with
      | int b => cases ru; cases rv; unfold ltP; exact Ob.RcOp.lt_int _ _ _ _
      | _ => simp [cmP] at hc
    | tuple xs => simp [PyData.depth] at hd
    | _ => simp [cmP] at hc
  | succ n ih =>
    intro d e A s u v as bs hd ru rv hc l1 l2 hu
    cases d with
    | int a => cases e with
      | int b => cases ru; cases rv; unfold ltP; exact Ob.RcOp.lt_int _ _ _ _
      | _ => simp [cmP] at hc
    | tuple xs => cases e with
      | tuple ys =>
        cases ru with
        | tuple p1 p2 p3 p4 =>
        cases rv with
        | tuple q1 q2 q3 q4 =>
        unfold ltP
        exact lt_tup ih (by simp only [PyData.depth] at hd; omega) ⟨_, p1, p2, _, p3⟩ p4 ⟨_, q1, q2, _, q3⟩ q4 (by simpa [cmP] using hc) (by simpa [PyData.canLay0] using l1) (by simpa [PyData.canLay0] using l2) hu
      | _ => simp [cmP] at hc
    | _ => simp [cmP] at hc
/-! ### the call -/
def btP (ds : List PyData) (i j : Nat) : Bool := ltP (ds.getD i .none) (ds.getD j .none)
def minOk (ds : List PyData) : Bool := decide (0 < ds.length) && (SeqAt.shaped (.list ds) && (okL ds && ds.all fun d => ds.all fun e => cmP d e))
def bestP (ds : List PyData) : Nat := argBest (btP ds) (ds.length - 1)
def rMinT (K : PySem.W.Frag) (vs : List V) (H : Hp) (Q : VK) : Prop := ∃ (a : Addr) (xs : List V) (ds : List PyData), vs = [.ref a] ∧ SqL K H a xs ∧ DpAll K H xs ds ∧ minOk ds = true ∧ ∀ v, xs[bestP ds]? = some v → Q v H
theorem paired_back {α β : Type} {G : α → β → Prop} : ∀ {xs : List α} {ys : List β} {i : Nat} {y : β}, Paired G xs ys → ys[i]? = some y → ∃ x, xs[i]? = some x ∧ G x y
  | _, _, _, _, .nil, e => by simp at e
  | _, _, 0, _, .cons r _, e => by simp at e; subst e; exact ⟨_, rfl, r⟩
  | _, _, i + 1, _, .cons _ t, e => by
    obtain ⟨x, h1, h2⟩ := paired_back (i := i) t (by simpa using e)
    exact ⟨x, by simpa using h1, h2⟩
theorem cr_minT {X : Cx} (hc : X.calm = true) (hu : X.A.units + 80 < cLine) : CallR X (.builtin "min") (rMinT X.K) := by
  intro pins s σ H vs us Q I r h
  obtain ⟨a, xs, ds, rfl, hs, hd, ok, q⟩ := h
  obtain ⟨its, rv, hl, _⟩ := I.list hs
  obtain ⟨as, ra⟩ := Dp.readsAll I ds _ its hd rv
  unfold minOk at ok
  rw [Bool.and_eq_true, Bool.and_eq_true, Bool.and_eq_true] at ok
  obtain ⟨o1, o2, o3, o4⟩ := ok
  have n1 : its.length = ds.length := SeqAt.ReadsAll.length ds its as ra
  have o1' : 0 < ds.length := of_decide_eq_true o1
  have ly : PyData.canLayAll0 ds = true := SeqAt.canLay_of_shaped o2
  have dp : PyData.depthAll ds + 1 ≤ 64 := by have := SeqAt.depth_of_shaped o2; simpa only [PyData.depth] using this
  rw [Vals.ref1 r]
  refine min_call (bt := btP ds) (I.ok.hd hc) hl.isList (by simp; omega) (fun i j u v s' k hi hj => ?_) (fun u g tk hb k => ?_)
  · have hi : its[i]? = some u := by simpa using hi
    have hj : its[j]? = some v := by simpa using hj
    have ra' := readsAll_kp k ds its as o3 ra
    obtain ⟨x, cs, ex, rx⟩ := reads_at (j := i) ra' hi
    obtain ⟨y, es, ey, ry⟩ := reads_at (j := j) ra' hj
    have cm : cmP x y = true := List.all_eq_true.mp (List.all_eq_true.mp o4 x (List.mem_of_getElem? ex)) y (List.mem_of_getElem? ey)
    have z := lt_reads 64 x y X.A.in1 s' u v _ _ (by have := dep_at ex; omega) rx ry cm (lay_at ly ex) (lay_at ly ey) (by rw [Around.in1_units]; omega)
    unfold btP
    rw [List.getD_eq_getElem?_getD, List.getD_eq_getElem?_getD, ex, ey]
    exact z
  · have hb : its[bestP ds]? = some u := by
      have z : its.toArray[argBest (btP ds) (its.toArray.size - 1)]? = some u := hb
      rw [List.size_toArray, n1] at z
      simpa [bestP] using z
    obtain ⟨v, e1, e2⟩ := paired_back rv hb
    exact ⟨v, H, I.kept k, e2, q v e1⟩
def bMinT : List D → Option EV
  | [.lst xs] => (pyDs xs).bind fun ds => if minOk ds then (xs[bestP ds]?).map EV.d else none
  | _ => none
theorem cam_minT {K : PySem.W.Frag} : CaM K (rMinT K) bMinT := by
  intro S H vs ds ev Q hs sx e q
  match ds, sx, e with
  | [.lst xs], sx, e =>
    simp only [bMinT, Option.bind_eq_some_iff] at e
    obtain ⟨ps, e1, e2⟩ := e
    have ok : minOk ps = true := by
      by_cases c : minOk ps = true
      · exact c
      · rw [if_neg c] at e2; cases e2
    have e3 : (xs[bestP ps]?).map EV.d = some ev := by rw [if_pos ok] at e2; exact e2
    obtain ⟨v, rfl, sv⟩ := seenL1 sx
    obtain ⟨a, ws, rfl, t, l⟩ := seen_lst sv
    rw [Option.map_eq_some_iff] at e3
    obtain ⟨d, e4, rfl⟩ := e3
    refine ⟨a, ws, ps, rfl, t, denL_dp (l.same hs) e1, ok, fun u hu => ?_⟩
    obtain ⟨d', e5, hd⟩ := DenL.getv l hu
    rw [e4] at e5; cases e5
    exact q S H _ (.refl hs) (evg hd)
section
variable {X : Cx} {xc : XC} {W : WX} {a : Expr} {p pos : Pos} {m : Rho → R (List EV)} {k : Nat}
theorem r_minT (hr : Room k X.A) (hc : X.calm = true) (hg : Gl X "min") (hmg : X.mg "min" = none) (ha : MA X xc W [a] m) (he : starEach [a] X.env = (false, eval a X.env) :: starEach [] X.env := by rfl) : ME X xc W (.Call (.Name "min" p) [a] [] pos) (mCB bMinT m) :=
  r_callB (cr_minT hc (by have := hr.un; omega)) cam_minT hg hmg (by decide +kernel) ha (by decide) (by decide) he rfl
end
end Mi
end

set_option Elab.async false
set_option linter.all false
set_option maxRecDepth 100000
set_option autoImplicit false
noncomputable section
namespace K04
open PySem L2 Mi
structure Adr where
  f_demand : Addr
  f_is_integer : Addr
  f_unit_of : Addr
  f_then : Addr
  f_turned : Addr
  f_cycle_rows : Addr
  f_is_permutation : Addr
  f__demand_one : Addr
  f__demand_two : Addr
  f__demand_row : Addr
  f_product_of : Addr
  f_inverse_of : Addr
  f_power_of : Addr
  f_product_row : Addr
  f__law_state : Addr
  f__law_take : Addr
  f__law_same : Addr
  f__law_told : Addr
  f__law_is_told : Addr
  f__law_is_raised : Addr
  f__law_times : Addr
  f__law_back : Addr
  f__law_drawn : Addr
  f__law_cycles : Addr
  f__law_is_perm : Addr
  f__law_power : Addr
  f__law_near : Addr
  f_law : Addr
  c_Fault : Addr
  c_Malformed : Addr
  c_Refused : Addr
def Adr.xc (A : Adr) : XC := ⟨A.c_Malformed, A.c_Refused, 0⟩
structure Tx (K : PySem.W.Frag) (mg : Str → Option Value) (A : Adr) : Prop where
  g_f_demand : mg "demand" = some (.ref A.f_demand)
  g_f_is_integer : mg "is_integer" = some (.ref A.f_is_integer)
  g_f_unit_of : mg "unit_of" = some (.ref A.f_unit_of)
  g_f_then : mg "then" = some (.ref A.f_then)
  g_f_turned : mg "turned" = some (.ref A.f_turned)
  g_f_cycle_rows : mg "cycle_rows" = some (.ref A.f_cycle_rows)
  g_f_is_permutation : mg "is_permutation" = some (.ref A.f_is_permutation)
  g_f__demand_one : mg "_demand_one" = some (.ref A.f__demand_one)
  g_f__demand_two : mg "_demand_two" = some (.ref A.f__demand_two)
  g_f__demand_row : mg "_demand_row" = some (.ref A.f__demand_row)
  g_f_product_of : mg "product_of" = some (.ref A.f_product_of)
  g_f_inverse_of : mg "inverse_of" = some (.ref A.f_inverse_of)
  g_f_power_of : mg "power_of" = some (.ref A.f_power_of)
  g_f_product_row : mg "product_row" = some (.ref A.f_product_row)
  g_f__law_state : mg "_law_state" = some (.ref A.f__law_state)
  g_f__law_take : mg "_law_take" = some (.ref A.f__law_take)
  g_f__law_same : mg "_law_same" = some (.ref A.f__law_same)
  g_f__law_told : mg "_law_told" = some (.ref A.f__law_told)
  g_f__law_is_told : mg "_law_is_told" = some (.ref A.f__law_is_told)
  g_f__law_is_raised : mg "_law_is_raised" = some (.ref A.f__law_is_raised)
  g_f__law_times : mg "_law_times" = some (.ref A.f__law_times)
  g_f__law_back : mg "_law_back" = some (.ref A.f__law_back)
  g_f__law_drawn : mg "_law_drawn" = some (.ref A.f__law_drawn)
  g_f__law_cycles : mg "_law_cycles" = some (.ref A.f__law_cycles)
  g_f__law_is_perm : mg "_law_is_perm" = some (.ref A.f__law_is_perm)
  g_f__law_power : mg "_law_power" = some (.ref A.f__law_power)
  g_f__law_near : mg "_law_near" = some (.ref A.f__law_near)
  g_f_law : mg "law" = some (.ref A.f_law)
  g_Fault : mg "Fault" = some (.ref A.c_Fault)
  g_Malformed : mg "Malformed" = some (.ref A.c_Malformed)
  g_Refused : mg "Refused" = some (.ref A.c_Refused)
  n_abs : mg "abs" = none
  n_all : mg "all" = none
  n_bool : mg "bool" = none
  n_enumerate : mg "enumerate" = none
  n_int : mg "int" = none
  n_isinstance : mg "isinstance" = none
  n_len : mg "len" = none
  n_list : mg "list" = none
  n_range : mg "range" = none
  n_sorted : mg "sorted" = none
  n_str : mg "str" = none
  n_tuple : mg "tuple" = none
  n_zip : mg "zip" = none
  i_MOST_SHEETS : ∃ t, mg "MOST_SHEETS" = some (.int 60 t)
  exM : PySem.W.excIn K A.c_Malformed [.type "ValueError", .type "Exception", .type "BaseException", .type "object"] "ValueError.__new__" = true
  kpM : PySem.W.keepIn K (.ref A.c_Malformed) = true
  sbM : PySem.W.subIn K (.ref A.c_Malformed) (.type "BaseException") = some true
  tyM : PySem.W.typeIn K (.ref A.c_Malformed) = some (.type "type")
  xmM : PySem.W.exmOne K (.ref A.c_Malformed) (.ref A.c_Malformed) = some true
theorem Tx.malC {X : Cx} {A : Adr} (T : Tx X.K X.mg A) : MalC X A.xc.mal := ⟨⟨_, _, _, _, PySem.F.excBase_ValueError, T.exM⟩, T.g_Malformed, T.kpM, raises_own T.sbM T.tyM⟩
theorem Tx.xf {K : PySem.W.Frag} {mg : Str → Option Value} {A : Adr} (T : Tx K mg A) : XF K A.xc := ⟨T.xmM⟩
/-! ### the mirrors -/
def m_f_demand : List Cell → CR := callOf 2 (
  (mIfS (mNotT (mTru (mVar 0))) (mRaiseM (mCons (mFs2 "no " (mVar 1)) mNil)) mNext))
def m_f_is_integer : List Cell → CR := callOf 1 (
  (mRet (mAndV (mIsi .int (mVar 0)) (mNotV (mIsi .bool (mVar 0))))))
def m_f_unit_of : List Cell → CR := callOf 1 (
  (mRet (mTupRg1 (mVar 0))))
def m_f_then : List Cell → CR := callOf 3 (
  (mRet (mCB bTuple (mCons (mLc (mIt (mVar 0)) [2] (gtN 2) mYes (mOp dIx (mVar 1) (mVar 2))) mNil))))
def m_f_turned : List Cell → CR := callOf 4 (
  (mSeq (mSet 1 (mRep (mLst (mCons (mFrz (mC (.int 0))) mNil)) (mCB bLen (mCons (mVar 0) mNil))))
    (mSeq (mFor (mEnum (mVar 0)) (gtTup 2 (gtCons (gtN 2) (gtCons (gtN 3) gtNil))) (mStore 1 (mVar 3) (mVar 2)))
    (mRet (mCB bTuple (mCons (mVar 1) mNil))))))
def m_f_cycle_rows : List Cell → CR := callOf 6 (
  (mSeq (mSet 1 (mRep (mLst (mCons (mFrz (mC (.bl false))) mNil)) (mCB bLen (mCons (mVar 0) mNil))))
    (mSeq (mSet 2 (mLst mNil))
    (mSeq (mFor (mRng1 (mCB bLen (mCons (mVar 0) mNil))) (gtN 3) (mSeq (mSet 4 (mLst mNil))
    (mSeq (mSet 5 (mVar 3))
    (mSeq (mWhile (mNotT (mTru (mOp dIx (mVar 1) (mVar 5)))) (mSeq (mStore 1 (mVar 5) (mC (.bl true)))
    (mSeq (mDrop (mApp 4 (mVar 5)))
    (mSet 5 (mOp dIx (mVar 0) (mVar 5))))))
    (mIfS (mTru (mVar 4)) (mDrop (mApp 2 (mCB bTuple (mCons (mVar 4) mNil)))) mNext)))))
    (mRet (mVar 2))))))
def m_f_is_permutation : List Cell → CR := callOf 3 (
  (mSeq (mIfS (mNotT (mTru (mIsi .tuple (mVar 0)))) (mRet (mC (.bl false))) mNext)
    (mSeq (mSet 1 (mRep (mLst (mCons (mFrz (mC (.bl false))) mNil)) (mCB bLen (mCons (mVar 0) mNil))))
    (mSeq (mFor (mIt (mVar 0)) (gtN 2) (mSeq (mIfS (mOrT (mNotT (mTru (mCall m_f_is_integer 1 (mCons (mFrz (mVar 2)) mNil)))) (mOrT (mTst (mOp dLt (mVar 2) (mC (.int 0)))) (mOrT (mTst (mOp dGe (mVar 2) (mCB bLen (mCons (mVar 0) mNil)))) (mTru (mOp dIx (mVar 1) (mVar 2)))))) (mRet (mC (.bl false))) mNext)
    (mStore 1 (mVar 2) (mC (.bl true)))))
    (mRet (mC (.bl true)))))))
def m_f__demand_one : List Cell → CR := callOf 1 (
  (mDrop (mCall m_f_demand 2 (mCons (mFrz (mCall m_f_is_permutation 1 (mCons (mFrz (mVar 0)) mNil))) (mCons (mFrz (mC (.str "permutation"))) mNil)))))
def m_f__demand_two : List Cell → CR := callOf 2 (
  (mSeq (mDrop (mCall m_f__demand_one 1 (mCons (mFrz (mVar 0)) mNil)))
    (mSeq (mDrop (mCall m_f__demand_one 1 (mCons (mFrz (mVar 1)) mNil)))
    (mDrop (mCall m_f_demand 2 (mCons (mFrz (mOp dEqA (mCB bLen (mCons (mVar 0) mNil)) (mCB bLen (mCons (mVar 1) mNil)))) (mCons (mFrz (mC (.str "permutations of as many sheets"))) mNil)))))))
def m_f__demand_row : List Cell → CR := callOf 2 (
  (mSeq (mDrop (mCall m_f_demand 2 (mCons (mFrz (mIsTL (mVar 0))) (mCons (mFrz (mC (.str "tuple or list"))) mNil))))
    (mDrop (mCall m_f_demand 2 (mCons (mFrz (mAndV (mCall m_f_is_integer 1 (mCons (mFrz (mVar 1)) mNil)) (mChain dLe dLe (mC (.int 0)) (mVar 1) (mC (.int 60))))) (mCons (mFrz (mC (.str "number of sheets"))) mNil))))))
def m_f_product_of : List Cell → CR := callOf 2 (
  (mSeq (mDrop (mCall m_f__demand_two 2 (mCons (mFrz (mVar 0)) (mCons (mFrz (mVar 1)) mNil))))
    (mRet (mCall m_f_then 2 (mCons (mFrz (mVar 0)) (mCons (mFrz (mVar 1)) mNil))))))
def m_f_inverse_of : List Cell → CR := callOf 1 (
  (mSeq (mDrop (mCall m_f__demand_one 1 (mCons (mFrz (mVar 0)) mNil)))
    (mRet (mCall m_f_turned 1 (mCons (mFrz (mVar 0)) mNil)))))
def m_f_power_of : List Cell → CR := callOf 7 (
  (mSeq (mDrop (mCall m_f__demand_one 1 (mCons (mFrz (mVar 0)) mNil)))
    (mSeq (mDrop (mCall m_f_demand 2 (mCons (mFrz (mCall m_f_is_integer 1 (mCons (mFrz (mVar 1)) mNil))) (mCons (mFrz (mC (.str "integer"))) mNil))))
    (mSeq (mSet 2 (mRep (mLst (mCons (mFrz (mC (.int 0))) mNil)) (mCB bLen (mCons (mVar 0) mNil))))
    (mSeq (mFor (mIt (mCall m_f_cycle_rows 1 (mCons (mFrz (mVar 0)) mNil))) (gtN 3) (mSeq (mSet 4 (mOp dMod (mVar 1) (mCB bLen (mCons (mVar 3) mNil))))
    (mFor (mZip (mVar 3) (mAddL (mSl (mVar 3) (mO1 (mVar 4)) mO0) (mSl (mVar 3) mO0 (mO1 (mVar 4))))) (gtTup 2 (gtCons (gtN 5) (gtCons (gtN 6) gtNil))) (mStore 2 (mVar 5) (mVar 6)))))
    (mRet (mCB bTuple (mCons (mVar 2) mNil))))))))
def m_f_product_row : List Cell → CR := callOf 4 (
  (mSeq (mDrop (mCall m_f__demand_row 2 (mCons (mFrz (mVar 0)) (mCons (mFrz (mVar 1)) mNil))))
    (mSeq (mDrop (mCall m_f_demand 2 (mCons (mFrz (mCB bAll (mCons (mLc (mIt (mVar 0)) [3] (gtN 3) mYes (mAndV (mCall m_f_is_permutation 1 (mCons (mFrz (mVar 3)) mNil)) (mOp dEqA (mCB bLen (mCons (mVar 3) mNil)) (mVar 1)))) mNil))) (mCons (mFrz (mC (.str "row of permutations"))) mNil))))
    (mSeq (mSet 2 (mCall m_f_unit_of 1 (mCons (mFrz (mVar 1)) mNil)))
    (mSeq (mFor (mIt (mVar 0)) (gtN 3) (mSet 2 (mCall m_f_then 2 (mCons (mFrz (mVar 2)) (mCons (mFrz (mVar 3)) mNil)))))
    (mRet (mVar 2)))))))
def m_f__law_state : List Cell → CR := callOf 4 (
  (mSeq (mSet 1 (mC (.int 0)))
    (mSeq (mSet 2 (mC (.int 1)))
    (mSeq (mFor (mIt (mSl (mVar 0) mO0 (mO1 (mC (.int 63))))) (gtN 3) (mSeq (mSet 1 (mAddL (mOp dMul (mVar 1) (mC (.int 1000003))) (mCB bAbs (mCons (mVar 3) mNil))))
    (mSet 2 (mOp dMod (mCB bInt (mCons (mAddL (mOp dMul (mVar 2) (mC (.int 48271))) (mVar 3)) mNil)) (mC (.int 2147483647))))))
    (mRet (mLst (mCons (mFrz (mVar 1)) (mCons (mFrz (mVar 2)) mNil))))))))
def m_f__law_take : List Cell → CR := callOf 3 (
  (mSeq (mIfS (mTst (mOp dGt (mOp dIx (mVar 0) (mC (.int 0))) (mC (.int 0)))) (mSeq (mSet 2 (mOp dMod (mCB bInt (mCons (mOp dIx (mVar 0) (mC (.int 0))) mNil)) (mVar 1)))
    (mSeq (mStore 0 (mC (.int 0)) (mOp dDiv (mOp dIx (mVar 0) (mC (.int 0))) (mVar 1)))
    (mRet (mVar 2)))) mNext)
    (mSeq (mStore 0 (mC (.int 1)) (mOp dMod (mCB bInt (mCons (mAddL (mOp dMul (mOp dIx (mVar 0) (mC (.int 1))) (mC (.int 48271))) (mC (.int 11))) mNil)) (mC (.int 2147483647))))
    (mRet (mOp dMod (mCB bInt (mCons (mOp dDiv (mOp dIx (mVar 0) (mC (.int 1))) (mC (.int 7))) mNil)) (mVar 1))))))
def b_f__law_same (f0 : List Cell → CR) : Rho → Out :=
  (mSeq (mIfS (mTru (mIsi .tuple (mVar 1))) (mRet (mAndV (mIsi .tuple (mVar 0)) (mAndV (mOp dEqA (mCB bLen (mCons (mVar 0) mNil)) (mCB bLen (mCons (mVar 1) mNil))) (mCB bAll (mCons (mLc (mRng1 (mCB bLen (mCons (mVar 1) mNil))) [2] (gtN 2) mYes (mCall f0 2 (mCons (mFrz (mOp dIx (mVar 0) (mVar 2))) (mCons (mFrz (mOp dIx (mVar 1) (mVar 2))) mNil)))) mNil))))) mNext)
    (mSeq (mIfS (mTst (mOp dIsN (mVar 1) (mC .non))) (mRet (mOp dIsN (mVar 0) (mC .non))) mNext)
    (mSeq (mIfS (mTru (mIsi .bool (mVar 1))) (mRet (mAndV (mIsi .bool (mVar 0)) (mOp dEqA (mVar 0) (mVar 1)))) mNext)
    (mSeq (mIfS (mTru (mIsi .str (mVar 1))) (mRet (mAndV (mIsi .str (mVar 0)) (mOp dEqA (mVar 0) (mVar 1)))) mNext)
    (mRet (mAndV (mIsi .int (mVar 0)) (mAndV (mNotV (mIsi .bool (mVar 0))) (mOp dEqA (mVar 0) (mVar 1)))))))))
def m_f__law_same : Nat → List Cell → CR
  | 0 => fun _ => .stuck
  | n + 1 => callOf 3 (b_f__law_same (m_f__law_same n))
def tabL (A : Adr) (a : Addr) : Option (Nat × (List Cell → CR)) := if a = A.f_product_of then some (2, m_f_product_of) else if a = A.f_product_row then some (2, m_f_product_row) else if a = A.f_inverse_of then some (1, m_f_inverse_of) else if a = A.f_power_of then some (2, m_f_power_of) else none
def m_f__law_told (A : Adr) : List Cell → CR := callOf 3 (
  (mTryM (mSeq (mIfS (mTst (mOp dEqA (mCB bLen (mCons (mVar 1) mNil)) (mC (.int 1)))) (mRet (mTup (mCons (mFrz (mC (.str "told"))) (mCons (mFrz (mCallV 0 (tabL A) (mCons (mFrz (mOp dIx (mVar 1) (mC (.int 0)))) mNil))) mNil)))) mNext)
    (mSeq (mIfS (mTst (mOp dEqA (mCB bLen (mCons (mVar 1) mNil)) (mC (.int 2)))) (mRet (mTup (mCons (mFrz (mC (.str "told"))) (mCons (mFrz (mCallV 0 (tabL A) (mCons (mFrz (mOp dIx (mVar 1) (mC (.int 0)))) (mCons (mFrz (mOp dIx (mVar 1) (mC (.int 1)))) mNil)))) mNil)))) mNext)
    (mSeq (mIfS (mTst (mOp dEqA (mCB bLen (mCons (mVar 1) mNil)) (mC (.int 3)))) (mRet (mTup (mCons (mFrz (mC (.str "told"))) (mCons (mFrz (mCallV 0 (tabL A) (mCons (mFrz (mOp dIx (mVar 1) (mC (.int 0)))) (mCons (mFrz (mOp dIx (mVar 1) (mC (.int 1)))) (mCons (mFrz (mOp dIx (mVar 1) (mC (.int 2)))) mNil))))) mNil)))) mNext)
    (mRet (mTup (mCons (mFrz (mC (.str "told"))) (mCons (mFrz (mCallV 0 (tabL A) (mCons (mFrz (mOp dIx (mVar 1) (mC (.int 0)))) (mCons (mFrz (mOp dIx (mVar 1) (mC (.int 1)))) (mCons (mFrz (mOp dIx (mVar 1) (mC (.int 2)))) (mCons (mFrz (mOp dIx (mVar 1) (mC (.int 3)))) mNil)))))) mNil))))))) (mRet (mTup (mCons (mFrz (mC (.str "raised"))) (mCons (mFrz (mC (.str "malformed"))) mNil))))))
def m_f__law_is_told : List Cell → CR := callOf 2 (
  (mRet (mAndV (mOp dEqA (mOp dIx (mVar 0) (mC (.int 0))) (mC (.str "told"))) (mCall (m_f__law_same 4) 2 (mCons (mFrz (mOp dIx (mVar 0) (mC (.int 1)))) (mCons (mFrz (mVar 1)) mNil))))))
def m_f__law_is_raised : List Cell → CR := callOf 2 (
  (mRet (mAndV (mOp dEqA (mOp dIx (mVar 0) (mC (.int 0))) (mC (.str "raised"))) (mCall (m_f__law_same 4) 2 (mCons (mFrz (mOp dIx (mVar 0) (mC (.int 1)))) (mCons (mFrz (mVar 1)) mNil))))))
def m_f__law_times : List Cell → CR := callOf 3 (
  (mRet (mCB bTuple (mCons (mLc (mIt (mVar 0)) [2] (gtN 2) mYes (mOp dIx (mVar 1) (mVar 2))) mNil))))
def m_f__law_back : List Cell → CR := callOf 3 (
  (mSeq (mSet 1 (mRep (mLst (mCons (mFrz (mC (.int 0))) mNil)) (mCB bLen (mCons (mVar 0) mNil))))
    (mSeq (mFor (mRng1 (mCB bLen (mCons (mVar 0) mNil))) (gtN 2) (mStore 1 (mOp dIx (mVar 0) (mVar 2)) (mVar 2)))
    (mRet (mCB bTuple (mCons (mVar 1) mNil))))))
def m_f__law_drawn : List Cell → CR := callOf 4 (
  (mSeq (mPar 2 3 (mLstRg1 (mVar 1)) (mLst mNil))
    (mSeq (mWhile (mTst (mOp dGt (mCB bLen (mCons (mVar 2) mNil)) (mC (.int 0)))) (mDrop (mApp 3 (mPop 2 (mCall m_f__law_take 2 (mCons (mVar 0) (mCons (mFrz (mCB bLen (mCons (mVar 2) mNil))) mNil)))))))
    (mRet (mCB bTuple (mCons (mVar 3) mNil))))))
def m_f__law_cycles : List Cell → CR := callOf 6 (
  (mSeq (mPar 2 3 mDnew (mLst mNil))
    (mSeq (mFor (mRng1 (mCB bLen (mCons (mVar 0) mNil))) (gtN 1) (mSeq (mPar 4 5 (mTup mNil) (mVar 1))
    (mSeq (mWhile (mTst (mIn true 2 (mVar 5))) (mSeq (mDput 2 (mVar 5) (mC (.bl true)))
    (mSeq (mSet 4 (mAddL (mVar 4) (mTup (mCons (mFrz (mVar 5)) mNil))))
    (mSet 5 (mOp dIx (mVar 0) (mVar 5))))))
    (mIfS (mTst (mOp dGt (mCB bLen (mCons (mVar 4) mNil)) (mC (.int 0)))) (mDrop (mApp 3 (mVar 4))) mNext))))
    (mRet (mCB bTuple (mCons (mVar 3) mNil))))))
def m_f__law_is_perm : List Cell → CR := callOf 2 (
  (mSeq (mIfS (mOrT (mNotT (mTru (mIsi .tuple (mVar 0)))) (mNotT (mTru (mCB bAll (mCons (mLc (mIt (mVar 0)) [1] (gtN 1) mYes (mAndV (mIsi .int (mVar 1)) (mNotV (mIsi .bool (mVar 1))))) mNil))))) (mRet (mC (.bl false))) mNext)
    (mRet (mOp dEqA (mCB bSortedA (mCons (mVar 0) mNil)) (mLstRg1 (mCB bLen (mCons (mVar 0) mNil)))))))
def m_f__law_power : List Cell → CR := callOf 5 (
  (mSeq (mSet 2 (mRep (mLst (mCons (mFrz (mC (.int 0))) mNil)) (mCB bLen (mCons (mVar 0) mNil))))
    (mSeq (mFor (mIt (mCall m_f__law_cycles 1 (mCons (mFrz (mVar 0)) mNil))) (gtN 3) (mFor (mRng1 (mCB bLen (mCons (mVar 3) mNil))) (gtN 4) (mStore 2 (mOp dIx (mVar 3) (mVar 4)) (mOp dIx (mVar 3) (mOp dMod (mCB bInt (mCons (mAddL (mVar 4) (mVar 1)) mNil)) (mCB bLen (mCons (mVar 3) mNil)))))))
    (mRet (mCB bTuple (mCons (mVar 2) mNil))))))
def m_f__law_near : List Cell → CR := callOf 6 (
  (mSeq (mSet 2 (mCB bLen (mCons (mVar 1) mNil)))
    (mSeq (mSet 3 (mLst (mCons (mFrz (mC .non)) (mCons (mFrz (mC (.int 5))) (mCons (mFrz (mC (.str "p"))) (mCons (mFrz (mLst mNil)) (mCons (mFrz (mCB bList (mCons (mVar 1) mNil))) (mCons (mFrz (mAddL (mVar 1) (mTup (mCons (mFrz (mVar 2)) mNil)))) (mCons (mFrz (mAddL (mVar 1) (mTup (mCons (mFrz (mAddL (mVar 2) (mC (.int 1)))) mNil)))) (mCons (mFrz (mIfE (mTst (mOp dGt (mVar 2) (mC (.int 0)))) (mAddL (mVar 1) (mTup (mCons (mFrz (mC (.int 0))) mNil))) (mTup (mCons (mFrz (mC (.int 1))) mNil)))) (mCons (mFrz (mAddL (mSl (mVar 1) (mO1 (mC (.int 1))) mO0) (mSl (mVar 1) mO0 (mO1 (mC (.int 1)))))) (mCons (mFrz (mSl (mVar 1) mO0 (mO1 (mUn dNeg (mC (.int 1)))))) (mCons (mFrz (mTup (mCons (mFrz (mC (.bl true))) mNil))) (mCons (mFrz (mTup (mCons (mFrz (mC (.bl true))) (mCons (mFrz (mC (.bl false))) mNil)))) (mCons (mFrz (mTup (mCons (mFrz (mC (.int 0))) (mCons (mFrz (mC (.bl true))) mNil)))) (mCons (mFrz (mTup (mCons (mFrz (mC (.str "0"))) mNil))) (mCons (mFrz (mTup (mCons (mFrz (mC .non)) mNil))) (mCons (mFrz (mTup (mCons (mFrz (mTup (mCons (mFrz (mC (.int 0))) mNil))) mNil))) (mCons (mFrz (mTup (mCons (mFrz (mUn dNeg (mC (.int 1)))) mNil))) (mCons (mFrz mDnew) mNil))))))))))))))))))))
    (mSeq (mFor (mRng1 (mC (.int 6))) (gtN 4) (mSeq (mSet 5 (mCall m_f__law_take 2 (mCons (mVar 0) (mCons (mFrz (mAddL (mVar 2) (mC (.int 1)))) mNil))))
    (mDrop (mApp 3 (mAddL (mAddL (mSl (mVar 1) mO0 (mO1 (mVar 5))) (mTup (mCons (mFrz (mOp dSub (mCall m_f__law_take 2 (mCons (mVar 0) (mCons (mFrz (mAddL (mVar 2) (mC (.int 2)))) mNil))) (mC (.int 1)))) mNil))) (mSl (mVar 1) (mO1 (mAddL (mVar 5) (mC (.int 1)))) mO0))))))
    (mRet (mVar 3))))))
def m_f_law (A : Adr) : List Cell → CR := callOf 16 (
  (mSeq (mSet 1 (mCall m_f__law_state 1 (mCons (mFrz (mVar 0)) mNil)))
    (mSeq (mSet 2 (mOp dIx (mLst (mCons (mFrz (mCall m_f__law_take 2 (mCons (mVar 1) (mCons (mFrz (mC (.int 7))) mNil)))) (mCons (mFrz (mCall m_f__law_take 2 (mCons (mVar 1) (mCons (mFrz (mC (.int 25))) mNil)))) (mCons (mFrz (mOp dSub (mC (.int 60)) (mCall m_f__law_take 2 (mCons (mVar 1) (mCons (mFrz (mC (.int 8))) mNil))))) mNil)))) (mCall m_f__law_take 2 (mCons (mVar 1) (mCons (mFrz (mC (.int 3))) mNil)))))
    (mSeq (mPar 8 9 (mCall m_f__law_drawn 2 (mCons (mVar 1) (mCons (mFrz (mVar 2)) mNil))) (mCall m_f__law_drawn 2 (mCons (mVar 1) (mCons (mFrz (mVar 2)) mNil))))
    (mSeq (mSet 3 (mTupRg1 (mVar 2)))
    (mSeq (mIfS (mOrT (mTst (mOp dNotB (mCall m_f_is_permutation 1 (mCons (mFrz (mVar 8)) mNil)) (mC (.bl true)))) (mOrT (mNotT (mTru (mCall m_f__law_is_told 2 (mCons (mFrz (mCall (m_f__law_told A) 2 (mCons (mFrz (mC (.ref A.f_product_of))) (mCons (mFrz (mTup (mCons (mFrz (mVar 8)) (mCons (mFrz (mVar 9)) mNil)))) mNil)))) (mCons (mFrz (mCall m_f__law_times 2 (mCons (mFrz (mVar 8)) (mCons (mFrz (mVar 9)) mNil)))) mNil))))) (mNotT (mTru (mCall m_f__law_is_told 2 (mCons (mFrz (mCall (m_f__law_told A) 2 (mCons (mFrz (mC (.ref A.f_inverse_of))) (mCons (mFrz (mTup (mCons (mFrz (mVar 8)) mNil))) mNil)))) (mCons (mFrz (mCall m_f__law_back 1 (mCons (mFrz (mVar 8)) mNil))) mNil))))))) (mRet (mC (.bl false))) mNext)
    (mSeq (mFor (mIt (mLst (mCons (mFrz (mC (.int 0))) (mCons (mFrz (mC (.int 1))) (mCons (mFrz (mUn dNeg (mC (.int 1)))) (mCons (mFrz (mC (.int 2))) (mCons (mFrz (mOp dSub (mCall m_f__law_take 2 (mCons (mVar 1) (mCons (mFrz (mC (.int 60))) mNil))) (mC (.int 30)))) (mCons (mFrz (mAddL (mOp dPow (mC (.int 10)) (mC (.int 40))) (mC (.int 7)))) (mCons (mFrz (mOp dSub (mUn dNeg (mOp dPow (mC (.int 10)) (mC (.int 20)))) (mCall m_f__law_take 2 (mCons (mVar 1) (mCons (mFrz (mC (.int 99))) mNil))))) mNil))))))))) (gtN 4) (mIfS (mNotT (mTru (mCall m_f__law_is_told 2 (mCons (mFrz (mCall (m_f__law_told A) 2 (mCons (mFrz (mC (.ref A.f_power_of))) (mCons (mFrz (mTup (mCons (mFrz (mVar 8)) (mCons (mFrz (mVar 4)) mNil)))) mNil)))) (mCons (mFrz (mCall m_f__law_power 2 (mCons (mFrz (mVar 8)) (mCons (mFrz (mVar 4)) mNil)))) mNil))))) (mRet (mC (.bl false))) mNext))
    (mSeq (mPar 10 11 (mLst mNil) (mVar 3))
    (mSeq (mFor (mRng1 (mCall m_f__law_take 2 (mCons (mVar 1) (mCons (mFrz (mC (.int 9))) mNil)))) (gtN 5) (mSeq (mDrop (mApp 10 (mCall m_f__law_drawn 2 (mCons (mVar 1) (mCons (mFrz (mVar 2)) mNil)))))
    (mSet 11 (mCall m_f__law_times 2 (mCons (mFrz (mVar 11)) (mCons (mFrz (mOp dIx (mVar 10) (mUn dNeg (mC (.int 1))))) mNil))))))
    (mSeq (mIfS (mOrT (mNotT (mTru (mCall m_f__law_is_told 2 (mCons (mFrz (mCall (m_f__law_told A) 2 (mCons (mFrz (mC (.ref A.f_product_row))) (mCons (mFrz (mTup (mCons (mFrz (mVar 10)) (mCons (mFrz (mVar 2)) mNil)))) mNil)))) (mCons (mFrz (mVar 11)) mNil))))) (mOrT (mNotT (mTru (mCall m_f__law_is_told 2 (mCons (mFrz (mCall (m_f__law_told A) 2 (mCons (mFrz (mC (.ref A.f_product_row))) (mCons (mFrz (mTup (mCons (mFrz (mCB bTuple (mCons (mVar 10) mNil))) (mCons (mFrz (mVar 2)) mNil)))) mNil)))) (mCons (mFrz (mVar 11)) mNil))))) (mNotT (mTru (mCall m_f__law_is_told 2 (mCons (mFrz (mCall (m_f__law_told A) 2 (mCons (mFrz (mC (.ref A.f_product_row))) (mCons (mFrz (mTup (mCons (mFrz (mTup mNil)) (mCons (mFrz (mVar 2)) mNil)))) mNil)))) (mCons (mFrz (mVar 3)) mNil))))))) (mRet (mC (.bl false))) mNext)
    (mSeq (mFor (mIt (mCall m_f__law_near 2 (mCons (mVar 1) (mCons (mFrz (mVar 8)) mNil)))) (gtN 6) (mSeq (mSet 11 (mCall m_f__law_is_perm 1 (mCons (mFrz (mVar 6)) mNil)))
    (mSeq (mIfS (mNotT (mTru (mCall (m_f__law_same 4) 2 (mCons (mFrz (mCall m_f_is_permutation 1 (mCons (mFrz (mVar 6)) mNil))) (mCons (mFrz (mVar 11)) mNil))))) (mRet (mC (.bl false))) mNext)
    (mSeq (mSet 12 (mAndV (mVar 11) (mOp dEqA (mCB bLen (mCons (mVar 6) mNil)) (mVar 2))))
    (mSeq (mFor (mIt (mLst (mCons (mFrz (mTup (mCons (mFrz (mC (.ref A.f_product_of))) (mCons (mFrz (mTup (mCons (mFrz (mVar 8)) (mCons (mFrz (mVar 6)) mNil)))) mNil)))) (mCons (mFrz (mTup (mCons (mFrz (mC (.ref A.f_product_of))) (mCons (mFrz (mTup (mCons (mFrz (mVar 6)) (mCons (mFrz (mVar 8)) mNil)))) mNil)))) (mCons (mFrz (mTup (mCons (mFrz (mC (.ref A.f_product_row))) (mCons (mFrz (mTup (mCons (mFrz (mLst (mCons (mFrz (mVar 8)) (mCons (mFrz (mVar 6)) mNil)))) (mCons (mFrz (mVar 2)) mNil)))) mNil)))) mNil))))) (gtTup 2 (gtCons (gtN 14) (gtCons (gtN 15) gtNil))) (mIfS (mOrT (mTst (mOp dNeA (mOp dEqA (mOp dIx (mCall (m_f__law_told A) 2 (mCons (mFrz (mVar 14)) (mCons (mFrz (mVar 15)) mNil))) (mC (.int 0))) (mC (.str "told"))) (mVar 12))) (mAndT (mNotT (mTru (mVar 12))) (mNotT (mTru (mCall m_f__law_is_raised 2 (mCons (mFrz (mCall (m_f__law_told A) 2 (mCons (mFrz (mVar 14)) (mCons (mFrz (mVar 15)) mNil)))) (mCons (mFrz (mC (.str "malformed"))) mNil))))))) (mRet (mC (.bl false))) mNext))
    (mIfS (mAndT (mNotT (mTru (mVar 11))) (mOrT (mNotT (mTru (mCall m_f__law_is_raised 2 (mCons (mFrz (mCall (m_f__law_told A) 2 (mCons (mFrz (mC (.ref A.f_inverse_of))) (mCons (mFrz (mTup (mCons (mFrz (mVar 6)) mNil))) mNil)))) (mCons (mFrz (mC (.str "malformed"))) mNil))))) (mNotT (mTru (mCall m_f__law_is_raised 2 (mCons (mFrz (mCall (m_f__law_told A) 2 (mCons (mFrz (mC (.ref A.f_power_of))) (mCons (mFrz (mTup (mCons (mFrz (mVar 6)) (mCons (mFrz (mC (.int 1))) mNil)))) mNil)))) (mCons (mFrz (mC (.str "malformed"))) mNil))))))) (mRet (mC (.bl false))) mNext))))))
    (mSeq (mFor (mIt (mLst (mCons (mFrz (mC .non)) (mCons (mFrz (mC (.bl true))) (mCons (mFrz (mC (.str "1"))) (mCons (mFrz (mTup (mCons (mFrz (mC (.int 1))) mNil))) mNil)))))) (gtN 7) (mIfS (mOrT (mNotT (mTru (mCall m_f__law_is_raised 2 (mCons (mFrz (mCall (m_f__law_told A) 2 (mCons (mFrz (mC (.ref A.f_power_of))) (mCons (mFrz (mTup (mCons (mFrz (mVar 8)) (mCons (mFrz (mVar 7)) mNil)))) mNil)))) (mCons (mFrz (mC (.str "malformed"))) mNil))))) (mNotT (mTru (mCall m_f__law_is_raised 2 (mCons (mFrz (mCall (m_f__law_told A) 2 (mCons (mFrz (mC (.ref A.f_product_row))) (mCons (mFrz (mTup (mCons (mFrz (mTup mNil)) (mCons (mFrz (mVar 7)) mNil)))) mNil)))) (mCons (mFrz (mC (.str "malformed"))) mNil)))))) (mRet (mC (.bl false))) mNext))
    (mSeq (mFor (mIt (mLst (mCons (mFrz (mTup (mCons (mFrz (mTup mNil)) (mCons (mFrz (mUn dNeg (mC (.int 1)))) mNil)))) (mCons (mFrz (mTup (mCons (mFrz (mTup mNil)) (mCons (mFrz (mC (.int 61))) mNil)))) (mCons (mFrz (mTup (mCons (mFrz (mC .non)) (mCons (mFrz (mVar 2)) mNil)))) (mCons (mFrz (mTup (mCons (mFrz (mC (.int 5))) (mCons (mFrz (mVar 2)) mNil)))) (mCons (mFrz (mTup (mCons (mFrz (mC (.str ""))) (mCons (mFrz (mVar 2)) mNil)))) (mCons (mFrz (mTup (mCons (mFrz (mTup (mCons (mFrz (mVar 8)) mNil))) (mCons (mFrz (mAddL (mVar 2) (mC (.int 1)))) mNil)))) mNil)))))))) (gtTup 2 (gtCons (gtN 6) (gtCons (gtN 13) gtNil))) (mIfS (mNotT (mTru (mCall m_f__law_is_raised 2 (mCons (mFrz (mCall (m_f__law_told A) 2 (mCons (mFrz (mC (.ref A.f_product_row))) (mCons (mFrz (mTup (mCons (mFrz (mVar 6)) (mCons (mFrz (mVar 13)) mNil)))) mNil)))) (mCons (mFrz (mC (.str "malformed"))) mNil))))) (mRet (mC (.bl false))) mNext))
    (mRet (mC (.bl true))))))))))))))))
structure TabOk (A : Adr) : Prop where
  ne_1_0 : A.f_product_row ≠ A.f_product_of
  ne_2_0 : A.f_inverse_of ≠ A.f_product_of
  ne_2_1 : A.f_inverse_of ≠ A.f_product_row
  ne_3_0 : A.f_power_of ≠ A.f_product_of
  ne_3_1 : A.f_power_of ≠ A.f_product_row
  ne_3_2 : A.f_power_of ≠ A.f_inverse_of
end K04
end

set_option Elab.async false
set_option linter.all false
set_option maxRecDepth 100000
set_option autoImplicit false
noncomputable section
namespace Lg
open PySem L2 Mi
/-! What the mathematics of a law needs, of no law's mirrors. -/
def pf (p : List Nat) (x : Nat) : Nat := p[x]?.getD 0
structure IsP (p : List Nat) : Prop where
  lt : ∀ x ∈ p, x < p.length
  nd : p.Nodup
theorem range_pf (p : List Nat) : (List.range p.length).map (pf p) = p := by
  apply List.ext_getElem
  · simp
  · intro i h1 h2
    simp [pf, h2]
theorem pf_lt {p : List Nat} (P : IsP p) {x : Nat} (h : x < p.length) : pf p x < p.length := by
  have : pf p x = p[x] := by simp [pf, h]
  rw [this]
  exact P.lt _ (List.getElem_mem h)
theorem pf_get {p : List Nat} {x : Nat} (h : x < p.length) : p[x]? = some (pf p x) := by simp [pf, h]
theorem pf_inj {p : List Nat} (P : IsP p) {x y : Nat} (hx : x < p.length) (hy : y < p.length) (e : pf p x = pf p y) : x = y := by
  have h1 : pf p x = p[x] := by simp [pf, hx]
  have h2 : pf p y = p[y] := by simp [pf, hy]
  rw [h1, h2] at e
  exact (List.getElem_inj P.nd).mp e
theorem sub_perm : ∀ {l m : List Nat}, l.Nodup → (∀ x ∈ l, x ∈ m) → ∃ r, (l ++ r).Perm m
  | [], m, _, _ => ⟨m, .refl _⟩
  | x :: l, m, nd, h => by
    have n := List.nodup_cons.mp nd
    obtain ⟨r, hr⟩ := sub_perm (l := l) (m := m.erase x) n.2 fun y hy => (List.mem_erase_of_ne (fun e : y = x => n.1 (e ▸ hy))).mpr (h y (List.mem_cons_of_mem _ hy))
    exact ⟨r, (hr.cons x).trans (List.perm_cons_erase (h x (by simp))).symm⟩
theorem sub_len {l m : List Nat} (nd : l.Nodup) (h : ∀ x ∈ l, x ∈ m) : l.length ≤ m.length := by
  obtain ⟨r, hr⟩ := sub_perm nd h
  have := hr.length_eq
  rw [List.length_append] at this
  omega
theorem perm_range {l : List Nat} {d : Nat} (nd : l.Nodup) (lt : ∀ x ∈ l, x < d) (len : d ≤ l.length) : l.Perm (List.range d) := by
  obtain ⟨r, hr⟩ := sub_perm nd fun x hx => List.mem_range.mpr (lt x hx)
  have := hr.length_eq
  rw [List.length_append, List.length_range] at this
  have e : r = [] := List.length_eq_zero_iff.mp (by omega)
  subst e
  simpa using hr
theorem IsP.perm {p : List Nat} (P : IsP p) : p.Perm (List.range p.length) := perm_range P.nd P.lt (Nat.le_refl _)
theorem mod2 (a b : Nat) (h : (a + b) % 2 = 0) : a % 2 = b % 2 := by omega
theorem whileM_mono {c : Rho → R Bool} {b : Rho → Out} : ∀ {n m : Nat} {ρ : Rho}, n ≤ m → whileM c b n ρ ≠ .stuck → whileM c b m ρ = whileM c b n ρ
  | 0, _, _, _, h => (h rfl).elim
  | n + 1, 0, _, h, _ => by omega
  | n + 1, m + 1, ρ, h, ne => by
    unfold whileM at ne ⊢
    cases q : c ρ with
    | stuck => rfl
    | exn x ρ1 => rfl
    | ok k ρ1 =>
      rw [q] at ne
      cases k with
      | false => rfl
      | true =>
        simp only [R.out] at ne ⊢
        cases q2 : b ρ1 with
        | nx ρ2 => rw [q2] at ne; exact whileM_mono (by omega) ne
        | ct ρ2 => rw [q2] at ne; exact whileM_mono (by omega) ne
        | bk ρ2 => rfl
        | rt e ρ2 => rfl
        | exn x ρ2 => rfl
        | stuck => rfl
theorem mWhile_eq {c : Rho → R Bool} {b : Rho → Out} {n : Nat} {ρ : Rho} (h : whileM c b n ρ ≠ .stuck) : mWhile c b ρ = whileM c b n ρ := by
  have ex : ∃ n, whileM c b n ρ ≠ .stuck := ⟨n, h⟩
  unfold mWhile
  rw [dif_pos ex]
  have h2 := Classical.choose_spec ex
  rcases Nat.le_total n (Classical.choose ex) with k | k
  · exact whileM_mono k h
  · exact (whileM_mono k h2).symm
theorem mWhile_ex {c : Rho → R Bool} {b : Rho → Out} {ρ : Rho} {o : Out} (h : mWhile c b ρ = o) (ne : o ≠ .stuck) : ∃ n, whileM c b n ρ = o := by
  unfold mWhile at h
  split at h
  · exact ⟨_, h⟩
  · exact (ne h.symm).elim
theorem while_stop {c : Rho → R Bool} {b : Rho → Out} {ρ ρ1 : Rho} (h : c ρ = .ok false ρ1) : mWhile c b ρ = .nx ρ1 := by
  have e : whileM c b 1 ρ = .nx ρ1 := by unfold whileM; rw [h]; rfl
  rw [mWhile_eq (n := 1) (by rw [e]; exact fun z => by cases z), e]
theorem while_go {c : Rho → R Bool} {b : Rho → Out} {ρ ρ1 ρ2 : Rho} {o : Out} (h : c ρ = .ok true ρ1) (hb : b ρ1 = .nx ρ2) (h2 : mWhile c b ρ2 = o) (ne : o ≠ .stuck) : mWhile c b ρ = o := by
  obtain ⟨n, hn⟩ := mWhile_ex h2 ne
  have e : whileM c b (n + 1) ρ = o := by
    unfold whileM
    rw [h]
    simp only [R.out, hb]
    exact hn
  rw [mWhile_eq (n := n + 1) (by rw [e]; exact ne), e]
def dI (n : Nat) : D := .int n
def row (l : List Nat) : D := .tup (l.map dI)
@[simp] theorem row_at {l : List Nat} {i : Nat} (h : i < l.length) : dIx (row l) (.int i) = some (.d (dI (l[i]'h))) := by
  simp [row, dIx, atI, ixN, h]
@[simp] theorem bind_ok {α β : Type} {a : α} {ρ : Rho} {f : α → Rho → R β} : (R.ok a ρ).bind f = f a ρ := rfl
@[simp] theorem out_ok {α : Type} {a : α} {ρ : Rho} {f : α → Rho → Out} : (R.ok a ρ).out f = f a ρ := rfl
@[simp] theorem of_some {α : Type} {a : α} {ρ : Rho} : R.of (some a) ρ = .ok a ρ := rfl
@[simp] theorem oof_some {ρ : Rho} : Out.of (some ρ) = .nx ρ := rfl
def atR (r : CR) (ρ : Rho) : R EV := match r with
  | .ok (.slot _) _ => .stuck
  | .ok e _ => .ok e ρ
  | .exn x => .exn x ρ
  | .stuck => .stuck
@[simp] theorem at_d {d : D} {o : List Cell} {ρ : Rho} : atR (.ok (.d d) o) ρ = .ok (.d d) ρ := rfl
@[simp] theorem at_n {d : Mo} {o : List Cell} {ρ : Rho} : atR (.ok (.new d) o) ρ = .ok (.new d) ρ := rfl
@[simp] theorem at_x {x : Exn} {ρ : Rho} : atR (.exn x) ρ = .exn x ρ := rfl
theorem wb_no {evs : List EV} {outs : List Cell} (h : ∀ j, slotPos j evs = none) (ρ : Rho) : wback evs outs ρ = ρ := by
  unfold wback
  apply List.ext_getElem?
  intro i
  rw [List.getElem?_mapIdx]
  cases ρ[i]? with
  | none => rfl
  | some c =>
    cases c with
    | no => rfl
    | val d => rfl
    | own b o => simp only [Option.map_some, wbCell, h]
theorem wb_one {j : Nat} {d : D} {b : Bool} {o o' : Mo} {c : Cell} {ρ : Rho} (h : ρ[j]? = some (.own b o)) : wback [.slot j, .d d] [.own true o', c] ρ = ρ.set j (.own b o') := by
  unfold wback
  apply List.ext_getElem?
  intro i
  rw [List.getElem?_mapIdx, get_set]
  have hj := (List.getElem?_eq_some_iff.mp h).1
  by_cases e : j = i
  · subst e
    rw [h, if_pos rfl, if_pos hj]
    simp [wbCell, slotPos]
  · rw [if_neg e]
    cases ρ[i]? with
    | none => rfl
    | some c =>
      cases c with
      | no => rfl
      | val d => rfl
      | own b o => simp [wbCell, slotPos, e]
theorem toR_no {r : CR} {evs : List EV} (h : ∀ j, slotPos j evs = none) (ρ : Rho) : r.toR evs ρ = atR r ρ := by
  cases r with
  | ok e o => cases e <;> simp only [CR.toR, atR, wb_no h]
  | exn x => rfl
  | stuck => rfl
theorem call1 {f : List Cell → CR} {m : Rho → R EV} {ρ ρ1 : Rho} {d : D} (h : mFrz m ρ = .ok (.d d) ρ1) : mCall f 1 (mCons (mFrz m) mNil) ρ = atR (f [.val d]) ρ1 := by
  simp only [mCall, mCons, h, mNil, bind_ok, callR, cellsOf, Mi.cellOf, Option.bind_some, slotsNd, List.length_singleton, decide_true, Bool.and_true, if_true]
  exact toR_no (fun j => rfl) _
theorem call2 {f : List Cell → CR} {m n : Rho → R EV} {ρ ρ1 ρ2 : Rho} {d e : D} (h : mFrz m ρ = .ok (.d d) ρ1) (h2 : mFrz n ρ1 = .ok (.d e) ρ2) : mCall f 2 (mCons (mFrz m) (mCons (mFrz n) mNil)) ρ = atR (f [.val d, .val e]) ρ2 := by
  simp only [mCall, mCons, h, h2, mNil, bind_ok, callR, cellsOf, Mi.cellOf, Option.bind_some, slotsNd, List.length_cons, List.length_nil, decide_true, Bool.and_true, if_true]
  exact toR_no (fun j => rfl) _
theorem callB {f : List Cell → CR} {m : Rho → R EV} {ρ : Rho} {j : Nat} {b : Bool} {o o' : Mo} {d : D} {e : D} {c : Cell} (hj : ρ[j]? = some (.own b o)) (h : mFrz m ρ = .ok (.d d) ρ) (hf : f [.own true o, .val d] = .ok (.d e) [.own true o', c]) :
    mCall f 2 (mCons (mVar j) (mCons (mFrz m) mNil)) ρ = .ok (.d e) (ρ.set j (.own b o')) := by
  have hv : mVar j ρ = .ok (.slot j) ρ := by simp only [mVar, hj]
  simp only [mCall, mCons, hv, h, mNil, bind_ok, callR, cellsOf, Mi.cellOf, hj, Option.bind_some, slotsNd, hasSlot, Bool.not_false, List.length_cons, List.length_nil, decide_true, Bool.and_true, if_true, hf, CR.toR, wb_one hj]
def stt (a b : Int) : Mo := .lst [.int a, .int b]
theorem seq_nx {m n : Rho → Out} {ρ ρ1 : Rho} (h : m ρ = .nx ρ1) : mSeq m n ρ = n ρ1 := by unfold mSeq; rw [h]
theorem seq_rt {m n : Rho → Out} {ρ ρ1 : Rho} {e : EV} (h : m ρ = .rt e ρ1) : mSeq m n ρ = .rt e ρ1 := by unfold mSeq; rw [h]
theorem seq_ex {m n : Rho → Out} {ρ ρ1 : Rho} {e : Exn} (h : m ρ = .exn e ρ1) : mSeq m n ρ = .exn e ρ1 := by unfold mSeq; rw [h]
theorem call_rt {n : Nat} {body : Rho → Out} {cs : List Cell} {e : EV} {ρ : Rho} (h : body (cs ++ List.replicate (n - cs.length) .no) = .rt e ρ) (he : ∀ i, e ≠ .slot i) : callOf n body cs = .ok e (keepB cs ρ) := by
  unfold callOf
  rw [h]
  cases e with
  | slot i => exact (he i rfl).elim
  | d d => rfl
  | new o => rfl
theorem call_nx {n : Nat} {body : Rho → Out} {cs : List Cell} {ρ : Rho} (h : body (cs ++ List.replicate (n - cs.length) .no) = .nx ρ) : callOf n body cs = .ok (.d .non) (keepB cs ρ) := by
  unfold callOf
  rw [h]
theorem call_ex {n : Nat} {body : Rho → Out} {cs : List Cell} {x : Exn} {ρ : Rho} (h : body (cs ++ List.replicate (n - cs.length) .no) = .exn x ρ) (k : noOwn cs = true) : callOf n body cs = .exn x := by
  unfold callOf
  rw [h]
  simp [k]
theorem rng_eq (n : Nat) : rngD 0 n = (List.range n).map dI := by
  unfold rngD dI
  simp
theorem er_map : ∀ (l : List Nat) (i : Nat), (l.map dI).eraseIdx i = (l.eraseIdx i).map dI
  | [], _ => rfl
  | _ :: _, 0 => rfl
  | x :: l, i + 1 => by
    show dI x :: (l.map dI).eraseIdx i = dI x :: (l.eraseIdx i).map dI
    rw [er_map l i]
theorem er_perm : ∀ (l : List Nat) (i : Nat) (h : i < l.length), (l[i] :: l.eraseIdx i).Perm l
  | x :: l, 0, _ => .refl _
  | x :: l, i + 1, h => by
    have h' : i < l.length := by simpa using h
    show (l[i] :: x :: l.eraseIdx i).Perm (x :: l)
    exact (List.Perm.swap x l[i] _).trans ((er_perm l i h').cons x)
theorem pop_eq {l : List Nat} {v : Int} (h0 : 0 ≤ v) (h1 : v < l.length) (h2 : l.length ≤ 1000) : ∃ h : v.toNat < l.length, popAt (l.map dI) v = some (dI (l[v.toNat]'h), (l.eraseIdx v.toNat).map dI) := by
  have h : v.toNat < l.length := by omega
  refine ⟨h, ?_⟩
  have e : PySem.seqIndex? v (l.map dI).length = some v.toNat := (ixN_seq (by unfold ixN; rw [List.length_map, if_pos h0, if_pos h1])).1
  unfold popAt
  rw [e]
  have c1 : -(2 ^ 63) ≤ v := by omega
  have c2 : v < 2 ^ 63 := by omega
  rw [decide_eq_true c1, decide_eq_true c2]
  simp [h, er_map, List.getElem?_map]
theorem isP_of {p : List Nat} {n : Nat} (h : p.Perm (List.range n)) : IsP p ∧ p.length = n := by
  have l : p.length = n := by rw [h.length_eq, List.length_range]
  exact ⟨⟨fun x hx => by rw [l]; exact List.mem_range.mp (h.mem_iff.mp hx), h.nodup_iff.mpr List.nodup_range⟩, l⟩
theorem frz_d {m : Rho → R EV} {ρ ρ1 : Rho} {d : D} (h : m ρ = .ok (.d d) ρ1) : mFrz m ρ = .ok (.d d) ρ1 := by
  unfold mFrz
  rw [h]; rfl
theorem app_nx {i : Nat} {m : Rho → R EV} {ρ ρ1 : Rho} {d : D} {b b0 : Bool} {xs ys : List D} (h0 : ρ[i]? = some (.own b0 (.lst ys))) (h : mFrz m ρ = .ok (.d d) ρ1) (h1 : ρ1[i]? = some (.own b (.lst xs))) (hl : xs.length ≤ 1000000) :
    mDrop (mApp i m) ρ = .nx (ρ1.set i (.own b (.lst (xs ++ [d])))) := by
  have o0 : ownL i ρ = some (b0, ys) := by unfold ownL; rw [h0]
  have o1 : ownL i ρ1 = some (b, xs) := by unfold ownL; rw [h1]
  unfold mDrop mApp
  simp [o0, h, o1, szOk, hl]
theorem pf_set {o : List Nat} {x v : Nat} (h : x < o.length) (y : Nat) : pf (o.set x v) y = if x = y then v else pf o y := by
  unfold pf
  rw [get_set]
  split
  · rw [if_pos (by omega)]; rfl
  · rfl
theorem isP_inj {o : List Nat} (lt : ∀ x, x < o.length → pf o x < o.length) (inj : ∀ x y, x < o.length → y < o.length → pf o x = pf o y → x = y) : IsP o := by
  refine ⟨fun x hx => ?_, ?_⟩
  · obtain ⟨i, hi, e⟩ := List.getElem_of_mem hx
    have := lt i hi
    rw [show pf o i = o[i] from by simp [pf, hi]] at this
    omega
  · rw [List.Nodup, List.pairwise_iff_getElem]
    intro i j hi hj hij e
    have := inj i j hi hj (by simp [pf, hi, hj, e])
    omega
theorem for_inv {mt : D → Rho → Option Rho} {b : Rho → Out} {n : Nat} {P : Nat → Rho → Prop} (h : ∀ i ρ, i < n → P i ρ → ∃ ρ1 ρ2, mt (dI i) ρ = some ρ1 ∧ b ρ1 = .nx ρ2 ∧ P (i + 1) ρ2) : ∀ (m s : Nat) (ρ : Rho), s + m = n → P s ρ → ∃ ρ', forL mt b ((List.range' s m).map dI) ρ = .nx ρ' ∧ P n ρ'
  | 0, s, ρ, e, p => ⟨ρ, rfl, by rw [← e]; exact p⟩
  | m + 1, s, ρ, e, p => by
    obtain ⟨ρ1, ρ2, h1, h2, h3⟩ := h s ρ (by omega) p
    obtain ⟨ρ', h4, h5⟩ := for_inv h m (s + 1) ρ2 (by omega) h3
    refine ⟨ρ', ?_, h5⟩
    rw [List.range'_succ, List.map_cons]
    unfold forL
    simp only [h1, h2]
    exact h4
theorem for_range {mt : D → Rho → Option Rho} {b : Rho → Out} {n : Nat} {P : Nat → Rho → Prop} (h : ∀ i ρ, i < n → P i ρ → ∃ ρ1 ρ2, mt (dI i) ρ = some ρ1 ∧ b ρ1 = .nx ρ2 ∧ P (i + 1) ρ2) {m : Rho → R EV} {ρ ρ1 : Rho} (hm : m ρ = .ok (.d (dI n)) ρ1) (hn : n ≤ 1000000) (p : P 0 ρ1) : ∃ ρ', mFor (mRng1 m) mt b ρ = .nx ρ' ∧ P n ρ' := by
  obtain ⟨ρ', h1, h2⟩ := for_inv h n 0 ρ1 (by omega) p
  refine ⟨ρ', ?_, h2⟩
  have c1 : (n : Int) ≤ 1000000 := by omega
  have c2 : (-1000000 : Int) ≤ n := by omega
  unfold mFor mRng1
  rw [hm]
  simp [dI, rngOk, c1, c2, rng_eq]
  rw [List.range_eq_range']
  exact h1
theorem dIx_row {r : List Nat} {z : Int} (i : Nat) (hz : z = i) (h : i < r.length) : dIx (row r) (.int z) = some (.d (dI (pf r i))) := by
  subst hz
  rw [row_at h]
  simp [pf, h]
theorem stAt_eq {o : List Nat} {x v : Nat} (h : x < o.length) : stAt (o.map dI) (x : Int) (dI v) = some ((o.set x v).map dI) := by
  unfold stAt ixN
  simp [h, List.map_set]
def Clear (c : Cell) : Prop := ∀ b o, c ≠ .own b o
theorem nil_ok (ρ : Rho) : mNil ρ = .ok [] ρ := rfl
theorem cons_ok {m : Rho → R EV} {mr : Rho → R (List EV)} {ρ ρ1 ρ2 : Rho} {e : EV} {es : List EV} (h : m ρ = .ok e ρ1) (h2 : mr ρ1 = .ok es ρ2) : mCons m mr ρ = .ok (e :: es) ρ2 := by
  unfold mCons
  rw [h, bind_ok, h2, bind_ok]
theorem cb_ok {f : List D → Option EV} {ma : Rho → R (List EV)} {ρ ρ1 : Rho} {es : List EV} {ds : List D} {ev : EV} (h : ma ρ = .ok es ρ1) (h1 : rds ρ1 es = some ds) (h2 : f ds = some ev) : mCB f ma ρ = .ok ev ρ1 := by
  unfold mCB
  rw [h, bind_ok, h1, Option.bind_some, h2, of_some]
theorem set_ok {i : Nat} {m : Rho → R EV} {ρ ρ1 : Rho} {e : EV} (h : m ρ = .ok e ρ1) : mSet i m ρ = Out.of (setC i e ρ1) := by
  unfold mSet
  rw [h, out_ok]
theorem op_ok {f : D → D → Option EV} {m n : Rho → R EV} {ρ ρ1 ρ2 : Rho} {e e' : EV} {x y : D} {ev : EV} (h : m ρ = .ok e ρ1) (h2 : n ρ1 = .ok e' ρ2) (h3 : rd ρ2 e = some x) (h4 : rd ρ2 e' = some y) (h5 : f x y = some ev) : mOp f m n ρ = .ok ev ρ2 := by
  unfold mOp
  rw [h, bind_ok, h2, bind_ok, h3, h4, Option.bind_some, Option.bind_some, h5, of_some]
theorem ret_ok {m : Rho → R EV} {ρ ρ1 : Rho} {d : D} (h : m ρ = .ok (.d d) ρ1) : mRet m ρ = .rt (.d d) ρ1 := by
  unfold mRet
  rw [h, out_ok]; rfl
theorem drop_ok {m : Rho → R EV} {ρ ρ1 : Rho} {e : EV} (h : m ρ = .ok e ρ1) : mDrop m ρ = .nx ρ1 := by
  unfold mDrop
  rw [h, out_ok]
theorem callB' {f : List Cell → CR} {m : Rho → R EV} {ρ ρ1 : Rho} {j : Nat} {b b1 : Bool} {o o1 o' : Mo} {d : D} {e : D} {c : Cell} (hj : ρ[j]? = some (.own b o)) (h : mFrz m ρ = .ok (.d d) ρ1) (hj1 : ρ1[j]? = some (.own b1 o1)) (hf : f [.own true o1, .val d] = .ok (.d e) [.own true o', c]) :
    mCall f 2 (mCons (mVar j) (mCons (mFrz m) mNil)) ρ = .ok (.d e) (ρ1.set j (.own b1 o')) := by
  have hv : mVar j ρ = .ok (.slot j) ρ := by simp only [mVar, hj]
  simp only [mCall, mCons, hv, h, mNil, bind_ok, callR, cellsOf, Mi.cellOf, hj1, Option.bind_some, slotsNd, hasSlot, Bool.not_false, List.length_cons, List.length_nil, decide_true, Bool.and_true, if_true, hf, CR.toR, wb_one hj1]
theorem set_no {ρ : Rho} {v : Nat} (h : ρ[v]? = some .no) (d : D) : (ρ.set v (.val d)).set v .no = ρ := by
  rw [List.set_set]
  apply List.ext_getElem?
  intro i
  rw [get_set]
  split
  · rename_i e; subst e
    rw [if_pos (List.getElem?_eq_some_iff.mp h).1, h]
  · rfl
theorem wipe1 (ρ : Rho) (v : Nat) : wipeR ρ [v] = ρ.set v .no := rfl
theorem lcL_ok {v : Nat} {tst : Rho → R Bool} {el : Rho → R EV} {ρ : Rho} {g : D → D} {t : D → Bool} (hv : ρ[v]? = some .no) : ∀ (ds acc : List D), acc.length + ds.length ≤ 1000000 →
    (∀ d ∈ ds, tst (ρ.set v (.val d)) = .ok (t d) (ρ.set v (.val d))) → (∀ d ∈ ds, t d = true → mFrz el (ρ.set v (.val d)) = .ok (.d (g d)) (ρ.set v (.val d))) →
    lcL [v] (gtN v) tst el ds acc ρ = .ok (acc ++ (ds.filter t).map g) ρ
  | [], acc, _, _, _ => by simp [lcL]
  | d :: ds, acc, hl, ht, he => by
    have hp : gtN v d ρ = some (ρ.set v (.val d)) := by unfold gtN putC; rw [hv]
    unfold lcL
    have hl' : acc.length ≤ 1000000 := by simp at hl; omega
    simp only [hp, ht d (by simp)]
    cases q : t d with
    | false =>
      simp only [wipe1, set_no hv]
      rw [lcL_ok hv ds acc (by simp at hl; omega) (fun x hx => ht x (List.mem_cons_of_mem _ hx)) (fun x hx => he x (List.mem_cons_of_mem _ hx))]
      simp [q]
    | true =>
      simp only [he d (by simp) q, szOk, decide_eq_true hl', if_true, wipe1, set_no hv]
      rw [lcL_ok hv ds (acc ++ [g d]) (by simp at hl ⊢; omega) (fun x hx => ht x (List.mem_cons_of_mem _ hx)) (fun x hx => he x (List.mem_cons_of_mem _ hx))]
      simp [q]
theorem lc_ok {v : Nat} {mi : Rho → R (List D)} {tst : Rho → R Bool} {el : Rho → R EV} {ρ0 ρ : Rho} {ds : List D} (g : D → D) (t : D → Bool) (hi : mi ρ0 = .ok ds ρ) (hv : ρ[v]? = some .no) (hl : ds.length ≤ 1000000)
    (ht : ∀ d ∈ ds, tst (ρ.set v (.val d)) = .ok (t d) (ρ.set v (.val d))) (he : ∀ d ∈ ds, t d = true → mFrz el (ρ.set v (.val d)) = .ok (.d (g d)) (ρ.set v (.val d))) :
    mLc mi [v] (gtN v) tst el ρ0 = .ok (.new (.lst ((ds.filter t).map g))) ρ := by
  unfold mLc
  have w : wipeOk ρ [v] = true := by simp [wipeOk, hv]
  have w2 : wipeR ρ [v] = ρ := by
    rw [wipe1]
    apply List.ext_getElem?
    intro i
    rw [get_set]
    split
    · rename_i e; subst e
      rw [if_pos (List.getElem?_eq_some_iff.mp hv).1, hv]
    · rfl
  rw [hi, bind_ok, if_pos w, w2, lcL_ok hv ds [] (by simpa using hl) ht he]
  rfl
theorem lc_map {v : Nat} {mi : Rho → R (List D)} {el : Rho → R EV} {ρ0 ρ : Rho} {ds : List D} (g : D → D) (hi : mi ρ0 = .ok ds ρ) (hv : ρ[v]? = some .no) (hl : ds.length ≤ 1000000)
    (he : ∀ d ∈ ds, mFrz el (ρ.set v (.val d)) = .ok (.d (g d)) (ρ.set v (.val d))) :
    mLc mi [v] (gtN v) mYes el ρ0 = .ok (.new (.lst (ds.map g))) ρ := by
  have := lc_ok (tst := mYes) g (fun _ => true) hi hv hl (fun d _ => rfl) (fun d hd _ => he d hd)
  rwa [show ds.filter (fun _ => true) = ds from by simp] at this
def marks (d : Nat) (L : List Nat) : List D := (List.range d).map fun i => D.bl (decide (i ∈ L))
theorem marks_len (d : Nat) (L : List Nat) : (marks d L).length = d := by simp [marks]
theorem marks_at {d k : Nat} (L : List Nat) (h : k < d) : dIx (.lst (marks d L)) (.int (k : Int)) = some (.d (.bl (decide (k ∈ L)))) := by
  have e : ixN (marks d L).length (k : Int) = some k := by
    unfold ixN
    rw [marks_len, if_pos (by omega), if_pos (by omega)]
    simp
  unfold dIx atI
  simp only [e, Option.bind_some]
  simp [marks, h]
theorem marks_set {d k : Nat} (L : List Nat) (h : k < d) : stAt (marks d L) (k : Int) (.bl true) = some (marks d (L ++ [k])) := by
  have e : ixN (marks d L).length (k : Int) = some k := by
    unfold ixN
    rw [marks_len, if_pos (by omega), if_pos (by omega)]
    simp
  unfold stAt
  rw [e]
  simp only [Option.map_some, Option.some.injEq]
  apply List.ext_getElem?
  intro i
  rw [get_set, marks_len]
  by_cases c : i < d
  · simp only [marks, List.getElem?_map, List.getElem?_range c, Option.map_some, List.mem_append, List.mem_singleton]
    split
    · rename_i e2; subst e2; simp [c]
    · rename_i e2
      have : ¬ i = k := fun z => e2 z.symm
      simp [this]
  · have n1 : (marks d L)[i]? = none := by simp [marks]; omega
    have n2 : (marks d (L ++ [k]))[i]? = none := by simp [marks]; omega
    rw [n1, n2]
    split <;> first | rfl | (rename_i e2; subst e2; rw [if_neg c])
theorem marks_nil (d : Nat) : (List.replicate d [D.bl false]).flatten = marks d [] := by
  unfold marks
  apply List.ext_getElem?
  intro i
  have : (List.replicate d [D.bl false]).flatten = List.replicate d (D.bl false) := by
    induction d with
    | zero => rfl
    | succ n ih => rw [List.replicate_succ, List.flatten_cons, ih, List.replicate_succ]; rfl
  rw [this]
  by_cases c : i < d
  · simp [c]
  · simp [c]
def Bad (d : Nat) (L : List Nat) : D → Prop
  | .int i => i < 0 ∨ (d : Int) ≤ i ∨ ∃ k : Nat, i = k ∧ k < d ∧ k ∈ L
  | .ref _ => False
  | _ => True
theorem forL_cons {mt : D → Rho → Option Rho} {b : Rho → Out} {d : D} {ds : List D} {ρ ρ1 ρ2 : Rho} (h : mt d ρ = some ρ1) (h2 : b ρ1 = .nx ρ2) : forL mt b (d :: ds) ρ = forL mt b ds ρ2 := by
  show (match mt d ρ with | none => Out.stuck | some ρ1 => match b ρ1 with | .nx ρ2 => forL mt b ds ρ2 | .ct ρ2 => forL mt b ds ρ2 | .bk ρ2 => .nx ρ2 | o => o) = _
  rw [h]
  simp only [h2]

end Lg
end

set_option Elab.async false
set_option linter.all false
set_option maxRecDepth 100000
set_option autoImplicit false
noncomputable section
namespace Lg
open PySem L2 Mi
/-! ### permutations of d sheets as a group -/
structure G (d : Nat) where
  l : List Nat
  p : IsP l
  n : l.length = d
theorem G.ext' {d : Nat} {g h : G d} (e : g.l = h.l) : g = h := by
  cases g; cases h; cases e; rfl
theorem G.lt {d : Nat} (g : G d) {x : Nat} (h : x < d) : pf g.l x < d := by
  have := pf_lt g.p (x := x) (by rw [g.n]; exact h)
  rwa [g.n] at this
theorem G.inj {d : Nat} (g : G d) {x y : Nat} (h : x < d) (h2 : y < d) (e : pf g.l x = pf g.l y) : x = y := pf_inj g.p (by rw [g.n]; exact h) (by rw [g.n]; exact h2) e
theorem G.ext_pf {d : Nat} {g h : G d} (e : ∀ x, x < d → pf g.l x = pf h.l x) : g = h := by
  apply G.ext'
  rw [← range_pf g.l, ← range_pf h.l, g.n, h.n]
  exact List.map_congr_left fun x hx => e x (List.mem_range.mp hx)
theorem pf_map {d : Nat} (f : Nat → Nat) {x : Nat} (h : x < d) : pf ((List.range d).map f) x = f x := by
  simp [pf, h]
theorem isP_fn {d : Nat} {f : Nat → Nat} (lt : ∀ x, x < d → f x < d) (inj : ∀ x y, x < d → y < d → f x = f y → x = y) : IsP ((List.range d).map f) := by
  have len : ((List.range d).map f).length = d := by simp
  refine isP_inj (fun x hx => ?_) (fun x y hx hy e => ?_)
  · rw [len] at hx ⊢; rw [pf_map f hx]; exact lt x hx
  · rw [len] at hx hy; rw [pf_map f hx, pf_map f hy] at e; exact inj x y hx hy e
def G.of {d : Nat} (f : Nat → Nat) (lt : ∀ x, x < d → f x < d) (inj : ∀ x y, x < d → y < d → f x = f y → x = y) : G d := ⟨(List.range d).map f, isP_fn lt inj, by simp⟩
theorem G.of_pf {d : Nat} {f : Nat → Nat} {lt : ∀ x, x < d → f x < d} {inj : ∀ x y, x < d → y < d → f x = f y → x = y} {x : Nat} (h : x < d) : pf (G.of f lt inj).l x = f x := pf_map f h
def G.one (d : Nat) : G d := G.of (fun x => x) (fun _ h => h) (fun _ _ _ _ e => e)
def G.mul {d : Nat} (g h : G d) : G d := G.of (fun x => pf h.l (pf g.l x)) (fun _ k => h.lt (g.lt k)) (fun _ _ k k2 e => g.inj k k2 (h.inj (g.lt k) (g.lt k2) e))
def invF {d : Nat} (g : G d) (y : Nat) : Nat := ((List.range d).find? fun x => decide (pf g.l x = y)).getD 0
theorem G.sur {d : Nat} (g : G d) {y : Nat} (h : y < d) : ∃ x, x < d ∧ pf g.l x = y := by
  have : y ∈ g.l := g.p.perm.mem_iff.mpr (List.mem_range.mpr (by rw [g.n]; exact h))
  obtain ⟨i, hi, e⟩ := List.getElem_of_mem this
  exact ⟨i, by rw [← g.n]; exact hi, by simp [pf, hi, e]⟩
theorem invF_pf {d : Nat} (g : G d) {x : Nat} (h : x < d) : invF g (pf g.l x) = x := by
  unfold invF
  cases q : (List.range d).find? fun z => decide (pf g.l z = pf g.l x) with
  | none => 
    have := List.find?_eq_none.mp q x (List.mem_range.mpr h)
    simp at this
  | some z =>
    have e := List.find?_some q
    have m := List.mem_range.mp (List.mem_of_find?_eq_some q)
    exact g.inj m h (by simpa using e)
theorem invF_lt {d : Nat} (g : G d) {y : Nat} (h : y < d) : invF g y < d := by
  obtain ⟨x, hx, e⟩ := g.sur h
  rw [← e, invF_pf g hx]; exact hx
theorem pf_invF {d : Nat} (g : G d) {y : Nat} (h : y < d) : pf g.l (invF g y) = y := by
  obtain ⟨x, hx, e⟩ := g.sur h
  rw [← e, invF_pf g hx]
def G.inv {d : Nat} (g : G d) : G d := G.of (invF g) (fun _ h => invF_lt g h) (fun x y h h2 e => by rw [← pf_invF g h, e, pf_invF g h2])
theorem one_pf {d x : Nat} (h : x < d) : pf (G.one d).l x = x := G.of_pf h
theorem mul_pf {d x : Nat} (g k : G d) (h : x < d) : pf (g.mul k).l x = pf k.l (pf g.l x) := G.of_pf h
theorem inv_pf {d x : Nat} (g : G d) (h : x < d) : pf g.inv.l (pf g.l x) = x := by rw [show pf g.inv.l (pf g.l x) = invF g (pf g.l x) from G.of_pf (g.lt h), invF_pf g h]
theorem pf_inv {d x : Nat} (g : G d) (h : x < d) : pf g.l (pf g.inv.l x) = x := by rw [show pf g.inv.l x = invF g x from G.of_pf h, pf_invF g h]
theorem mul_l {d : Nat} (g h : G d) : (g.mul h).l = g.l.map (pf h.l) := by
  have e : (List.range d).map (pf g.l) = g.l := by
    have := range_pf g.l
    rwa [g.n] at this
  show (List.range d).map (fun x => pf h.l (pf g.l x)) = _
  rw [← e, List.map_map, e]; rfl
theorem assoc {d : Nat} (a b c : G d) : (a.mul b).mul c = a.mul (b.mul c) := G.ext_pf fun x h => by
  rw [mul_pf _ _ h, mul_pf _ _ h, mul_pf _ _ h, mul_pf _ _ (a.lt h)]
theorem one_mul {d : Nat} (a : G d) : (G.one d).mul a = a := G.ext_pf fun x h => by rw [mul_pf _ _ h, one_pf h]
theorem mul_one {d : Nat} (a : G d) : a.mul (G.one d) = a := G.ext_pf fun x h => by rw [mul_pf _ _ h, one_pf (a.lt h)]
theorem inv_mul {d : Nat} (a : G d) : a.inv.mul a = G.one d := G.ext_pf fun x h => by rw [mul_pf _ _ h, one_pf h, pf_inv a h]
theorem mul_inv {d : Nat} (a : G d) : a.mul a.inv = G.one d := G.ext_pf fun x h => by rw [mul_pf _ _ h, one_pf h, inv_pf a h]
theorem inv_mul' {d : Nat} (a b : G d) : a.inv.mul (a.mul b) = b := by rw [← assoc, inv_mul, one_mul]
theorem mul_inv' {d : Nat} (a b : G d) : a.mul (a.inv.mul b) = b := by rw [← assoc, mul_inv, one_mul]
theorem cancel {d : Nat} {a b c : G d} (h : a.mul b = a.mul c) : b = c := by rw [← inv_mul' a b, h, inv_mul']
theorem inv_inv {d : Nat} (a : G d) : a.inv.inv = a := cancel (a := a.inv) (by rw [mul_inv, inv_mul])
theorem inv_of_mul {d : Nat} (a b : G d) : (a.mul b).inv = b.inv.mul a.inv := cancel (a := a.mul b) (by rw [mul_inv, assoc, mul_inv', mul_inv])
/-- q⁻¹pq -/
def cj {d : Nat} (p q : G d) : G d := (q.inv.mul p).mul q
/-- pqp⁻¹ -/
def cn {d : Nat} (p q : G d) : G d := (p.mul q).mul p.inv
theorem cj_pf {d x : Nat} (p q : G d) (h : x < d) : pf (cj p q).l (pf q.l x) = pf q.l (pf p.l x) := by
  unfold cj
  rw [mul_pf _ _ (q.lt h), mul_pf _ _ (q.lt h), inv_pf q h]
theorem cn_cj {d : Nat} (p q : G d) : cn p q = cj q p.inv := by unfold cn cj; rw [inv_inv]
theorem cn_back {d : Nat} (p q : G d) : cn q (cj p q) = p := by
  unfold cn cj
  rw [assoc, assoc, assoc, mul_inv', mul_inv, mul_one]
theorem cj_back {d : Nat} (p q : G d) : cj (cn p q) p = q := by
  unfold cn cj
  rw [assoc, assoc, assoc, inv_mul, mul_one, inv_mul']
theorem cj_mul {d : Nat} (a b c : G d) : cj (cj a b) c = cj a (b.mul c) := by
  unfold cj
  simp only [assoc, inv_of_mul]
theorem cj_braid {d : Nat} (a b c : G d) : cj (cj a c) (cj b c) = cj (cj a b) c := by
  rw [cj_mul, cj_mul]
  congr 1
  unfold cj
  simp only [assoc, mul_inv']
theorem cj_self {d : Nat} (x y : G d) : cj x (x.mul y) = cj x y := by
  unfold cj
  simp only [assoc, inv_of_mul, inv_mul']
/-! ### moves of rows -/
def mP {d : Nat} : Nat → List (G d) → List (G d)
  | 0, p :: q :: B => q :: cj p q :: B
  | k + 1, x :: B => x :: mP k B
  | 0, [x] => [x]
  | _, [] => []
def mN {d : Nat} : Nat → List (G d) → List (G d)
  | 0, p :: q :: B => cn p q :: p :: B
  | k + 1, x :: B => x :: mN k B
  | 0, [x] => [x]
  | _, [] => []
theorem mP_nil {d : Nat} (k : Nat) : mP (d := d) k [] = [] := by cases k <;> rfl
theorem mN_nil {d : Nat} (k : Nat) : mN (d := d) k [] = [] := by cases k <;> rfl
theorem mP_len {d : Nat} : ∀ (k : Nat) (xs : List (G d)), (mP k xs).length = xs.length
  | 0, [] => rfl
  | 0, [x] => rfl
  | 0, p :: q :: B => rfl
  | k + 1, [] => rfl
  | k + 1, x :: B => by rw [mP, List.length_cons, mP_len k B, List.length_cons]
theorem mN_len {d : Nat} : ∀ (k : Nat) (xs : List (G d)), (mN k xs).length = xs.length
  | 0, [] => rfl
  | 0, [x] => rfl
  | 0, p :: q :: B => rfl
  | k + 1, [] => rfl
  | k + 1, x :: B => by rw [mN, List.length_cons, mN_len k B, List.length_cons]
theorem NP {d : Nat} : ∀ (k : Nat) (xs : List (G d)), mN k (mP k xs) = xs
  | 0, [] => rfl
  | 0, [x] => rfl
  | 0, p :: q :: B => by simp only [mP, mN, cn_back]
  | k + 1, [] => rfl
  | k + 1, x :: B => by simp only [mP, mN, NP k B]
theorem PN {d : Nat} : ∀ (k : Nat) (xs : List (G d)), mP k (mN k xs) = xs
  | 0, [] => rfl
  | 0, [x] => rfl
  | 0, p :: q :: B => by simp only [mP, mN, cj_back]
  | k + 1, [] => rfl
  | k + 1, x :: B => by simp only [mP, mN, PN k B]
theorem far {d : Nat} : ∀ (k j : Nat) (xs : List (G d)), k + 2 ≤ j → mP k (mP j xs) = mP j (mP k xs)
  | _, _, [], _ => by simp only [mP_nil]
  | 0, j + 1, [x], _ => by simp only [mP, mP_nil]
  | 0, j + 2, p :: q :: B, _ => by simp only [mP]
  | 0, 0, x :: B, h => by omega
  | 0, 1, x :: B, h => by omega
  | k + 1, 0, x :: B, h => by omega
  | k + 1, j + 1, x :: B, h => by simp only [mP, far k j B (by omega)]
theorem braid {d : Nat} : ∀ (k : Nat) (xs : List (G d)), k + 3 ≤ xs.length → mP k (mP (k + 1) (mP k xs)) = mP (k + 1) (mP k (mP (k + 1) xs))
  | 0, a :: b :: c :: B, _ => by simp only [mP, cj_braid]
  | 0, [], h => by simp at h
  | 0, [_], h => by simp at h
  | 0, [_, _], h => by simp at h
  | k + 1, [], h => by simp at h
  | k + 1, x :: B, h => by
    have := braid k B (by simp at h; omega)
    simp only [mP] at this ⊢
    rw [this]
theorem mP_at {d : Nat} : ∀ (A : List (G d)) (p q : G d) (B : List (G d)), mP A.length (A ++ p :: q :: B) = A ++ q :: cj p q :: B
  | [], _, _, _ => rfl
  | x :: A, p, q, B => by
    show x :: mP A.length (A ++ p :: q :: B) = _
    rw [mP_at A p q B]; rfl
theorem mN_at {d : Nat} : ∀ (A : List (G d)) (p q : G d) (B : List (G d)), mN A.length (A ++ p :: q :: B) = A ++ cn p q :: p :: B
  | [], _, _, _ => rfl
  | x :: A, p, q, B => by
    show x :: mN A.length (A ++ p :: q :: B) = _
    rw [mN_at A p q B]; rfl
theorem split2 {α : Type} {k : Nat} {xs : List α} (h : k + 1 < xs.length) : ∃ p q, xs[k]? = some p ∧ xs[k + 1]? = some q ∧ xs = xs.take k ++ p :: q :: xs.drop (k + 2) ∧ (xs.take k).length = k := by
  refine ⟨xs[k], xs[k + 1], by simp, by simp, ?_, by simp; omega⟩
  rw [List.getElem_cons_drop, List.getElem_cons_drop, List.take_append_drop]
def mv {d : Nat} (i : Int) (xs : List (G d)) : List (G d) := if 0 < i then mP (i.natAbs - 1) xs else mN (i.natAbs - 1) xs
def mvs {d : Nat} (w : List Int) (xs : List (G d)) : List (G d) := w.foldl (fun xs i => mv i xs) xs
theorem mv_len {d : Nat} (i : Int) (xs : List (G d)) : (mv i xs).length = xs.length := by
  unfold mv; split
  · exact mP_len _ _
  · exact mN_len _ _
theorem mvs_len {d : Nat} : ∀ (w : List Int) (xs : List (G d)), (mvs w xs).length = xs.length
  | [], _ => rfl
  | i :: w, xs => by rw [mvs, List.foldl_cons]; exact (mvs_len w _).trans (mv_len i xs)
theorem mvs_app {d : Nat} (u w : List Int) (xs : List (G d)) : mvs (u ++ w) xs = mvs w (mvs u xs) := List.foldl_append
theorem mv_pos {d k : Nat} (xs : List (G d)) : mv ((k : Int) + 1) xs = mP k xs := by
  unfold mv
  rw [if_pos (by omega), show ((k : Int) + 1).natAbs - 1 = k from by omega]
theorem mv_neg {d k : Nat} (xs : List (G d)) : mv (-((k : Int) + 1)) xs = mN k xs := by
  unfold mv
  rw [if_neg (by omega), show (-((k : Int) + 1)).natAbs - 1 = k from by omega]
/-! ### full turns -/
def prod {d : Nat} (xs : List (G d)) : G d := xs.foldr (fun x y => x.mul y) (G.one d)
theorem prod_cons {d : Nat} (x : G d) (L : List (G d)) : prod (x :: L) = x.mul (prod L) := rfl
theorem prod_app {d : Nat} : ∀ A B : List (G d), prod (A ++ B) = (prod A).mul (prod B)
  | [], B => (one_mul _).symm
  | x :: A, B => by rw [List.cons_append, prod_cons, prod_app A B, prod_cons, assoc]
theorem foldl_prod {d : Nat} : ∀ (L : List (G d)) (a : G d), L.foldl (fun x y => x.mul y) a = a.mul (prod L)
  | [], a => (mul_one a).symm
  | x :: L, a => by rw [List.foldl_cons, foldl_prod L, prod_cons, assoc]
def steps (s n : Nat) : List Int := (List.range' s n).map fun i : Nat => (i : Int)
theorem sweep {d : Nat} : ∀ (L A : List (G d)) (x : G d), mvs (steps (A.length + 1) L.length) (A ++ x :: L) = A ++ (L ++ [cj x (prod L)])
  | [], A, x => by
    have : cj x (prod []) = x := by unfold cj prod; rw [List.foldr_nil, mul_one, show (G.one d).inv = G.one d from cancel (a := G.one d) (by rw [mul_inv, one_mul]), one_mul]
    rw [this]; rfl
  | l :: L, A, x => by
    have e : steps (A.length + 1) (l :: L).length = ((A.length : Int) + 1) :: steps ((A ++ [l]).length + 1) L.length := by
      unfold steps
      rw [List.length_cons, List.range'_succ, List.map_cons, List.length_append]
      rfl
    have e2 := sweep L (A ++ [l]) (cj x l)
    rw [e, mvs, List.foldl_cons, mv_pos, mP_at]
    rw [List.append_assoc, List.singleton_append] at e2
    refine e2.trans ?_
    rw [cj_mul, prod_cons, List.append_assoc]
    rfl
theorem round {d : Nat} (x : G d) (L : List (G d)) : mvs (steps 1 L.length) (x :: L) = L ++ [cj x (prod (x :: L))] := by
  have := sweep L [] x
  rw [prod_cons, cj_self]
  exact this
theorem round_prod {d : Nat} (x : G d) (L : List (G d)) : prod (L ++ [cj x (prod (x :: L))]) = prod (x :: L) := by
  rw [prod_cons, cj_self, prod_app]
  show (prod L).mul ((cj x (prod L)).mul (G.one d)) = _
  rw [mul_one]
  unfold cj
  simp only [assoc, mul_inv']
theorem turns {d : Nat} (c : G d) (m : Nat) : ∀ (A B : List (G d)), (A ++ B).length = m + 1 → prod (A ++ B) = c → mvs (List.replicate A.length (steps 1 m)).flatten (A ++ B) = B ++ A.map fun x => cj x c
  | [], B, _, _ => by simp [mvs]
  | x :: A, B, h, e => by
    rw [List.length_cons, List.replicate_succ, List.flatten_cons, mvs_app]
    have h1 : (A ++ B).length = m := by simpa using h
    rw [List.cons_append] at e ⊢
    have r := round x (A ++ B)
    rw [h1, e] at r
    rw [r, List.append_assoc]
    have p := round_prod x (A ++ B)
    rw [e, List.append_assoc] at p
    rw [turns c m A (B ++ [cj x c]) (by simp at h ⊢; omega) p]
    simp
theorem full_turn {d : Nat} (xs : List (G d)) (h : 0 < xs.length) : mvs (List.replicate xs.length (steps 1 (xs.length - 1))).flatten xs = xs.map fun x => cj x (prod xs) := by
  have := turns (prod xs) (xs.length - 1) xs [] (by simp; omega) (by rw [List.append_nil])
  rwa [List.append_nil, List.nil_append] at this
theorem there_back {d : Nat} (xs : List (G d)) : ∀ n : Nat, mvs (List.replicate n [(1 : Int), -1]).flatten xs = xs
  | 0 => rfl
  | n + 1 => by
    rw [List.replicate_succ, List.flatten_cons, mvs_app]
    have : mvs [(1 : Int), -1] xs = xs := by
      show mv (-1) (mv 1 xs) = xs
      exact NP 0 xs
    rw [this, there_back xs n]
end Lg
end

set_option Elab.async false
set_option linter.all false
set_option maxRecDepth 100000
set_option autoImplicit false
noncomputable section
namespace Lg
open PySem L2 Mi
/-! ### data that == serves -/
def Pl (n : Nat) (d : D) : Prop := ∃ e, pyD d = some e ∧ e.canLay0 = true ∧ e.depth ≤ n
theorem Pl.le {n m : Nat} {d : D} (h : Pl n d) (k : n ≤ m) : Pl m d := by
  obtain ⟨e, h1, h2, h3⟩ := h
  exact ⟨e, h1, h2, Nat.le_trans h3 k⟩
theorem pl_int (n : Nat) (i : Int) : Pl n (.int i) := ⟨.int i, by simp [pyD], by simp [PyData.canLay0], by simp [PyData.depth]⟩
theorem pl_bl (n : Nat) (i : Bool) : Pl n (.bl i) := ⟨.bool i, by simp [pyD], by simp [PyData.canLay0], by simp [PyData.depth]⟩
theorem pl_non (n : Nat) : Pl n .non := ⟨.none, by simp [pyD], by simp [PyData.canLay0], by simp [PyData.depth]⟩
theorem pl_str (n : Nat) {x : Str} (h : (PyData.str x).canLay0 = true) : Pl n (.str x) := ⟨.str x, by simp [pyD], h, by simp [PyData.depth]⟩
theorem pl_all {n : Nat} : ∀ {ds : List D}, (∀ d ∈ ds, Pl n d) → ∃ es, pyDs ds = some es ∧ PyData.canLayAll0 es = true ∧ PyData.depthAll es ≤ n
  | [], _ => ⟨[], by simp [pyDs], by simp [PyData.canLayAll0], by simp [PyData.depthAll]⟩
  | d :: ds, h => by
    obtain ⟨e, h1, h2, h3⟩ := h d (by simp)
    obtain ⟨es, k1, k2, k3⟩ := pl_all (ds := ds) fun x hx => h x (List.mem_cons_of_mem _ hx)
    refine ⟨e :: es, by simp [pyDs, h1, k1], by simp [PyData.canLayAll0, h2, k2], ?_⟩
    simp only [PyData.depthAll]
    omega
theorem pl_tup {n : Nat} {ds : List D} (h : ∀ d ∈ ds, Pl n d) : Pl (n + 1) (.tup ds) := by
  obtain ⟨es, k1, k2, k3⟩ := pl_all h
  exact ⟨.tuple es, by simp [pyD, k1], by simp [PyData.canLay0, k2], by simp only [PyData.depth]; omega⟩
theorem pl_lst {n : Nat} {ds : List D} (h : ∀ d ∈ ds, Pl n d) : Pl (n + 1) (.lst ds) := by
  obtain ⟨es, k1, k2, k3⟩ := pl_all h
  exact ⟨.list es, by simp [pyD, k1], by simp [PyData.canLay0, k2], by simp only [PyData.depth]; omega⟩
theorem eqN_self {n : Nat} {d : D} (h : Pl n d) (k : n ≤ 64) : eqN d d = some true := by
  obtain ⟨e, h1, h2, h3⟩ := h
  unfold eqN
  have s : SeqAt.shaped e = true := by
    unfold SeqAt.shaped
    rw [h2, decide_eq_true (Nat.le_trans h3 k)]; rfl
  rw [h1, Option.bind_some, Option.bind_some, s]
  simp [SeqAt.eqv_refl_plain e (PyData.plain_of_canLay0 e h2)]
theorem eqA_self {n : Nat} {d : D} (h : Pl n d) (k : n ≤ 64) : dEqA d d = some (.d (.bl true)) := by
  have := eqN_self h k
  unfold dEqA
  cases d <;> simp [dEq, eqD, this]
theorem neA_self {n : Nat} {d : D} (h : Pl n d) (k : n ≤ 64) : dNeA d d = some (.d (.bl false)) := by
  have := eqN_self h k
  unfold dNeA
  cases d <;> simp [dNe, eqD, this]
/-! ### expressions that leave the cells as they are -/
def Ev (m : Rho → R EV) (ρ : Rho) (d : D) : Prop := m ρ = .ok (.d d) ρ
def EvT (m : Rho → R Bool) (ρ : Rho) (b : Bool) : Prop := m ρ = .ok b ρ
section
variable {m m1 m2 m3 : Rho → R EV} {t t1 t2 : Rho → R Bool} {ρ : Rho} {d d1 d2 d3 : D} {b b1 b2 : Bool}
theorem ev_var {i : Nat} (h : ρ[i]? = some (.val d)) : Ev (mVar i) ρ d := by unfold Ev mVar; rw [h]
theorem ev_c : Ev (mC d) ρ d := rfl
theorem ev_frz (h : Ev m ρ d) : Ev (mFrz m) ρ d := frz_d h
theorem toR_3 {r : CR} {x y z : D} (ρ : Rho) : r.toR [.d x, .d y, .d z] ρ = atR r ρ := toR_no (fun j => rfl) ρ
theorem call3 {f : List Cell → CR} (h1 : Ev m1 ρ d1) (h2 : Ev m2 ρ d2) (h3 : Ev m3 ρ d3) : mCall f 3 (mCons (mFrz m1) (mCons (mFrz m2) (mCons (mFrz m3) mNil))) ρ = atR (f [.val d1, .val d2, .val d3]) ρ := by
  have k1 : mFrz m1 ρ = .ok (.d d1) ρ := ev_frz h1
  have k2 : mFrz m2 ρ = .ok (.d d2) ρ := ev_frz h2
  have k3 : mFrz m3 ρ = .ok (.d d3) ρ := ev_frz h3
  simp only [mCall, mCons, k1, k2, k3, mNil, bind_ok, callR, cellsOf, Mi.cellOf, Option.bind_some, slotsNd, List.length_cons, List.length_nil, decide_true, Bool.and_true, if_true]
  exact toR_3 _
theorem ev_call1 {f : List Cell → CR} {o : List Cell} (h1 : Ev m1 ρ d1) (h : f [.val d1] = .ok (.d d) o) : Ev (mCall f 1 (mCons (mFrz m1) mNil)) ρ d := by
  unfold Ev
  rw [call1 (ev_frz h1), h]; rfl
theorem ev_call2 {f : List Cell → CR} {o : List Cell} (h1 : Ev m1 ρ d1) (h2 : Ev m2 ρ d2) (h : f [.val d1, .val d2] = .ok (.d d) o) : Ev (mCall f 2 (mCons (mFrz m1) (mCons (mFrz m2) mNil))) ρ d := by
  unfold Ev
  rw [call2 (ev_frz h1) (ev_frz h2), h]; rfl
theorem ev_call3 {f : List Cell → CR} {o : List Cell} (h1 : Ev m1 ρ d1) (h2 : Ev m2 ρ d2) (h3 : Ev m3 ρ d3) (h : f [.val d1, .val d2, .val d3] = .ok (.d d) o) : Ev (mCall f 3 (mCons (mFrz m1) (mCons (mFrz m2) (mCons (mFrz m3) mNil)))) ρ d := by
  unfold Ev
  rw [call3 h1 h2 h3, h]; rfl
theorem ev_op {f : D → D → Option EV} (h1 : Ev m1 ρ d1) (h2 : Ev m2 ρ d2) (h : f d1 d2 = some (.d d)) : Ev (mOp f m1 m2) ρ d := op_ok h1 h2 rfl rfl h
theorem ev_un {f : D → Option EV} (h1 : Ev m1 ρ d1) (h : f d1 = some (.d d)) : Ev (mUn f m1) ρ d := by
  unfold Ev mUn
  rw [show m1 ρ = .ok (.d d1) ρ from h1, bind_ok]
  simp [rd, h]
theorem ev_add (h1 : Ev m1 ρ d1) (h2 : Ev m2 ρ d2) (h : dAdd d1 d2 = some (.d d)) : Ev (mAddL m1 m2) ρ d := by
  unfold Ev mAddL
  rw [show m1 ρ = .ok (.d d1) ρ from h1, bind_ok, show m2 ρ = .ok (.d d2) ρ from h2, bind_ok]
  simp [evL, rd, h]
theorem ev_addi {i j : Int} (h1 : Ev m1 ρ (.int i)) (h2 : Ev m2 ρ (.int j)) : Ev (mAddL m1 m2) ρ (.int (i + j)) := ev_add h1 h2 rfl
theorem ev_cat {xs ys : List D} (h1 : Ev m1 ρ (.tup xs)) (h2 : Ev m2 ρ (.tup ys)) (h : xs.length + ys.length ≤ 1000000) : Ev (mAddL m1 m2) ρ (.tup (xs ++ ys)) := ev_add h1 h2 (by simp [dAdd, szOk, h])
theorem ev_cb1 {f : List D → Option EV} (h1 : Ev m1 ρ d1) (h : f [d1] = some (.d d)) : Ev (mCB f (mCons m1 mNil)) ρ d := cb_ok (cons_ok h1 (nil_ok _)) rfl h
theorem ev_tup0 : Ev (mTup mNil) ρ (.tup []) := rfl
theorem ev_tup1 (h1 : Ev m1 ρ d1) : Ev (mTup (mCons (mFrz m1) mNil)) ρ (.tup [d1]) := by
  unfold Ev mTup
  rw [cons_ok (ev_frz h1) (nil_ok _)]; rfl
theorem ev_tup2 (h1 : Ev m1 ρ d1) (h2 : Ev m2 ρ d2) : Ev (mTup (mCons (mFrz m1) (mCons (mFrz m2) mNil))) ρ (.tup [d1, d2]) := by
  unfold Ev mTup
  rw [cons_ok (ev_frz h1) (cons_ok (ev_frz h2) (nil_ok _))]; rfl
theorem ev_tup3 (h1 : Ev m1 ρ d1) (h2 : Ev m2 ρ d2) (h3 : Ev m3 ρ d3) : Ev (mTup (mCons (mFrz m1) (mCons (mFrz m2) (mCons (mFrz m3) mNil)))) ρ (.tup [d1, d2, d3]) := by
  unfold Ev mTup
  rw [cons_ok (ev_frz h1) (cons_ok (ev_frz h2) (cons_ok (ev_frz h3) (nil_ok _)))]; rfl
theorem evt_tst (h : Ev m ρ (.bl b)) : EvT (mTst m) ρ b := by
  unfold EvT mTst
  rw [show m ρ = .ok (.d (.bl b)) ρ from h]; rfl
theorem evt_tru (h : Ev m ρ d) (k : truD d = some b) : EvT (mTru m) ρ b := by
  unfold EvT mTru
  rw [show m ρ = .ok (.d d) ρ from h, bind_ok]
  simp [rd, k]
theorem evt_not (h : EvT t ρ b) : EvT (mNotT t) ρ (!b) := by
  unfold EvT mNotT
  rw [show t ρ = .ok b ρ from h]; rfl
theorem evt_or1 (h : EvT t1 ρ true) : EvT (mOrT t1 t2) ρ true := by
  unfold EvT mOrT
  rw [show t1 ρ = .ok true ρ from h]; rfl
theorem evt_or2 (h : EvT t1 ρ false) (h2 : EvT t2 ρ b) : EvT (mOrT t1 t2) ρ b := by
  unfold EvT mOrT
  rw [show t1 ρ = .ok false ρ from h]; exact h2
theorem evt_and1 (h : EvT t1 ρ false) : EvT (mAndT t1 t2) ρ false := by
  unfold EvT mAndT
  rw [show t1 ρ = .ok false ρ from h]; rfl
theorem evt_and2 (h : EvT t1 ρ true) (h2 : EvT t2 ρ b) : EvT (mAndT t1 t2) ρ b := by
  unfold EvT mAndT
  rw [show t1 ρ = .ok true ρ from h]; exact h2
theorem evt_and (h : EvT t1 ρ b1) (h2 : b1 = true → EvT t2 ρ b) : EvT (mAndT t1 t2) ρ (b1 && b) := by
  cases b1 with
  | false => exact evt_and1 h
  | true => exact evt_and2 h (h2 rfl)
theorem ev_and (h : Ev m1 ρ (.bl b1)) (h2 : b1 = true → Ev m2 ρ (.bl b)) : Ev (mAndV m1 m2) ρ (.bl (b1 && b)) := by
  have e := evt_tst h
  unfold Ev mAndV
  rw [show mTst m1 ρ = .ok b1 ρ from e, bind_ok]
  cases b1 with
  | false => rfl
  | true => exact h2 rfl
theorem ev_or (h : Ev m1 ρ (.bl b1)) (h2 : b1 = false → Ev m2 ρ (.bl b)) : Ev (mOrV m1 m2) ρ (.bl (b1 || b)) := by
  have e := evt_tst h
  unfold Ev mOrV
  rw [show mTst m1 ρ = .ok b1 ρ from e, bind_ok]
  cases b1 with
  | true => rfl
  | false => exact h2 rfl
theorem ev_not (h : Ev m1 ρ (.bl b)) : Ev (mNotV m1) ρ (.bl (!b)) := by
  have e := evt_tst h
  unfold Ev mNotV
  rw [show mTst m1 ρ = .ok b ρ from e, bind_ok]
theorem ev_ife (h : EvT t ρ b) (h2 : Ev (if b then m1 else m2) ρ d) : Ev (mIfE t m1 m2) ρ d := by
  unfold Ev mIfE
  rw [show t ρ = .ok b ρ from h, bind_ok]
  cases b <;> exact h2
theorem ev_isi {T : Ty} (h : Ev m ρ d) (k : dIsi T d = some (.d (.bl b))) : Ev (mIsi T m) ρ (.bl b) := by
  unfold Ev mIsi
  rw [show m ρ = .ok (.d d) ρ from h, bind_ok]
  simp [rd, k]
theorem ev_chain {f f' : D → D → Option EV} (h1 : Ev m1 ρ d1) (h2 : Ev m2 ρ d2) (h3 : Ev m3 ρ d3) (k1 : f d1 d2 = some (.d (.bl b1))) (k2 : f' d2 d3 = some (.d (.bl b2))) : Ev (mChain f f' m1 m2 m3) ρ (.bl (b1 && b2)) := by
  unfold Ev mChain
  rw [show m1 ρ = .ok (.d d1) ρ from h1, bind_ok, show m2 ρ = .ok (.d d2) ρ from h2, bind_ok]
  simp only [rd, Option.bind_some, k1]
  cases b1 with
  | false => rfl
  | true =>
    simp only [show m3 ρ = .ok (.d d3) ρ from h3, bind_ok, rd, Option.bind_some, k2]
    rfl
theorem ev_eq {n : Nat} (h1 : Ev m1 ρ d) (h2 : Ev m2 ρ d) (p : Pl n d) (k : n ≤ 64) : Ev (mOp dEqA m1 m2) ρ (.bl true) := ev_op h1 h2 (eqA_self p k)
theorem ev_ne {n : Nat} (h1 : Ev m1 ρ d) (h2 : Ev m2 ρ d) (p : Pl n d) (k : n ≤ 64) : Ev (mOp dNeA m1 m2) ρ (.bl false) := ev_op h1 h2 (neA_self p k)
theorem evt_ne {n : Nat} (h1 : Ev m1 ρ d) (h2 : Ev m2 ρ d) (p : Pl n d) (k : n ≤ 64) : EvT (mTst (mOp dNeA m1 m2)) ρ false := evt_tst (ev_ne h1 h2 p k)
theorem ifs_f {s1 s2 : Rho → Out} (h : EvT t ρ false) : mIfS t s1 s2 ρ = s2 ρ := by
  unfold mIfS
  rw [show t ρ = .ok false ρ from h]; rfl
theorem ifs_t {s1 s2 : Rho → Out} (h : EvT t ρ true) : mIfS t s1 s2 ρ = s1 ρ := by
  unfold mIfS
  rw [show t ρ = .ok true ρ from h]; rfl
theorem ev_ret (h : Ev m ρ d) : mRet m ρ = .rt (.d d) ρ := ret_ok h
theorem ev_set {i : Nat} (h : Ev m ρ d) : mSet i m ρ = Out.of (putC i (.d d) ρ) := set_ok h
/-- the cell may be written -/
def Wr (i : Nat) (ρ : Rho) : Prop := ∃ c, ρ[i]? = some c ∧ ∀ b o, c ≠ .own b o
theorem put_wr {i : Nat} (h : Wr i ρ) : putC i (.d d) ρ = some (ρ.set i (.val d)) := by
  obtain ⟨c, h1, h2⟩ := h
  unfold putC
  rw [h1]
  cases c with
  | own b o => exact (h2 _ _ rfl).elim
  | no => rfl
  | val d => rfl
theorem set_wr {i : Nat} (h : Ev m ρ d) (w : Wr i ρ) : mSet i m ρ = .nx (ρ.set i (.val d)) := by rw [ev_set h, put_wr w]; rfl
theorem wr_no {i : Nat} (h : ρ[i]? = some .no) : Wr i ρ := ⟨_, h, fun b o z => by cases z⟩
theorem wr_val {i : Nat} (h : ρ[i]? = some (.val d)) : Wr i ρ := ⟨_, h, fun b o z => by cases z⟩
theorem wr_set {i : Nat} (h : i < ρ.length) : Wr i (ρ.set i (.val d)) := wr_val (d := d) (by simp [h])
end
theorem bls_map {α : Type} (b : α → Bool) : ∀ ds : List α, blsOf (ds.map fun d => D.bl (b d)) = some (ds.map b)
  | [] => rfl
  | d :: ds => by rw [List.map_cons, blsOf, bls_map b ds]; rfl
/-- all([e for v in xs]) -/
theorem ev_allL {v : Nat} {mi : Rho → R (List D)} {el : Rho → R EV} {ρ : Rho} {ds : List D} (b : D → Bool) (hi : mi ρ = .ok ds ρ) (hv : ρ[v]? = some .no) (hl : ds.length ≤ 1000000)
    (he : ∀ d ∈ ds, Ev el (ρ.set v (.val d)) (.bl (b d))) : Ev (mCB bAll (mCons (mLc mi [v] (gtN v) mYes el) mNil)) ρ (.bl (ds.all b)) := by
  have e := lc_map (fun d => D.bl (b d)) hi hv hl fun d hd => ev_frz (he d hd)
  refine cb_ok (cons_ok e (nil_ok _)) (ds := [.lst (ds.map fun d => D.bl (b d))]) rfl ?_
  show (blsOf (ds.map fun d => D.bl (b d))).map (fun bs => EV.d (.bl (bs.all id))) = _
  rw [bls_map b ds, Option.map_some, List.all_map]
  rfl
theorem ev_anyL {v : Nat} {mi : Rho → R (List D)} {el : Rho → R EV} {ρ : Rho} {ds : List D} (b : D → Bool) (hi : mi ρ = .ok ds ρ) (hv : ρ[v]? = some .no) (hl : ds.length ≤ 1000000)
    (he : ∀ d ∈ ds, Ev el (ρ.set v (.val d)) (.bl (b d))) : Ev (mCB bAny (mCons (mLc mi [v] (gtN v) mYes el) mNil)) ρ (.bl (ds.any b)) := by
  have e := lc_map (fun d => D.bl (b d)) hi hv hl fun d hd => ev_frz (he d hd)
  refine cb_ok (cons_ok e (nil_ok _)) (ds := [.lst (ds.map fun d => D.bl (b d))]) rfl ?_
  show (blsOf (ds.map fun d => D.bl (b d))).map (fun bs => EV.d (.bl (bs.any id))) = _
  rw [bls_map b ds, Option.map_some, List.any_map]
  rfl
/-- tuple([e for v in xs]) -/
theorem ev_tupL {v : Nat} {mi : Rho → R (List D)} {el : Rho → R EV} {ρ : Rho} {ds : List D} (g : D → D) (hi : mi ρ = .ok ds ρ) (hv : ρ[v]? = some .no) (hl : ds.length ≤ 1000000)
    (he : ∀ d ∈ ds, Ev el (ρ.set v (.val d)) (g d)) : Ev (mCB bTuple (mCons (mLc mi [v] (gtN v) mYes el) mNil)) ρ (.tup (ds.map g)) := by
  have e := lc_map g hi hv hl fun d hd => ev_frz (he d hd)
  exact cb_ok (cons_ok e (nil_ok _)) (ds := [.lst (ds.map g)]) rfl rfl
theorem it_tup {m : Rho → R EV} {ρ : Rho} {ds : List D} (h : Ev m ρ (.tup ds)) : mIt m ρ = .ok ds ρ := by
  unfold mIt
  rw [show mFrz m ρ = .ok (.d (.tup ds)) ρ from ev_frz h]; rfl
theorem it_lst {m : Rho → R EV} {ρ : Rho} {ds : List D} (h : Ev m ρ (.lst ds)) : mIt m ρ = .ok ds ρ := by
  unfold mIt
  rw [show mFrz m ρ = .ok (.d (.lst ds)) ρ from ev_frz h]; rfl
/-! ### loops whose body changes nothing but the loop's own cell -/
theorem for_same {i : Nat} {b : Rho → Out} : ∀ {ds : List D} {ρ : Rho}, Wr i ρ → (∀ d ∈ ds, b (ρ.set i (.val d)) = .nx (ρ.set i (.val d))) → ∃ c, (∀ b o, c ≠ Cell.own b o) ∧ forL (gtN i) b ds ρ = .nx (ρ.set i c)
  | [], ρ, w, _ => by
    obtain ⟨c, h1, h2⟩ := w
    refine ⟨c, h2, ?_⟩
    rw [forL]
    congr 1
    apply List.ext_getElem?
    intro j
    rw [get_set]
    split
    · rename_i e; subst e
      rw [if_pos (List.getElem?_eq_some_iff.mp h1).1, h1]
    · rfl
  | d :: ds, ρ, w, h => by
    have lt : i < ρ.length := by obtain ⟨c, h1, _⟩ := w; exact (List.getElem?_eq_some_iff.mp h1).1
    obtain ⟨c, h1, h2⟩ := for_same (b := b) (ds := ds) (ρ := ρ.set i (.val d)) (wr_set lt) fun x hx => by rw [List.set_set]; exact h x (List.mem_cons_of_mem _ hx)
    refine ⟨c, h1, ?_⟩
    rw [forL_cons (put_wr w) (h d (by simp)), h2, List.set_set]
/-! ### values that are read -/
def Rv (m : Rho → R EV) (ρ : Rho) (d : D) : Prop := ∃ e, m ρ = .ok e ρ ∧ rd ρ e = some d
section
variable {m m1 m2 : Rho → R EV} {ρ : Rho} {d d1 d2 : D}
theorem Ev.rv (h : Ev m ρ d) : Rv m ρ d := ⟨_, h, rfl⟩
theorem rv_own {i : Nat} {b : Bool} {xs : List D} (h : ρ[i]? = some (.own b (.lst xs))) : Rv (mVar i) ρ (.lst xs) := by
  refine ⟨.slot i, by unfold mVar; rw [h], ?_⟩
  simp [rd, h, Cell.rd, Mo.rd]
theorem ev_opR {f : D → D → Option EV} (h1 : Rv m1 ρ d1) (h2 : Rv m2 ρ d2) (h : f d1 d2 = some (.d d)) : Ev (mOp f m1 m2) ρ d := by
  obtain ⟨e1, a1, b1⟩ := h1
  obtain ⟨e2, a2, b2⟩ := h2
  exact op_ok a1 a2 b1 b2 h
theorem ev_cbR {f : List D → Option EV} (h1 : Rv m1 ρ d1) (h : f [d1] = some (.d d)) : Ev (mCB f (mCons m1 mNil)) ρ d := by
  obtain ⟨e1, a1, b1⟩ := h1
  exact cb_ok (cons_ok a1 (nil_ok _)) (by rw [rds, b1]; rfl) h
end
/-! ### lists built by writing at places -/
theorem eq_of_pf {a b : List Nat} {d : Nat} (la : a.length = d) (lb : b.length = d) (h : ∀ x, x < d → pf a x = pf b x) : a = b := by
  rw [← range_pf a, ← range_pf b, la, lb]
  exact List.map_congr_left fun x hx => h x (List.mem_range.mp hx)
theorem rep_flat {α : Type} (x : α) : ∀ n : Nat, (List.replicate n [x]).flatten = List.replicate n x
  | 0 => rfl
  | n + 1 => by rw [List.replicate_succ, List.flatten_cons, rep_flat x n, List.replicate_succ]; rfl
theorem rep_ok {x : D} {mx m : Rho → R EV} {ρ : Rho} {n : Nat} (hx : Ev mx ρ x) (h : Ev m ρ (.int n)) (hn : n ≤ 1000000) : mRep (mLst (mCons (mFrz mx) mNil)) m ρ = .ok (.new (.lst (List.replicate n x))) ρ := by
  have h1 : (n : Int) ≤ 1000000 := by omega
  have h2 : (-1000000 : Int) ≤ n := by omega
  have e : mLst (mCons (mFrz mx) mNil) ρ = .ok (.new (.lst [x])) ρ := by
    unfold mLst
    rw [cons_ok (ev_frz hx) (nil_ok _)]; rfl
  unfold mRep
  rw [e, bind_ok, show m ρ = .ok (.d (.int n)) ρ from h, bind_ok]
  simp [h1, h2, hn, rep_flat]
theorem for_enum {mt : D → Rho → Option Rho} {b : Rho → Out} {P : Nat → Rho → Prop} : ∀ {ds : List D} {j : Nat} {ρ : Rho}, (∀ (i : Nat) (d : D) (ρ : Rho), ds[i]? = some d → P (j + i) ρ → ∃ ρ1 ρ2, mt (.tup [.int ((j + i : Nat) : Int), d]) ρ = some ρ1 ∧ b ρ1 = .nx ρ2 ∧ P (j + i + 1) ρ2) → P j ρ → ∃ ρ', forL mt b (enumD j ds) ρ = .nx ρ' ∧ P (j + ds.length) ρ'
  | [], j, ρ, _, p => ⟨ρ, rfl, p⟩
  | d :: ds, j, ρ, h, p => by
    obtain ⟨ρ1, ρ2, h1, h2, h3⟩ := h 0 d ρ rfl p
    obtain ⟨ρ', k1, k2⟩ := for_enum (mt := mt) (b := b) (P := P) (ds := ds) (j := j + 1) (ρ := ρ2) (fun i x ρ e q => by
      have := h (i + 1) x ρ (by simpa using e) (by rw [show j + (i + 1) = j + 1 + i from by omega]; exact q)
      rw [show j + (i + 1) = j + 1 + i from by omega] at this
      exact this) h3
    refine ⟨ρ', ?_, by rw [List.length_cons, show j + (ds.length + 1) = j + 1 + ds.length from by omega]; exact k2⟩
    rw [enumD, forL_cons (show mt (.tup [.int (j : Nat), d]) ρ = some ρ1 from h1) h2]
    exact k1
theorem enum_tup {m : Rho → R EV} {ρ : Rho} {ds : List D} (h : Ev m ρ (.tup ds)) : mEnum m ρ = .ok (enumD 0 ds) ρ := by
  unfold mEnum
  rw [show mFrz m ρ = .ok (.d (.tup ds)) ρ from ev_frz h]; rfl
theorem at_nat {ds : List D} {k : Nat} {d : D} (h : ds[k]? = some d) : atI ds (k : Int) = some d := by
  have lt := (List.getElem?_eq_some_iff.mp h).1
  unfold atI ixN
  simp [lt]
  exact (List.getElem?_eq_some_iff.mp h).2
theorem st_nat {ds : List D} {k : Nat} (h : k < ds.length) (d : D) : stAt ds (k : Int) d = some (ds.set k d) := by
  unfold stAt ixN
  simp [h]
theorem stored {i : Nat} {mk mv : Rho → R EV} {ρ : Rho} {k : Nat} {d : D} {b : Bool} {xs : List D} (hv : Ev mv ρ d) (hk : Ev mk ρ (.int (k : Int))) (ho : ρ[i]? = some (.own b (.lst xs))) (lt : k < xs.length) : mStore i mk mv ρ = .nx (ρ.set i (.own b (.lst (xs.set k d)))) := by
  have o : ownL i ρ = some (b, xs) := by unfold ownL; rw [ho]
  unfold mStore
  rw [show mFrz mv ρ = .ok (.d d) ρ from ev_frz hv, out_ok]
  simp only [o]
  rw [show mk ρ = .ok (.d (.int (k : Int))) ρ from hk, out_ok]
  simp only [o, st_nat lt, Option.map_some, oof_some]
end Lg
end

set_option Elab.async false
set_option linter.all false
set_option maxRecDepth 100000
set_option autoImplicit false
noncomputable section
namespace Lg
open PySem L2 Mi
/-! What the mathematics of a law of permutations needs, of no law's mirrors. -/
def rw' {d : Nat} (g : G d) : D := row g.l
def rows {d : Nat} (xs : List (G d)) : D := .tup (xs.map rw')
theorem row_len {d : Nat} (g : G d) : (g.l.map dI).length = d := by rw [List.length_map, g.n]
theorem row_get {d : Nat} (g : G d) {x : Nat} (h : x < d) : (g.l.map dI)[x]? = some (dI (pf g.l x)) := by
  rw [List.getElem?_map, pf_get (by rw [g.n]; exact h)]; rfl
theorem row_ix {d : Nat} (g : G d) {x : Nat} (h : x < d) : dIx (rw' g) (.int (x : Int)) = some (.d (dI (pf g.l x))) := dIx_row x rfl (by rw [g.n]; exact h)
theorem len_row {d : Nat} (g : G d) : bLen [rw' g] = some (.d (.int d)) := by simp [bLen, rw', row, g.n]
theorem rep0 (n : Nat) : List.replicate n (D.int 0) = (List.replicate n 0).map dI := by rw [List.map_replicate]; rfl
def gtP : D → Rho → Option Rho := gtTup 2 (gtCons (gtN 2) (gtCons (gtN 3) gtNil))
theorem gtP_eq {a b : D} {r s : Cell} {c2 c3 : Cell} (h2 : Clear c2) (h3 : Clear c3) : gtP (.tup [a, b]) [r, s, c2, c3] = some [r, s, .val a, .val b] := by
  cases c2 with
  | own b o => exact (h2 _ _ rfl).elim
  | no => cases c3 with
    | own b o => exact (h3 _ _ rfl).elim
    | no => rfl
    | val d => rfl
  | val d => cases c3 with
    | own b o => exact (h3 _ _ rfl).elim
    | no => rfl
    | val d => rfl
theorem put_c2 {a b : Cell} {c2 : Cell} {d : D} (h2 : Clear c2) : gtN 2 d [a, b, c2] = some [a, b, .val d] := by
  cases c2 with
  | own b o => exact (h2 _ _ rfl).elim
  | no => rfl
  | val d => rfl
theorem bLen_tup (xs : List D) : bLen [.tup xs] = some (.d (.int xs.length)) := rfl
def okc : Bool → CR
  | true => .ok (.d .non) [.no]
  | false => .exn .mal
theorem natAbs_if (i : Int) : (if i < 0 then -i else i) = (i.natAbs : Int) := by split <;> omega
theorem Ev.eq {m : Rho → R EV} {ρ : Rho} {d : D} (h : Ev m ρ d) : m ρ = .ok (.d d) ρ := h
theorem ife_eq {t : Rho → R Bool} {m1 m2 : Rho → R EV} {ρ : Rho} {b : Bool} (h : EvT t ρ b) : mIfE t m1 m2 ρ = (if b then m1 else m2) ρ := by
  unfold mIfE
  rw [show t ρ = .ok b ρ from h, bind_ok]
  cases b <;> rfl
def BAD : D := .tup [.str "raised", .str "malformed"]
theorem cut_to {ds : List D} {k : Nat} (h : k ≤ ds.length) : cutD ds none (some (k : Int)) = ds.take k := by
  unfold cutD HT.sIx
  have h1 : ¬ ((k : Int) < 0) := by omega
  simp [h1]
theorem cut_from {ds : List D} {k : Nat} (h : k ≤ ds.length) : cutD ds (some (k : Int)) none = ds.drop k := by
  unfold cutD
  rw [HT.sIx_nat, HT.sIx_none, Nat.min_eq_left h]
  exact List.take_of_length_le (by simp)
theorem ev_slTo {m m2 : Rho → R EV} {ρ : Rho} {ds : List D} {k : Nat} (h : Ev m ρ (.tup ds)) (h2 : Ev m2 ρ (.int (k : Int))) (hk : k ≤ ds.length) : Ev (mSl m mO0 (mO1 m2)) ρ (.tup (ds.take k)) := by
  have e2 : mO1 m2 ρ = .ok (some (k : Int)) ρ := by unfold mO1; rw [show m2 ρ = .ok (.d (.int (k : Int))) ρ from h2]; rfl
  unfold Ev mSl
  rw [show m ρ = .ok (.d (.tup ds)) ρ from h, bind_ok, show mO0 ρ = .ok none ρ from rfl, bind_ok, e2, bind_ok]
  simp only [rd, cut_to hk]
theorem ev_slFrom {m m2 : Rho → R EV} {ρ : Rho} {ds : List D} {k : Nat} (h : Ev m ρ (.tup ds)) (h2 : Ev m2 ρ (.int (k : Int))) (hk : k ≤ ds.length) : Ev (mSl m (mO1 m2) mO0) ρ (.tup (ds.drop k)) := by
  have e2 : mO1 m2 ρ = .ok (some (k : Int)) ρ := by unfold mO1; rw [show m2 ρ = .ok (.d (.int (k : Int))) ρ from h2]; rfl
  unfold Ev mSl
  rw [show m ρ = .ok (.d (.tup ds)) ρ from h, bind_ok, e2, bind_ok, show mO0 ρ = .ok none ρ from rfl, bind_ok]
  simp only [rd, cut_from hk]
theorem sls_ok {i : Nat} {ml mh mv : Rho → R EV} {ρ : Rho} {b : Bool} {xs ys : List D} {a c : Nat} (hv : mLst (mCons (mFrz ml) (mCons (mFrz mh) mNil)) ρ = .ok (.new (.lst ys)) ρ) {m1 m2 : Rho → R EV} (h1 : Ev m1 ρ (.int (a : Int))) (h2 : Ev m2 ρ (.int (c : Int))) (ho : ρ[i]? = some (.own b (.lst xs))) (ac : a ≤ c) (cx : c ≤ xs.length) (hl : xs.length + ys.length ≤ 1000000) :
    mSlS i (mO1 m1) (mO1 m2) (mLst (mCons (mFrz ml) (mCons (mFrz mh) mNil))) ρ = .nx (ρ.set i (.own b (.lst (xs.take a ++ ys ++ xs.drop c)))) := by
  have o : ownL i ρ = some (b, xs) := by unfold ownL; rw [ho]
  have e1 : mO1 m1 ρ = .ok (some (a : Int)) ρ := by unfold mO1; rw [show m1 ρ = .ok (.d (.int (a : Int))) ρ from h1]; rfl
  have e2 : mO1 m2 ρ = .ok (some (c : Int)) ρ := by unfold mO1; rw [show m2 ρ = .ok (.d (.int (c : Int))) ρ from h2]; rfl
  unfold mSlS
  rw [hv, out_ok]
  simp only [o, e1, out_ok, e2]
  have k1 : decide ((0 : Int) ≤ (a : Int)) = true := decide_eq_true (by omega)
  have k2 : decide ((a : Int) ≤ (c : Int)) = true := decide_eq_true (by omega)
  have k3 : decide ((c : Int) ≤ (xs.length : Nat)) = true := decide_eq_true (by omega)
  have k4 : szOk (xs.length + ys.length) = true := decide_eq_true hl
  rw [k1, k2, k3, k4]
  rfl
theorem ev_lst2 {m1 m2 : Rho → R EV} {ρ : Rho} {d1 d2 : D} (h1 : Ev m1 ρ d1) (h2 : Ev m2 ρ d2) : mLst (mCons (mFrz m1) (mCons (mFrz m2) mNil)) ρ = .ok (.new (.lst [d1, d2])) ρ := by
  unfold mLst
  rw [cons_ok (ev_frz h1) (cons_ok (ev_frz h2) (nil_ok _))]; rfl
theorem ref_int (ws : List Int) : ∀ d ∈ ws.map D.int, ∀ a, d ≠ .ref a := fun d h a e => by
  obtain ⟨i, _, rfl⟩ := List.mem_map.mp h
  cases e
theorem len_rows {d : Nat} (xs : List (G d)) : bLen [rows xs] = some (.d (.int xs.length)) := by simp [bLen, rows]
theorem ex_call1 {f : List Cell → CR} {m : Rho → R EV} {ρ : Rho} {d : D} {x : Exn} (h : Ev m ρ d) (h2 : f [.val d] = .exn x) : mCall f 1 (mCons (mFrz m) mNil) ρ = .exn x ρ := by
  rw [call1 (ev_frz h), h2]; rfl
theorem ex_call2 {f : List Cell → CR} {m1 m2 : Rho → R EV} {ρ : Rho} {d1 d2 : D} {x : Exn} (h1 : Ev m1 ρ d1) (h2 : Ev m2 ρ d2) (h : f [.val d1, .val d2] = .exn x) : mCall f 2 (mCons (mFrz m1) (mCons (mFrz m2) mNil)) ρ = .exn x ρ := by
  rw [call2 (ev_frz h1) (ev_frz h2), h]; rfl
theorem ex_drop {m : Rho → R EV} {ρ : Rho} {x : Exn} (h : m ρ = .exn x ρ) : mDrop m ρ = .exn x ρ := by
  unfold mDrop
  rw [h]; rfl
theorem put_2 {a b c : Cell} {x : D} (h : Clear c) : gtN 2 x [a, b, c] = some [a, b, .val x] := put_c2 h
theorem put_3 {a b e c : Cell} {x : D} (h : Clear c) : gtN 3 x [a, b, e, c] = some [a, b, e, .val x] := by
  cases c with
  | own b o => exact (h _ _ rfl).elim
  | no => rfl
  | val d => rfl
theorem rng1_ok {m : Rho → R EV} {ρ : Rho} {n : Nat} (h : Ev m ρ (.int n)) (hn : n ≤ 1000000) : mRng1 m ρ = .ok ((List.range n).map dI) ρ := by
  have h1 : (n : Int) ≤ 1000000 := by omega
  have h2 : (-1000000 : Int) ≤ n := by omega
  unfold mRng1
  rw [show m ρ = .ok (.d (.int n)) ρ from h, bind_ok]
  simp [rngOk, h1, h2, rng_eq]
def swF (a b x : Nat) : Nat := if x = a then b else if x = b then a else x
theorem swF_swF (a b x : Nat) : swF a b (swF a b x) = x := by
  unfold swF
  repeat' split
  all_goals omega
def swG {d a b : Nat} (ha : a < d) (hb : b < d) : G d := G.of (swF a b) (fun x h => by unfold swF; repeat' split
                                                                                       all_goals omega) (fun x y _ _ e => by rw [← swF_swF a b x, e, swF_swF])
theorem for_list {mt : D → Rho → Option Rho} {b : Rho → Out} {I : Rho → Prop} : ∀ {ds : List D} {ρ : Rho}, (∀ d ∈ ds, ∀ ρ, I ρ → ∃ ρ1 ρ2, mt d ρ = some ρ1 ∧ b ρ1 = .nx ρ2 ∧ I ρ2) → I ρ → ∃ ρ', forL mt b ds ρ = .nx ρ' ∧ I ρ'
  | [], ρ, _, h => ⟨ρ, rfl, h⟩
  | d :: ds, ρ, st, h => by
    obtain ⟨ρ1, ρ2, h1, h2, h3⟩ := st d (by simp) ρ h
    obtain ⟨ρ', h4, h5⟩ := for_list (mt := mt) (b := b) (I := I) (ds := ds) (fun x hx => st x (List.mem_cons_of_mem _ hx)) h3
    exact ⟨ρ', (forL_cons h1 h2).trans h4, h5⟩
theorem put_no {ρ : Rho} {v : Nat} {d : D} (h : ρ[v]? = some .no) : gtN v d ρ = some (ρ.set v (.val d)) := by unfold gtN putC; rw [h]
theorem lc_st {v : Nat} {el : Rho → R EV} {I : Rho → Prop} {Q : D → Prop} (hI : ∀ ρ, I ρ → ρ[v]? = some .no) (step : ∀ ρ d, I ρ → ∃ y ρ3, mFrz el (ρ.set v (.val d)) = .ok (.d y) ρ3 ∧ Q y ∧ I (ρ3.set v .no)) : ∀ (ds acc : List D) (ρ : Rho), I ρ → acc.length + ds.length ≤ 1000000 → ∃ ys ρ', lcL [v] (gtN v) mYes el ds acc ρ = .ok (acc ++ ys) ρ' ∧ I ρ' ∧ ys.length = ds.length ∧ ∀ y ∈ ys, Q y
  | [], acc, ρ, h, _ => ⟨[], ρ, by simp [lcL], h, rfl, by simp⟩
  | d :: ds, acc, ρ, h, hl => by
    obtain ⟨y, ρ3, e, q, h2⟩ := step ρ d h
    obtain ⟨ys, ρ', e2, h3, len, hq⟩ := lc_st hI step ds (acc ++ [y]) (ρ3.set v .no) h2 (by simp at hl ⊢; omega)
    refine ⟨y :: ys, ρ', ?_, h3, by simp [len], fun z hz => ?_⟩
    · have hl' : acc.length ≤ 1000000 := by simp at hl; omega
      unfold lcL
      simp only [put_no (hI ρ h), show mYes (ρ.set v (.val d)) = .ok true (ρ.set v (.val d)) from rfl, e, szOk, decide_eq_true hl', if_true, wipe1, e2]
      simp
    · rcases List.mem_cons.mp hz with rfl | hz
      · exact q
      · exact hq z hz
theorem wipe_no {ρ : Rho} {v : Nat} (h : ρ[v]? = some .no) : wipeR ρ [v] = ρ ∧ wipeOk ρ [v] = true := by
  refine ⟨?_, by simp [wipeOk, h]⟩
  rw [wipe1]
  apply List.ext_getElem?
  intro i
  rw [get_set]
  split
  · rename_i e; subst e
    rw [if_pos (List.getElem?_eq_some_iff.mp h).1, h]
  · rfl
theorem lcM {α : Type} {v : Nat} {el : Rho → R EV} {ρ : Rho} (f g : α → D) (hv : ρ[v]? = some .no) : ∀ (as : List α) (acc : List D), acc.length + as.length ≤ 1000000 → (∀ a ∈ as, Ev el (ρ.set v (.val (f a))) (g a)) → lcL [v] (gtN v) mYes el (as.map f) acc ρ = .ok (acc ++ as.map g) ρ
  | [], acc, _, _ => by simp [lcL]
  | a :: as, acc, hl, he => by
    have hl' : acc.length ≤ 1000000 := by simp at hl; omega
    have e := ev_frz (he a (by simp))
    have ih := lcM f g hv as (acc ++ [g a]) (by simp at hl ⊢; omega) fun x hx => he x (List.mem_cons_of_mem _ hx)
    rw [List.map_cons]
    unfold lcL
    simp only [put_no hv, show mYes (ρ.set v (.val (f a))) = .ok true (ρ.set v (.val (f a))) from rfl, show mFrz el (ρ.set v (.val (f a))) = .ok (.d (g a)) (ρ.set v (.val (f a))) from e, szOk, decide_eq_true hl', if_true, wipe1, set_no hv, ih]
    simp
theorem lc_mapped {α : Type} {v : Nat} {mi : Rho → R (List D)} {el : Rho → R EV} {ρ : Rho} {as : List α} (f g : α → D) (hi : mi ρ = .ok (as.map f) ρ) (hv : ρ[v]? = some .no) (hl : as.length ≤ 1000000) (he : ∀ a ∈ as, Ev el (ρ.set v (.val (f a))) (g a)) : mLc mi [v] (gtN v) mYes el ρ = .ok (.new (.lst (as.map g))) ρ := by
  unfold mLc
  rw [hi, bind_ok, if_pos (wipe_no hv).2, (wipe_no hv).1, lcM f g hv as [] (by simpa using hl) he]
  rfl
theorem ev_tupM {α : Type} {v : Nat} {mi : Rho → R (List D)} {el : Rho → R EV} {ρ : Rho} {as : List α} (f g : α → D) (hi : mi ρ = .ok (as.map f) ρ) (hv : ρ[v]? = some .no) (hl : as.length ≤ 1000000) (he : ∀ a ∈ as, Ev el (ρ.set v (.val (f a))) (g a)) : Ev (mCB bTuple (mCons (mLc mi [v] (gtN v) mYes el) mNil)) ρ (.tup (as.map g)) :=
  cb_ok (cons_ok (lc_mapped f g hi hv hl he) (nil_ok _)) (ds := [.lst (as.map g)]) rfl rfl
theorem add_ok {ma mb : Rho → R EV} {ρ ρ1 ρ2 : Rho} {i j : Int} (h1 : ma ρ = .ok (.d (.int i)) ρ1) (h2 : mb ρ1 = .ok (.d (.int j)) ρ2) : mAddL ma mb ρ = .ok (.d (.int (i + j))) ρ2 := by
  unfold mAddL
  rw [h1, bind_ok, h2, bind_ok]
  rfl
theorem clr {d : D} : Clear (.val d) := fun _ _ z => by cases z
theorem clr0 : Clear .no := fun _ _ z => by cases z
theorem pl_rows {d : Nat} (xs : List (G d)) : Pl 2 (rows xs) := pl_tup fun x hx => by
  obtain ⟨g, _, rfl⟩ := List.mem_map.mp hx
  exact pl_tup fun y hy => by
    obtain ⟨z, _, rfl⟩ := List.mem_map.mp hy
    exact pl_int 0 _
theorem pl_BAD : Pl 2 BAD := pl_tup fun x hx => by
  rcases List.mem_cons.mp hx with rfl | hx
  · exact pl_str 1 (by decide +kernel)
  · rw [List.mem_singleton.mp hx]
    exact pl_str 1 (by decide +kernel)
theorem rng2_ok {m1 m2 : Rho → R EV} {ρ : Rho} {n : Nat} (h1 : Ev m1 ρ (.int 1)) (h2 : Ev m2 ρ (.int n)) (hn : n ≤ 1000) : mRng2 m1 m2 ρ = .ok ((List.range (n - 1)).map fun k : Nat => D.int ((k : Int) + 1)) ρ := by
  unfold mRng2
  rw [show m1 ρ = .ok (.d (.int 1)) ρ from h1, bind_ok, show m2 ρ = .ok (.d (.int n)) ρ from h2, bind_ok]
  have k1 : rngOk (1 : Int) = true := by decide
  have k2 : rngOk (n : Int) = true := by unfold rngOk; rw [decide_eq_true (by omega), decide_eq_true (by omega)]; rfl
  simp only [k1, k2, Bool.and_true, if_true]
  unfold rngD
  rw [show ((n : Int) - 1).toNat = n - 1 from by omega]
  congr 1
  exact List.map_congr_left fun k _ => by rw [Int.add_comm]
theorem flat_len {α : Type} (l : List α) : ∀ m : Nat, (List.replicate m l).flatten.length = m * l.length
  | 0 => by simp
  | m + 1 => by rw [List.replicate_succ, List.flatten_cons, List.length_append, flat_len l m, Nat.succ_mul, Nat.add_comm]
theorem flat_map {α β : Type} (f : α → β) (l : List α) : ∀ m : Nat, (List.replicate m (l.map f)).flatten = (List.replicate m l).flatten.map f
  | 0 => rfl
  | m + 1 => by rw [List.replicate_succ, List.flatten_cons, flat_map f l m, List.replicate_succ, List.flatten_cons, List.map_append]
theorem ev_rep {m1 m2 : Rho → R EV} {ρ : Rho} {ds : List D} {n : Nat} (h1 : Ev m1 ρ (.tup ds)) (h2 : Ev m2 ρ (.int n)) (hn : n ≤ 1000000) (hl : n * ds.length ≤ 1000000) : Ev (mOp dRepTT m1 m2) ρ (.tup (List.replicate n ds).flatten) := by
  refine ev_op h1 h2 ?_
  show repD ds n = _
  unfold repD
  have k1 : decide (-(2 ^ 62) ≤ (n : Int)) = true := decide_eq_true (by omega)
  have k2 : decide ((n : Int) < 2 ^ 62) = true := decide_eq_true (by omega)
  have k3 : szOk (ds.length * (n : Int).toNat) = true := decide_eq_true (by rw [Int.toNat_natCast, Nat.mul_comm]; exact hl)
  rw [k1, k2, k3]
  simp
theorem ifs_f' {t : Rho → R Bool} {s1 s2 : Rho → Out} {ρ ρ1 : Rho} (h : t ρ = .ok false ρ1) : mIfS t s1 s2 ρ = s2 ρ1 := by
  unfold mIfS
  rw [h]; rfl
theorem ifs_t' {t : Rho → R Bool} {s1 s2 : Rho → Out} {ρ ρ1 : Rho} (h : t ρ = .ok true ρ1) : mIfS t s1 s2 ρ = s1 ρ1 := by
  unfold mIfS
  rw [h]; rfl
theorem and_ok {t1 t2 : Rho → R Bool} {ρ ρ1 : Rho} {b : Bool} (h : t1 ρ = .ok b ρ1) : mAndT t1 t2 ρ = if b then t2 ρ1 else .ok false ρ1 := by
  unfold mAndT
  rw [h, bind_ok]
  cases b <;> rfl
theorem tst_ok {m : Rho → R EV} {ρ ρ1 : Rho} {b : Bool} (h : m ρ = .ok (.d (.bl b)) ρ1) : mTst m ρ = .ok b ρ1 := by
  unfold mTst
  rw [h]; rfl
theorem tru_ok {m : Rho → R EV} {ρ ρ1 : Rho} {b : Bool} (h : m ρ = .ok (.d (.bl b)) ρ1) : mTru m ρ = .ok b ρ1 := by
  unfold mTru
  rw [h]; rfl
theorem wb_one3 {j : Nat} {d e : D} {b : Bool} {o o' : Mo} {c c2 : Cell} {ρ : Rho} (h : ρ[j]? = some (.own b o)) : wback [.slot j, .d d, .d e] [.own true o', c, c2] ρ = ρ.set j (.own b o') := by
  unfold wback
  apply List.ext_getElem?
  intro i
  rw [List.getElem?_mapIdx, get_set]
  have hj := (List.getElem?_eq_some_iff.mp h).1
  by_cases e : j = i
  · subst e
    rw [h, if_pos rfl, if_pos hj]
    simp [wbCell, slotPos]
  · rw [if_neg e]
    cases ρ[i]? with
    | none => rfl
    | some c =>
      cases c with
      | no => rfl
      | val d => rfl
      | own b o => simp [wbCell, slotPos, e]
theorem callB3 {f : List Cell → CR} {m m2 : Rho → R EV} {ρ : Rho} {j : Nat} {b : Bool} {o o' : Mo} {d d2 e : D} {c c2 : Cell} (hj : ρ[j]? = some (.own b o)) (h : Ev m ρ d) (h2 : Ev m2 ρ d2) (hf : f [.own true o, .val d, .val d2] = .ok (.d e) [.own true o', c, c2]) :
    mCall f 3 (mCons (mVar j) (mCons (mFrz m) (mCons (mFrz m2) mNil))) ρ = .ok (.d e) (ρ.set j (.own b o')) := by
  have hv : mVar j ρ = .ok (.slot j) ρ := by simp only [mVar, hj]
  have k1 : mFrz m ρ = .ok (.d d) ρ := ev_frz h
  have k2 : mFrz m2 ρ = .ok (.d d2) ρ := ev_frz h2
  simp only [mCall, mCons, hv, k1, k2, mNil, bind_ok, callR, cellsOf, Mi.cellOf, hj, Option.bind_some, slotsNd, hasSlot, Bool.not_false, List.length_cons, List.length_nil, decide_true, Bool.and_true, if_true, hf, CR.toR, wb_one3 hj]
theorem eq0 {k : Int} {m : Rho → R EV} {ρ ρ1 : Rho} {v : Nat} (e : m ρ = .ok (.d (.int v)) ρ1) : mTst (mOp dEqA m (mC (.int 0))) ρ = .ok (decide ((v : Int) = 0)) ρ1 :=
  tst_ok (op_ok e (show mC (.int 0) ρ1 = .ok (.d (.int 0)) ρ1 from rfl) rfl rfl rfl)
theorem exG {d : Nat} : ∀ (ys : List D), (∀ y ∈ ys, ∃ g : G d, y = rw' g) → ∃ xs : List (G d), ys = xs.map rw'
  | [], _ => ⟨[], rfl⟩
  | y :: ys, h => by
    obtain ⟨g, rfl⟩ := h y (by simp)
    obtain ⟨xs, rfl⟩ := exG ys fun z hz => h z (List.mem_cons_of_mem _ hz)
    exact ⟨g :: xs, rfl⟩
theorem lst_ok {ma : Rho → R (List EV)} {ρ : Rho} {ds : List D} (h : ma ρ = .ok (ds.map EV.d) ρ) (hl : ds.length ≤ 1000000) : mLst ma ρ = .ok (.new (.lst ds)) ρ := by
  have e : ∀ ds : List D, dsOf (ds.map EV.d) = some ds := fun ds => by
    induction ds with
    | nil => rfl
    | cons d ds ih => simp [dsOf, ih]
  unfold mLst
  rw [h, bind_ok, e]
  simp [szOk, hl]
theorem it_new {m : Rho → R EV} {ρ : Rho} {ds : List D} (h : m ρ = .ok (.new (.lst ds)) ρ) : mIt m ρ = .ok ds ρ := by
  unfold mIt mFrz
  rw [h]; rfl
theorem frz_new {m : Rho → R EV} {ρ : Rho} {ds : List D} (h : m ρ = .ok (.new (.lst ds)) ρ) : Ev (mFrz m) ρ (.lst ds) := by
  unfold Ev mFrz
  rw [h]; rfl
theorem list_ok {m : Rho → R EV} {ρ : Rho} {ds : List D} (h : Ev m ρ (.tup ds)) : mCB bList (mCons m mNil) ρ = .ok (.new (.lst ds)) ρ :=
  cb_ok (cons_ok h (nil_ok _)) (ds := [.tup ds]) rfl rfl
theorem lc_wipe {v : Nat} {mi : Rho → R (List D)} {el : Rho → R EV} {ρ : Rho} {ds : List D} (g : D → D) (hi : mi ρ = .ok ds ρ) (w : Wr v ρ) (hl : ds.length ≤ 1000000) (he : ∀ d ∈ ds, Ev el (ρ.set v (.val d)) (g d)) : mLc mi [v] (gtN v) mYes el ρ = .ok (.new (.lst (ds.map g))) (ρ.set v .no) := by
  obtain ⟨c, h1, h2⟩ := w
  have lt := (List.getElem?_eq_some_iff.mp h1).1
  have k : wipeOk ρ [v] = true := by
    cases c with
    | own b o => exact (h2 _ _ rfl).elim
    | no => simp [wipeOk, h1]
    | val d => simp [wipeOk, h1]
  have e := lcM (v := v) (el := el) (ρ := ρ.set v .no) (fun d => d) g (by simp [lt]) ds [] (by simpa using hl) (fun d hd => by rw [List.set_set]; exact he d hd)
  rw [List.map_id'] at e
  unfold mLc
  rw [hi, bind_ok, if_pos k, wipe1, e]
  rfl
theorem wr_clear {ρ : Rho} {i : Nat} {c : Cell} (h : ρ[i]? = some c) (k : Clear c) : Wr i ρ := ⟨c, h, k⟩
theorem ev_tupRg {m : Rho → R EV} {ρ : Rho} {n : Nat} (h : Ev m ρ (.int n)) (hn : n ≤ 1000000) : Ev (mTupRg1 m) ρ (.tup ((List.range n).map dI)) := by
  unfold Ev mTupRg1
  rw [rng1_ok h hn, bind_ok]
theorem rng_row (n : Nat) : D.tup ((List.range n).map dI) = rw' (G.one n) := by
  show _ = D.tup (((List.range n).map fun x => x).map dI)
  rw [List.map_id']
def eBad : Rho → R EV := mTup (mCons (mFrz (mC (.str "raised"))) (mCons (mFrz (mC (.str "malformed"))) mNil))
theorem ev_bad {ρ : Rho} : Ev eBad ρ BAD := ev_tup2 ev_c ev_c
end Lg
end

set_option Elab.async false
set_option linter.all false
set_option maxRecDepth 100000
set_option autoImplicit false
noncomputable section
namespace K04
open PySem L2 Mi Lg
/-! is_integer, demand, the drawing, is_permutation: as for law k05, with this law's mirrors -/
theorem x_is_integer (d : D) (h : ∀ a, d ≠ .ref a) : m_f_is_integer [.val d] = .ok (.d (.bl (match d with | .int _ => true | _ => false))) [.no] := by
  cases d <;> first | rfl | exact (h _ rfl).elim
theorem x_demand (b : Bool) (x : Str) (hx : x.length ≤ 1000) : m_f_demand [.val (.bl b), .val (.str x)] = if b then .ok (.d .non) [.no, .no] else .exn .mal := by
  cases b with
  | true => rfl
  | false => 
    simp [m_f_demand, callOf, mIfS, mNotT, mTru, mVar, rd, truD, mRaiseM, mCons, mNil, mFs2, hx, noOwn, szOk]
theorem x_take (a b M : Int) (h0 : 0 < M) (h1 : M < 1073741824) : ∃ v a' b', m_f__law_take [.own true (stt a b), .val (.int M)] = .ok (.d (.int v)) [.own true (stt a' b'), .no] ∧ 0 ≤ v ∧ v < M := by
  by_cases c : 0 < a
  · refine ⟨a % M, a / M, b, ?_, Int.emod_nonneg _ (by omega), Int.emod_lt_of_pos _ h0⟩
    simp [m_f__law_take, callOf, mSeq, mIfS, mTst, mOp, mVar, rd, Cell.rd, Mo.rd, stt, mC, dIx, atI, ixN, dGt, dI2, c, mSet, mCB, mCons, mNil, rds, bInt, dMod, dI2c, h0, setC, giveOut, putC, mStore, mFrz, frz, ownL, stAt, dDiv, divOk, h1, mRet, keepB]
  · have h2 : ∀ x : Int, 0 ≤ x % 2147483647 := fun x => Int.emod_nonneg _ (by omega)
    refine ⟨((b * 48271 + 11) % 2147483647 / 7) % M, a, (b * 48271 + 11) % 2147483647, ?_, Int.emod_nonneg _ (by omega), Int.emod_lt_of_pos _ h0⟩
    simp [m_f__law_take, callOf, mSeq, mIfS, mTst, mOp, mVar, rd, Cell.rd, Mo.rd, stt, mC, dIx, atI, ixN, dGt, dI2, c, mSet, mCB, mCons, mNil, rds, bInt, dMod, dI2c, h0, setC, giveOut, putC, mStore, mFrz, frz, ownL, stAt, dDiv, divOk, h1, mRet, keepB, mNext, dAdd, mAddL, evL, dMul, mulOk]
def bState : Rho → Out := mSeq (mSet 1 (mAddL (mOp dMul (mVar 1) (mC (.int 1000003))) (mCB bAbs (mCons (mVar 3) mNil))))
    (mSet 2 (mOp dMod (mCB bInt (mCons (mAddL (mOp dMul (mVar 2) (mC (.int 48271))) (mVar 3)) mNil)) (mC (.int 2147483647))))
theorem bState_step (d : D) (a b n : Int) : bState [.val d, .val (.int a), .val (.int b), .val (.int n)] = .nx [.val d, .val (.int (a * 1000003 + (if n < 0 then -n else n))), .val (.int ((b * 48271 + n) % 2147483647)), .val (.int n)] := by
  unfold bState
  simp [mSeq, mIfS, mTst, mTru, mNotT, mOrT, mAndT, mNotV, mAndV, mOp, mUn, mVar, rd, Cell.rd, Mo.rd, mC, dIx, atI, ixN, dGt, dGe, dLt, dLe, dSub, dAdd, mAddL, evL, dMul, mulOk, dNeg, dAnd, dEq, dNe, eqD, dI2, mSet, mCB, mCons, mNil, rds, bInt, bAbs, bLen, bTuple, dMod, dI2c, setC, giveOut, putC, mStore, mFrz, frz, ownL, stAt, dDiv, divOk, mRet, keepB, mNext, mDrop, mApp, mRep, mLst, mTup, dsOf, szOk, mIsi, dIsi, truD, mIfE]
theorem state_loop : ∀ (ns : List Int) (d : D) (a b : Int) (c : Cell), (∀ b o, c ≠ .own b o) → ∃ a' b' c', (∀ b o, c' ≠ .own b o) ∧ forL (gtN 3) bState (ns.map D.int) [.val d, .val (.int a), .val (.int b), c] = .nx [.val d, .val (.int a'), .val (.int b'), c']
  | [], d, a, b, c, hc => ⟨a, b, c, hc, rfl⟩
  | n :: ns, d, a, b, c, hc => by
    obtain ⟨a', b', c', h1, h2⟩ := state_loop ns d (a * 1000003 + (if n < 0 then -n else n)) ((b * 48271 + n) % 2147483647) (.val (.int n)) (by simp)
    refine ⟨a', b', c', h1, ?_⟩
    rw [List.map_cons]
    unfold forL
    have e : gtN 3 (.int n) [.val d, .val (.int a), .val (.int b), c] = some [.val d, .val (.int a), .val (.int b), .val (.int n)] := by
      cases c <;> first | rfl | exact (hc _ _ rfl).elim
    simp only [e, bState_step]
    exact h2
theorem x_state (ns : List Int) : ∃ a b, m_f__law_state [.val (.lst (ns.map D.int))] = .ok (.new (stt a b)) [.no] := by
  obtain ⟨k, hk⟩ : ∃ k, cutD (ns.map D.int) none (some 63) = (ns.take k).map D.int := by
    refine ⟨HT.sIx (ns.map D.int).length (ns.map D.int).length (some 63) - HT.sIx (ns.map D.int).length 0 none, ?_⟩
    unfold cutD
    rw [show HT.sIx (ns.map D.int).length 0 none = 0 from rfl, List.drop_zero, List.map_take]
  obtain ⟨a, b, c', hc, h⟩ := state_loop (ns.take k) (.lst (ns.map D.int)) 0 1 .no (by simp)
  refine ⟨a, b, ?_⟩
  have e : mIt (mSl (mVar 0) mO0 (mO1 (mC (.int 63)))) [.val (.lst (ns.map D.int)), .val (.int 0), .val (.int 1), .no] = .ok ((ns.take k).map D.int) [.val (.lst (ns.map D.int)), .val (.int 0), .val (.int 1), .no] := by
    simp [mIt, mFrz, mSl, mO0, mO1, mC, mVar, rd, frz, hk]
  have e3 : mFor (mIt (mSl (mVar 0) mO0 (mO1 (mC (.int 63))))) (gtN 3) bState [.val (.lst (ns.map D.int)), .val (.int 0), .val (.int 1), .no] = .nx [.val (.lst (ns.map D.int)), .val (.int a), .val (.int b), c'] := by
    unfold mFor
    rw [e]
    exact h
  exact call_rt (e := .new (stt a b)) (ρ := [.val (.lst (ns.map D.int)), .val (.int a), .val (.int b), c']) ((seq_nx rfl).trans ((seq_nx rfl).trans ((seq_nx e3).trans (by simp [mSeq, mIfS, mTst, mTru, mNotT, mOrT, mAndT, mNotV, mAndV, mOp, mUn, mVar, rd, Cell.rd, Mo.rd, mC, dIx, atI, ixN, dGt, dGe, dLt, dLe, dSub, dAdd, mAddL, evL, dMul, mulOk, dNeg, dAnd, dEq, dNe, eqD, dI2, mSet, mCB, mCons, mNil, rds, bInt, bAbs, bLen, bTuple, dMod, dI2c, setC, giveOut, putC, mStore, mFrz, frz, ownL, stAt, dDiv, divOk, mRet, keepB, mNext, mDrop, mApp, mRep, mLst, mTup, dsOf, szOk, mIsi, dIsi, truD, mIfE, stt])))) (fun i z => by cases z)
def bDraw : Rho → Out := mDrop (mApp 3 (mPop 2 (mCall m_f__law_take 2 (mCons (mVar 0) (mCons (mFrz (mCB bLen (mCons (mVar 2) mNil))) mNil)))))
def cDraw : Rho → R Bool := mTst (mOp dGt (mCB bLen (mCons (mVar 2) mNil)) (mC (.int 0)))
theorem cDraw_eq (c0 c1 c3 : Cell) (rest : List Nat) : cDraw [c0, c1, .own false (.lst (rest.map dI)), c3] = .ok (decide (0 < rest.length)) [c0, c1, .own false (.lst (rest.map dI)), c3] := by
  unfold cDraw
  simp [mSeq, mIfS, mTst, mTru, mNotT, mOrT, mAndT, mNotV, mAndV, mOp, mUn, mVar, rd, Cell.rd, Mo.rd, mC, dIx, atI, ixN, dGt, dGe, dLt, dLe, dSub, dAdd, mAddL, evL, dMul, mulOk, dNeg, dAnd, dEq, dNe, eqD, dI2, mSet, mCB, mCons, mNil, rds, bInt, bAbs, bLen, bTuple, dMod, dI2c, setC, giveOut, putC, mStore, mFrz, frz, ownL, stAt, dDiv, divOk, mRet, keepB, mNext, mDrop, mApp, mRep, mLst, mTup, dsOf, szOk, mIsi, dIsi, truD, mIfE]
theorem bDraw_step (a b : Int) (c1 : Cell) (rest out : List Nat) (h0 : 0 < rest.length) (h1 : rest.length ≤ 1000) (h2 : out.length ≤ 1000) :
    ∃ (a' b' : Int) (rest' out' : List Nat), bDraw [.own true (stt a b), c1, .own false (.lst (rest.map dI)), .own false (.lst (out.map dI))] = .nx [.own true (stt a' b'), c1, .own false (.lst (rest'.map dI)), .own false (.lst (out'.map dI))] ∧
      rest'.length + 1 = rest.length ∧ (rest' ++ out').Perm (rest ++ out) := by
  obtain ⟨v, a', b', ht, v0, v1⟩ := x_take a b rest.length (by omega) (by omega)
  obtain ⟨hv, hp⟩ := pop_eq v0 v1 h1
  refine ⟨a', b', rest.eraseIdx v.toNat, out ++ [rest[v.toNat]], ?_, by rw [List.length_eraseIdx_of_lt hv]; omega, ?_⟩
  · have e : mCall m_f__law_take 2 (mCons (mVar 0) (mCons (mFrz (mCB bLen (mCons (mVar 2) mNil))) mNil)) [.own true (stt a b), c1, .own false (.lst (rest.map dI)), .own false (.lst (out.map dI))] = .ok (.d (.int v)) [.own true (stt a' b'), c1, .own false (.lst (rest.map dI)), .own false (.lst (out.map dI))] :=
      callB (j := 0) (o := stt a b) (o' := stt a' b') (d := .int rest.length) rfl (by simp [mSeq, mIfS, mTst, mTru, mNotT, mOrT, mAndT, mNotV, mAndV, mOp, mUn, mVar, rd, Cell.rd, Mo.rd, mC, dIx, atI, ixN, dGt, dGe, dLt, dLe, dSub, dAdd, mAddL, evL, dMul, mulOk, dNeg, dAnd, dEq, dNe, eqD, dI2, mSet, mCB, mCons, mNil, rds, bInt, bAbs, bLen, bTuple, dMod, dI2c, setC, giveOut, putC, mStore, mFrz, frz, ownL, stAt, dDiv, divOk, mRet, keepB, mNext, mDrop, mApp, mRep, mLst, mTup, dsOf, szOk, mIsi, dIsi, truD, mIfE]) ht
    have e2 : mPop 2 (mCall m_f__law_take 2 (mCons (mVar 0) (mCons (mFrz (mCB bLen (mCons (mVar 2) mNil))) mNil))) [.own true (stt a b), c1, .own false (.lst (rest.map dI)), .own false (.lst (out.map dI))] = .ok (.d (dI rest[v.toNat])) [.own true (stt a' b'), c1, .own false (.lst ((rest.eraseIdx v.toNat).map dI)), .own false (.lst (out.map dI))] := by
      unfold mPop
      rw [e]
      simp [ownL, hp]
    have h3 : out.length ≤ 1000000 := by omega
    exact (app_nx rfl (frz_d e2) rfl (by simpa using h3)).trans (by simp [dI])
  · have p1 : (rest[v.toNat] :: rest.eraseIdx v.toNat).Perm rest := er_perm _ _ hv
    have p2 : (rest.eraseIdx v.toNat ++ (out ++ [rest[v.toNat]])).Perm ((rest[v.toNat] :: rest.eraseIdx v.toNat) ++ out) := by
      rw [← List.append_assoc]
      exact List.perm_append_comm
    exact p2.trans (p1.append_right out)
theorem draw_loop (c1 : Cell) : ∀ (m : Nat) (a b : Int) (rest out : List Nat), rest.length = m → rest.length + out.length ≤ 1000 →
    ∃ (a' b' : Int) (res : List Nat), mWhile cDraw bDraw [.own true (stt a b), c1, .own false (.lst (rest.map dI)), .own false (.lst (out.map dI))] = .nx [.own true (stt a' b'), c1, .own false (.lst []), .own false (.lst (res.map dI))] ∧ res.Perm (rest ++ out)
  | 0, a, b, rest, out, h, hb => by
    have e : rest = [] := List.length_eq_zero_iff.mp h
    subst e
    exact ⟨a, b, out, while_stop (cDraw_eq _ _ _ []), .refl _⟩
  | m + 1, a, b, rest, out, h, hb => by
    obtain ⟨a1, b1, r1, o1, e, hl, hp⟩ := bDraw_step a b c1 rest out (by omega) (by omega) (by omega)
    have hl2 := hp.length_eq
    rw [List.length_append, List.length_append] at hl2
    obtain ⟨a2, b2, res, e2, hp2⟩ := draw_loop c1 m a1 b1 r1 o1 (by omega) (by omega)
    refine ⟨a2, b2, res, while_go ?_ e e2 (fun z => by cases z), hp2.trans hp⟩
    rw [cDraw_eq]
    rw [decide_eq_true (by omega)]
theorem x_drawn (a b : Int) (n : Nat) (hn : n ≤ 1000) : ∃ (p : List Nat) (a' b' : Int), m_f__law_drawn [.own true (stt a b), .val (.int n)] = .ok (.d (row p)) [.own true (stt a' b'), .no] ∧ IsP p ∧ p.length = n := by
  obtain ⟨a', b', res, e, hp⟩ := draw_loop (.val (.int n)) n a b (List.range n) [] (by simp) (by simpa using hn)
  rw [List.append_nil] at hp
  have i := isP_of hp
  refine ⟨res, a', b', ?_, i.1, i.2⟩
  have h1 : (n : Int) ≤ 1000000 := by omega
  have h2 : (-1000000 : Int) ≤ n := by omega
  have e0 : mPar 2 3 (mLstRg1 (mVar 1)) (mLst mNil) [.own true (stt a b), .val (.int n), .no, .no] = .nx [.own true (stt a b), .val (.int n), .own false (.lst ((List.range n).map dI)), .own false (.lst ([].map dI))] := by
    simp [mPar, mLstRg1, mRng1, mVar, rngOk, h1, h2, rng_eq, mLst, mNil, dsOf, szOk, putC]
  exact call_rt (e := .d (row res)) (ρ := [.own true (stt a' b'), .val (.int n), .own false (.lst []), .own false (.lst (res.map dI))]) ((seq_nx e0).trans ((seq_nx e).trans (by simp [mSeq, mIfS, mTst, mTru, mNotT, mOrT, mAndT, mNotV, mAndV, mOp, mUn, mVar, rd, Cell.rd, Mo.rd, mC, dIx, atI, ixN, dGt, dGe, dLt, dLe, dSub, dAdd, mAddL, evL, dMul, mulOk, dNeg, dAnd, dEq, dNe, eqD, dI2, mSet, mCB, mCons, mNil, rds, bInt, bAbs, bLen, bTuple, dMod, dI2c, setC, giveOut, putC, mStore, mFrz, frz, ownL, stAt, dDiv, divOk, mRet, keepB, mNext, mDrop, mApp, mRep, mLst, mTup, dsOf, szOk, mIsi, dIsi, truD, mIfE, row]))) (fun i z => by cases z)
def cPerm : Rho → R Bool := mOrT (mNotT (mTru (mCall m_f_is_integer 1 (mCons (mFrz (mVar 2)) mNil)))) (mOrT (mTst (mOp dLt (mVar 2) (mC (.int 0)))) (mOrT (mTst (mOp dGe (mVar 2) (mCB bLen (mCons (mVar 0) mNil)))) (mTru (mOp dIx (mVar 1) (mVar 2)))))
def bPerm : Rho → Out := mSeq (mIfS cPerm (mRet (mC (.bl false))) mNext) (mStore 1 (mVar 2) (mC (.bl true)))
theorem int_call {x : D} (hx : ∀ a, x ≠ .ref a) (c0 c1 : Cell) : mCall m_f_is_integer 1 (mCons (mFrz (mVar 2)) mNil) [c0, c1, .val x] = .ok (.d (.bl (match x with | .int _ => true | _ => false))) [c0, c1, .val x] := by
  rw [call1 (d := x) (ρ1 := [c0, c1, .val x]) rfl, x_is_integer x hx]; rfl
theorem cPerm_bad {ds : List D} {L : List Nat} {x : D} (h : Bad ds.length L x) : cPerm [.val (.tup ds), .own false (.lst (marks ds.length L)), .val x] = .ok true [.val (.tup ds), .own false (.lst (marks ds.length L)), .val x] := by
  have nr : ∀ a, x ≠ .ref a := fun a e => by subst e; exact h
  have e1 := int_call nr (.val (.tup ds)) (.own false (.lst (marks ds.length L)))
  unfold cPerm
  cases x with
  | ref a => exact h.elim
  | int i =>
    have c : decide (i < 0) = true ∨ (decide (i < 0) = false ∧ decide ((ds.length : Int) ≤ i) = true) ∨ (∃ k : Nat, i = k ∧ k < ds.length ∧ k ∈ L) := by
      rcases h with h | h | h
      · exact .inl (decide_eq_true h)
      · by_cases c : i < 0
        · exact .inl (decide_eq_true c)
        · exact .inr (.inl ⟨decide_eq_false c, decide_eq_true h⟩)
      · exact .inr (.inr h)
    rcases c with c | ⟨c, c2⟩ | ⟨k, rfl, c, m⟩
    · simp [mOrT, mNotT, mTru, e1, rd, truD, mTst, mOp, mVar, mC, dLt, dI2, c]
    · simp at c c2
      have c3 : ¬ i < 0 := by omega
      simp [mOrT, mNotT, mTru, e1, rd, truD, mTst, mOp, mVar, mC, dLt, dI2, c3, dGe, mCB, mCons, mNil, rds, bLen, c2]
    · have m1 := marks_at L c
      have c3 : ¬ ((k : Int) < 0) := by omega
      simp [mOrT, mNotT, mTru, e1, rd, Cell.rd, Mo.rd, truD, mTst, mOp, mVar, mC, dLt, dI2, c3, dGe, mCB, mCons, mNil, rds, bLen, m1, m]
      cases decide (ds.length ≤ k) <;> rfl
  | non => simp [mOrT, mNotT, mTru, e1, rd, truD]
  | emp => simp [mOrT, mNotT, mTru, e1, rd, truD]
  | bl b => simp [mOrT, mNotT, mTru, e1, rd, truD]
  | str s => simp [mOrT, mNotT, mTru, e1, rd, truD]
  | tup s => simp [mOrT, mNotT, mTru, e1, rd, truD]
  | lst s => simp [mOrT, mNotT, mTru, e1, rd, truD]
theorem cPerm_good {ds : List D} {L : List Nat} {k : Nat} (h : k < ds.length) (m : k ∉ L) : cPerm [.val (.tup ds), .own false (.lst (marks ds.length L)), .val (dI k)] = .ok false [.val (.tup ds), .own false (.lst (marks ds.length L)), .val (dI k)] := by
  have e1 := int_call (x := dI k) (fun a e => by cases e) (.val (.tup ds)) (.own false (.lst (marks ds.length L)))
  have m1 := marks_at L h
  have c3 : ¬ ((k : Int) < 0) := by omega
  have c4 : ¬ (ds.length ≤ k) := by omega
  unfold cPerm
  simp only [dI] at e1 ⊢
  simp [mOrT, mNotT, mTru, e1, rd, Cell.rd, Mo.rd, truD, mTst, mOp, mVar, mC, dLt, dI2, c3, c4, dGe, mCB, mCons, mNil, rds, bLen, m1, m]
theorem bPerm_bad {ds : List D} {L : List Nat} {x : D} (h : Bad ds.length L x) : bPerm [.val (.tup ds), .own false (.lst (marks ds.length L)), .val x] = .rt (.d (.bl false)) [.val (.tup ds), .own false (.lst (marks ds.length L)), .val x] := by
  unfold bPerm
  refine seq_rt ?_
  unfold mIfS
  rw [cPerm_bad h]; rfl
theorem bPerm_good {ds : List D} {L : List Nat} {k : Nat} (h : k < ds.length) (m : k ∉ L) : bPerm [.val (.tup ds), .own false (.lst (marks ds.length L)), .val (dI k)] = .nx [.val (.tup ds), .own false (.lst (marks ds.length (L ++ [k]))), .val (dI k)] := by
  unfold bPerm
  have e : mIfS cPerm (mRet (mC (.bl false))) mNext [.val (.tup ds), .own false (.lst (marks ds.length L)), .val (dI k)] = .nx [.val (.tup ds), .own false (.lst (marks ds.length L)), .val (dI k)] := by
    unfold mIfS
    rw [cPerm_good h m]; rfl
  refine (seq_nx e).trans ?_
  have s := marks_set L h
  simp [mStore, mFrz, mC, frz, ownL, mVar, dI, s]
theorem put2 {c : Cell} {d : D} (h : Clear c) (a b : Cell) : gtN 2 d [a, b, c] = some [a, b, .val d] := by
  cases c with
  | own b o => exact (h _ _ rfl).elim
  | no => rfl
  | val d => rfl
theorem perm_loop {ds : List D} {more : List D} : ∀ (l L : List Nat) (c : Cell), Clear c → (∀ x ∈ l, x < ds.length) → (L ++ l).Nodup → ∃ c', Clear c' ∧ forL (gtN 2) bPerm (l.map dI ++ more) [.val (.tup ds), .own false (.lst (marks ds.length L)), c] = forL (gtN 2) bPerm more [.val (.tup ds), .own false (.lst (marks ds.length (L ++ l))), c']
  | [], L, c, hc, _, _ => ⟨c, hc, by simp⟩
  | k :: l, L, c, hc, lt, nd => by
    obtain ⟨c', h1, h2⟩ := perm_loop l (L ++ [k]) (.val (dI k)) (fun _ _ z => by cases z) (fun x hx => lt x (List.mem_cons_of_mem _ hx)) (by simpa using nd)
    refine ⟨c', h1, ?_⟩
    have m : k ∉ L := fun hk => (List.nodup_append.mp nd).2.2 k hk k (by simp) rfl
    rw [List.map_cons, List.cons_append]
    rw [forL_cons (put2 hc _ _) (bPerm_good (lt k (by simp)) m), h2]
    simp
theorem perm_pre (ds : List D) (h : ds.length ≤ 1000000) (rest : Rho → Out) : mSeq (mIfS (mNotT (mTru (mIsi .tuple (mVar 0)))) (mRet (mC (.bl false))) mNext) (mSeq (mSet 1 (mRep (mLst (mCons (mFrz (mC (.bl false))) mNil)) (mCB bLen (mCons (mVar 0) mNil)))) rest) [.val (.tup ds), .no, .no] = rest [.val (.tup ds), .own false (.lst (marks ds.length [])), .no] := by
  have h1 : (ds.length : Int) ≤ 1000000 := by omega
  have h2 : (-1000000 : Int) ≤ ds.length := by omega
  refine (seq_nx (ρ1 := [.val (.tup ds), .no, .no]) rfl).trans (seq_nx ?_)
  rw [← marks_nil]
  simp [mSet, mRep, mLst, mCons, mFrz, mC, frz, mNil, dsOf, szOk, mCB, mVar, rds, rd, bLen, h, h1, h2, setC, giveOut, putC]
theorem it_tup0 (ds : List D) (c1 c2 : Cell) : mIt (mVar 0) [.val (.tup ds), c1, c2] = .ok ds [.val (.tup ds), c1, c2] := rfl
theorem x_perm_row {p : List Nat} (P : IsP p) (hp : p.length ≤ 1000000) : m_f_is_permutation [.val (row p)] = .ok (.d (.bl true)) [.no] := by
  obtain ⟨c', hc, e⟩ := perm_loop (ds := p.map dI) (more := []) p [] .no (fun _ _ z => by cases z) (fun x hx => by rw [List.length_map]; exact P.lt x hx) (by simpa using P.nd)
  rw [List.append_nil] at e
  have e3 : mFor (mIt (mVar 0)) (gtN 2) bPerm [.val (.tup (p.map dI)), .own false (.lst (marks (p.map dI).length [])), .no] = .nx [.val (.tup (p.map dI)), .own false (.lst (marks (p.map dI).length ([] ++ p))), c'] := by
    unfold mFor
    rw [it_tup0, out_ok]
    exact e
  exact call_rt (e := .d (.bl true)) (ρ := [.val (.tup (p.map dI)), .own false (.lst (marks (p.map dI).length ([] ++ p))), c']) (cs := [.val (row p)]) ((perm_pre (p.map dI) (by simpa using hp) _).trans ((seq_nx e3).trans rfl)) (fun i z => by cases z)
theorem x_perm_bad {l : List Nat} {x : D} {more : List D} (lt : ∀ y ∈ l, y < l.length + 1 + more.length) (nd : l.Nodup) (hl : l.length + more.length ≤ 1000) (hb : Bad (l.length + 1 + more.length) l x) : m_f_is_permutation [.val (.tup (l.map dI ++ x :: more))] = .ok (.d (.bl false)) [.no] := by
  have len : (l.map dI ++ x :: more).length = l.length + 1 + more.length := by simp; omega
  obtain ⟨c', hc, e⟩ := perm_loop (ds := l.map dI ++ x :: more) (more := x :: more) l [] .no (fun _ _ z => by cases z) (fun y hy => by rw [len]; exact lt y hy) (by simpa using nd)
  have e3 : mFor (mIt (mVar 0)) (gtN 2) bPerm [.val (.tup (l.map dI ++ x :: more)), .own false (.lst (marks (l.map dI ++ x :: more).length [])), .no] = .rt (.d (.bl false)) [.val (.tup (l.map dI ++ x :: more)), .own false (.lst (marks (l.map dI ++ x :: more).length ([] ++ l))), .val x] := by
    unfold mFor
    rw [it_tup0, out_ok]
    refine e.trans ?_
    unfold forL
    simp only [put2 hc]
    rw [bPerm_bad (by rw [len]; exact hb)]
  exact call_rt (e := .d (.bl false)) (cs := [.val (.tup (l.map dI ++ x :: more))]) (ρ := [.val (.tup (l.map dI ++ x :: more)), .own false (.lst (marks (l.map dI ++ x :: more).length ([] ++ l))), .val x]) ((perm_pre (l.map dI ++ x :: more) (by rw [len]; omega) _).trans (seq_rt e3)) (fun i z => by cases z)
theorem x_perm_not {x : D} (h : match x with | .tup _ => False | .ref _ => False | _ => True) : m_f_is_permutation [.val x] = .ok (.d (.bl false)) [.no] := by
  cases x <;> first | exact h.elim | rfl
end K04
end

set_option Elab.async false
set_option linter.all false
set_option maxRecDepth 100000
set_option autoImplicit false
noncomputable section
namespace K04
open PySem L2 Mi Lg
/-! permutations turned, multiplied -/
theorem x_turned {d : Nat} (g : G d) (hd : d ≤ 1000) : m_f_turned [.val (rw' g)] = .ok (.d (rw' g.inv)) [.no] := by
  have e1 : mSet 1 (mRep (mLst (mCons (mFrz (mC (.int 0))) mNil)) (mCB bLen (mCons (mVar 0) mNil))) [.val (rw' g), .no, .no, .no] = .nx [.val (rw' g), .own false (.lst ((List.replicate d 0).map dI)), .no, .no] := by
    rw [set_ok (rep_ok ev_c (ev_cb1 (ev_var rfl) (len_row g)) (by omega)), rep0]; rfl
  obtain ⟨ρ', e2, o, c2, c3, rfl, lo, _, _, ho⟩ := for_enum (mt := gtP) (b := mStore 1 (mVar 3) (mVar 2)) (ds := g.l.map dI) (j := 0) (ρ := [.val (rw' g), .own false (.lst ((List.replicate d 0).map dI)), .no, .no])
    (P := fun i ρ => ∃ (o : List Nat) (c2 c3 : Cell), ρ = [.val (rw' g), .own false (.lst (o.map dI)), c2, c3] ∧ o.length = d ∧ Clear c2 ∧ Clear c3 ∧ ∀ x, x < i → x < d → pf o (pf g.l x) = x)
    (fun i x ρ hx hP => by
      obtain ⟨o, c2, c3, rfl, lo, h2, h3, ho⟩ := hP
      have hi : i < d := by have := (List.getElem?_eq_some_iff.mp hx).1; rwa [row_len] at this
      rw [row_get g hi] at hx
      cases hx
      rw [Nat.zero_add] at ho ⊢
      refine ⟨_, _, gtP_eq h2 h3, stored (k := pf g.l i) (d := dI i) (b := false) (xs := o.map dI) (ev_var rfl) (ev_var rfl) rfl (by rw [List.length_map, lo]; exact g.lt hi), o.set (pf g.l i) i, .val (dI i), .val (dI (pf g.l i)), by rw [List.map_set]; rfl, by rw [List.length_set, lo], (fun _ _ z => by cases z), (fun _ _ z => by cases z), fun x hx hxd => ?_⟩
      rw [pf_set (by rw [lo]; exact g.lt hi)]
      by_cases c : pf g.l i = pf g.l x
      · rw [if_pos c]; exact g.inj hi hxd c
      · rw [if_neg c]
        exact ho x (by have : x ≠ i := fun z => c (by rw [z]); omega) hxd)
    ⟨List.replicate d 0, .no, .no, rfl, by simp, (fun _ _ z => by cases z), (fun _ _ z => by cases z), fun x h => by omega⟩
  have e3 : mFor (mEnum (mVar 0)) gtP (mStore 1 (mVar 3) (mVar 2)) [.val (rw' g), .own false (.lst ((List.replicate d 0).map dI)), .no, .no] = .nx [.val (rw' g), .own false (.lst (o.map dI)), c2, c3] := by
    unfold mFor
    rw [enum_tup (ds := g.l.map dI) (ev_var rfl), out_ok]
    exact e2
  have eo : o = g.inv.l := eq_of_pf lo g.inv.n fun y hy => by
    obtain ⟨x, hx, rfl⟩ := g.sur hy
    rw [inv_pf g hx]
    exact ho x (by rw [row_len]; omega) hx
  refine call_rt (e := .d (rw' g.inv)) (cs := [.val (rw' g)]) (ρ := [.val (rw' g), .own false (.lst (o.map dI)), c2, c3]) ((seq_nx e1).trans ((seq_nx e3).trans (ev_ret (ev_cbR (rv_own rfl) ?_)))) (fun i z => by cases z)
  rw [eo]; rfl
theorem x_times {d : Nat} (p q : G d) (hd : d ≤ 1000) : m_f__law_times [.val (rw' p), .val (rw' q)] = .ok (.d (rw' (p.mul q))) [.no, .no] := by
  have e : Ev (mCB bTuple (mCons (mLc (mIt (mVar 0)) [2] (gtN 2) mYes (mOp dIx (mVar 1) (mVar 2))) mNil)) [.val (rw' p), .val (rw' q), .no] (.tup ((p.l.map dI).map fun x => match x with | .int i => dI (pf q.l i.toNat) | x => x)) := by
    refine ev_tupL _ (it_tup (ds := p.l.map dI) (ev_var rfl)) rfl (by rw [row_len]; omega) fun x hx => ?_
    obtain ⟨y, hy, rfl⟩ := List.mem_map.mp hx
    have := p.p.lt y hy
    rw [p.n] at this
    exact ev_op (ev_var rfl) (ev_var rfl) (row_ix q this)
  have e2 : ((p.l.map dI).map fun x => match x with | .int i => dI (pf q.l i.toNat) | x => x) = (p.mul q).l.map dI := by
    rw [mul_l, List.map_map, List.map_map]
    exact List.map_congr_left fun x _ => rfl
  rw [e2] at e
  exact call_rt (e := .d (rw' (p.mul q))) (cs := [.val (rw' p), .val (rw' q)]) (ρ := [.val (rw' p), .val (rw' q), .no]) (ev_ret e) (fun i z => by cases z)
theorem x_back {d : Nat} (g : G d) (hd : d ≤ 1000) : m_f__law_back [.val (rw' g)] = .ok (.d (rw' g.inv)) [.no] := by
  have e1 : mSet 1 (mRep (mLst (mCons (mFrz (mC (.int 0))) mNil)) (mCB bLen (mCons (mVar 0) mNil))) [.val (rw' g), .no, .no] = .nx [.val (rw' g), .own false (.lst ((List.replicate d 0).map dI)), .no] := by
    rw [set_ok (rep_ok ev_c (ev_cb1 (ev_var rfl) (len_row g)) (by omega)), rep0]; rfl
  obtain ⟨ρ', e2, o, c2, rfl, lo, _, ho⟩ := for_range (mt := gtN 2) (b := mStore 1 (mOp dIx (mVar 0) (mVar 2)) (mVar 2)) (n := d) (m := mCB bLen (mCons (mVar 0) mNil)) (ρ := [.val (rw' g), .own false (.lst ((List.replicate d 0).map dI)), .no]) (ρ1 := [.val (rw' g), .own false (.lst ((List.replicate d 0).map dI)), .no])
    (P := fun i ρ => ∃ (o : List Nat) (c2 : Cell), ρ = [.val (rw' g), .own false (.lst (o.map dI)), c2] ∧ o.length = d ∧ Clear c2 ∧ ∀ x, x < i → x < d → pf o (pf g.l x) = x)
    (fun i ρ hi hP => by
      obtain ⟨o, c2, rfl, lo, h2, ho⟩ := hP
      refine ⟨_, _, put_c2 h2, stored (k := pf g.l i) (d := dI i) (b := false) (xs := o.map dI) (ev_var rfl) (ev_op (ev_var rfl) (ev_var rfl) (row_ix g hi)) rfl (by rw [List.length_map, lo]; exact g.lt hi), o.set (pf g.l i) i, .val (dI i), by rw [List.map_set]; rfl, by rw [List.length_set, lo], (fun _ _ z => by cases z), fun x hx hxd => ?_⟩
      rw [pf_set (by rw [lo]; exact g.lt hi)]
      by_cases c : pf g.l i = pf g.l x
      · rw [if_pos c]; exact g.inj hi hxd c
      · rw [if_neg c]
        exact ho x (by have : x ≠ i := fun z => c (by rw [z]); omega) hxd)
    (ev_cb1 (ev_var rfl) (len_row g)) (by omega)
    ⟨List.replicate d 0, .no, rfl, by simp, (fun _ _ z => by cases z), fun x h => by omega⟩
  have eo : o = g.inv.l := eq_of_pf lo g.inv.n fun y hy => by
    obtain ⟨x, hx, rfl⟩ := g.sur hy
    rw [inv_pf g hx]
    exact ho x hx hx
  refine call_rt (e := .d (rw' g.inv)) (cs := [.val (rw' g)]) (ρ := [.val (rw' g), .own false (.lst (o.map dI)), c2]) ((seq_nx e1).trans ((seq_nx e2).trans (ev_ret (ev_cbR (rv_own rfl) ?_)))) (fun i z => by cases z)
  rw [eo]; rfl
theorem x_perm_G {d : Nat} (g : G d) (hd : d ≤ 1000) : m_f_is_permutation [.val (rw' g)] = .ok (.d (.bl true)) [.no] := x_perm_row g.p (by rw [g.n]; omega)
theorem tk {j : Nat} {bb : Bool} {m : Rho → R EV} {ρ : Rho} {a b M : Int} (h : ρ[j]? = some (.own bb (stt a b))) (hm : Ev m ρ (.int M)) (h0 : 0 < M) (h1 : M < 1073741824) : ∃ (v : Nat) (a' b' : Int), mCall m_f__law_take 2 (mCons (mVar j) (mCons (mFrz m) mNil)) ρ = .ok (.d (.int v)) (ρ.set j (.own bb (stt a' b'))) ∧ (v : Int) < M := by
  obtain ⟨v, a', b', e, v0, v1⟩ := x_take a b M h0 h1
  refine ⟨v.toNat, a', b', ?_, by omega⟩
  rw [show ((v.toNat : Nat) : Int) = v from by omega]
  exact callB h (ev_frz hm) e
theorem x_then {d : Nat} (p q : G d) (hd : d ≤ 1000) : m_f_then [.val (rw' p), .val (rw' q)] = .ok (.d (rw' (p.mul q))) [.no, .no] := by
  have e : Ev (mCB bTuple (mCons (mLc (mIt (mVar 0)) [2] (gtN 2) mYes (mOp dIx (mVar 1) (mVar 2))) mNil)) [.val (rw' p), .val (rw' q), .no] (.tup ((p.l.map dI).map fun x => match x with | .int i => dI (pf q.l i.toNat) | x => x)) := by
    refine ev_tupL _ (it_tup (ds := p.l.map dI) (ev_var rfl)) rfl (by rw [row_len]; omega) fun x hx => ?_
    obtain ⟨y, hy, rfl⟩ := List.mem_map.mp hx
    have := p.p.lt y hy
    rw [p.n] at this
    exact ev_op (ev_var rfl) (ev_var rfl) (row_ix q this)
  have e2 : ((p.l.map dI).map fun x => match x with | .int i => dI (pf q.l i.toNat) | x => x) = (p.mul q).l.map dI := by
    rw [mul_l, List.map_map, List.map_map]
    exact List.map_congr_left fun x _ => rfl
  rw [e2] at e
  exact call_rt (e := .d (rw' (p.mul q))) (cs := [.val (rw' p), .val (rw' q)]) (ρ := [.val (rw' p), .val (rw' q), .no]) (ev_ret e) (fun i z => by cases z)
end K04
end

set_option Elab.async false
set_option linter.all false
set_option maxRecDepth 100000
set_option autoImplicit false
noncomputable section
namespace K04
open PySem L2 Mi Lg
/-! cycles, as both sides walk them: as for law k05, with this law's mirrors -/
def rot : List Nat → List Nat
  | [] => []
  | x :: c => c ++ [x]
structure Cycs (p : List Nat) (C : List (List Nat)) : Prop where
  all : C.flatten.Perm (List.range p.length)
  ne : ∀ c ∈ C, c ≠ []
  turn : ∀ c ∈ C, c.map (pf p) = rot c
inductive Walk (p : List Nat) : List Nat → Nat → List Nat → Prop where
  | stop {L : List Nat} {a : Nat} : a ∈ L → Walk p L a []
  | step {L row : List Nat} {a : Nat} : a ∉ L → a < p.length → L.length < p.length → Walk p (L ++ [a]) (pf p a) row → Walk p L a (a :: row)
inductive Cyc (p : List Nat) : List Nat → List Nat → List (List Nat) → List (List Nat) → Prop where
  | nil {L : List Nat} {C : List (List Nat)} : Cyc p [] L C C
  | cons {is L row : List Nat} {i : Nat} {C C' : List (List Nat)} : i < p.length → Walk p L i row → row.length ≤ p.length → Cyc p is (L ++ row) (if row = [] then C else C ++ [row]) C' → Cyc p (i :: is) L C C'
theorem nd_len {L : List Nat} {d : Nat} (nd : L.Nodup) (lt : ∀ x ∈ L, x < d) : L.length ≤ d := by
  have s := sub_len nd fun x hx => List.mem_range.mpr (lt x hx)
  simpa using s
theorem walk {p : List Nat} (P : IsP p) {L : List Nat} (cl : ∀ y ∈ L, ∃ z ∈ L, pf p z = y) {s : Nat} : ∀ (n : Nat) (r : List Nat) (a : Nat), p.length - (L ++ r).length ≤ n → (L ++ r).Nodup → (∀ x ∈ L ++ r, x < p.length) → a < p.length → r ++ [a] = s :: r.map (pf p) →
    ∃ row, Walk p (L ++ r) a row ∧ (L ++ (r ++ row)).Nodup ∧ (∀ x ∈ L ++ (r ++ row), x < p.length) ∧ (r ++ row).map (pf p) = rot (r ++ row) ∧ a ∈ L ++ (r ++ row) := by
  intro n
  induction n with
  | zero =>
    intro r a hn nd lt ha ch
    by_cases m : a ∈ L ++ r
    · exact fin P cl r a nd lt ha ch m
    · exfalso
      have nd2 : (L ++ r ++ [a]).Nodup := by
        rw [List.nodup_append]
        exact ⟨nd, by simp, fun x hx y hy e => m (by simp at hy; rw [← hy, ← e]; exact hx)⟩
      have := nd_len nd2 (d := p.length) fun x hx => by
        rcases List.mem_append.mp hx with hx | hx
        · exact lt x hx
        · simp at hx; rw [hx]; exact ha
      rw [List.length_append] at this
      simp only [List.length_singleton] at this
      omega
  | succ n ih =>
    intro r a hn nd lt ha ch
    by_cases m : a ∈ L ++ r
    · exact fin P cl r a nd lt ha ch m
    · have nd2 : (L ++ (r ++ [a])).Nodup := by
        rw [← List.append_assoc, List.nodup_append]
        exact ⟨nd, by simp, fun x hx y hy e => m (by simp at hy; rw [← hy, ← e]; exact hx)⟩
      have lt2 : ∀ x ∈ L ++ (r ++ [a]), x < p.length := fun x hx => by
        rw [← List.append_assoc] at hx
        rcases List.mem_append.mp hx with hx | hx
        · exact lt x hx
        · simp at hx; rw [hx]; exact ha
      have len := nd_len nd2 lt2
      rw [← List.append_assoc, List.length_append, List.length_singleton] at len
      obtain ⟨row, w, h1, h2, h3, h4⟩ := ih (r ++ [a]) (pf p a) (by rw [← List.append_assoc, List.length_append, List.length_singleton]; omega) nd2 lt2 (pf_lt P ha) (by
        rw [List.map_append]
        show _ = (s :: r.map (pf p)) ++ [pf p a]
        rw [← ch])
      refine ⟨a :: row, .step m ha (by omega) (by simpa using w), by simpa using h1, fun x hx => h2 x (by simpa using hx), by simpa using h3, by simp⟩
where
  fin {p : List Nat} (P : IsP p) {L : List Nat} (cl : ∀ y ∈ L, ∃ z ∈ L, pf p z = y) {s : Nat} (r0 : List Nat) (a : Nat) (nd0 : (L ++ r0).Nodup) (lt0 : ∀ x ∈ L ++ r0, x < p.length) (ha : a < p.length) (ch0 : r0 ++ [a] = s :: r0.map (pf p)) (m0 : a ∈ L ++ r0) :
    ∃ row, Walk p (L ++ r0) a row ∧ (L ++ (r0 ++ row)).Nodup ∧ (∀ x ∈ L ++ (r0 ++ row), x < p.length) ∧ (r0 ++ row).map (pf p) = rot (r0 ++ row) ∧ a ∈ L ++ (r0 ++ row) := by
    refine ⟨[], .stop m0, by simpa using nd0, fun x hx => lt0 x (by simpa using hx), ?_, by simpa using m0⟩
    rw [List.append_nil]
    match r0, ch0, nd0, lt0, m0 with
    | [], ch, nd, lt, m => rfl
    | x :: r, ch, nd, lt, m =>
      simp only [List.cons_append, List.cons.injEq] at ch
      obtain ⟨rfl, ch⟩ := ch
      have inj : ∀ y ∈ x :: r, ∀ z ∈ L ++ (x :: r), pf p y = pf p z → y = z := fun y hy z hz e => pf_inj P (lt y (List.mem_append_right _ hy)) (lt z hz) e
      have ndm : ((x :: r).map (pf p)).Nodup := by
        have nr := (List.nodup_append.mp nd).2.1
        exact List.Pairwise.map _ (S := fun a b => a ≠ b) (R := fun a b => a ∈ (x :: r) ∧ b ∈ (x :: r) ∧ a ≠ b) (fun u v h e => h.2.2 (inj u h.1 v (List.mem_append_right _ h.2.1) e)) (List.Pairwise.and_mem.mp nr)
      rw [← ch] at ndm
      have ax : a = x := by
        rcases List.mem_append.mp m with m | m
        · exfalso
          have : a ∈ (x :: r).map (pf p) := by rw [← ch]; simp
          obtain ⟨y, hy, e⟩ := List.mem_map.mp this
          obtain ⟨z, hz, e2⟩ := cl a m
          have := inj y hy z (List.mem_append_left _ hz) (e.trans e2.symm)
          subst this
          exact (List.nodup_append.mp nd).2.2 y hz y hy rfl
        · rcases List.mem_cons.mp m with m | m
          · exact m
          · exfalso
            exact (List.nodup_append.mp ndm).2.2 a m a (by simp) rfl
      rw [← ch, ax]; rfl
theorem rot_perm : ∀ c : List Nat, (rot c).Perm c
  | [] => .refl _
  | x :: c => by
    show (c ++ [x]).Perm (x :: c)
    exact List.perm_append_comm
theorem cyc {p : List Nat} (P : IsP p) : ∀ (is : List Nat) (C : List (List Nat)), (∀ i ∈ is, i < p.length) → C.flatten.Nodup → (∀ x ∈ C.flatten, x < p.length) → (∀ c ∈ C, c ≠ []) → (∀ c ∈ C, c.map (pf p) = rot c) →
    ∃ C', Cyc p is C.flatten C C' ∧ C'.flatten.Nodup ∧ (∀ x ∈ C'.flatten, x < p.length) ∧ (∀ c ∈ C', c ≠ []) ∧ (∀ c ∈ C', c.map (pf p) = rot c) ∧ (∀ x ∈ C.flatten, x ∈ C'.flatten) ∧ (∀ i ∈ is, i ∈ C'.flatten)
  | [], C, _, nd, lt, ne, tu => ⟨C, .nil, nd, lt, ne, tu, fun _ h => h, fun _ h => by cases h⟩
  | i :: is, C, hi, nd, lt, ne, tu => by
    have cl : ∀ y ∈ C.flatten, ∃ z ∈ C.flatten, pf p z = y := fun y hy => by
      obtain ⟨c, hc, hy⟩ := List.mem_flatten.mp hy
      have : y ∈ c.map (pf p) := by rw [tu c hc]; exact (rot_perm c).mem_iff.mpr hy
      obtain ⟨z, hz, e⟩ := List.mem_map.mp this
      exact ⟨z, List.mem_flatten.mpr ⟨c, hc, hz⟩, e⟩
    obtain ⟨row, w, h1, h2, h3, h4⟩ := walk P cl (s := i) p.length [] i (by omega) (by simpa using nd) (by simpa using lt) (hi i (by simp)) rfl
    simp only [List.append_nil, List.nil_append] at w h1 h2 h3 h4
    have fl : (if row = [] then C else C ++ [row]).flatten = C.flatten ++ row := by
      split
      · rename_i e; subst e; simp
      · simp
    have mm : ∀ c ∈ (if row = [] then C else C ++ [row]), c ∈ C ∨ (c = row ∧ row ≠ []) := fun c hc => by
      split at hc
      · exact .inl hc
      · rename_i q
        rcases List.mem_append.mp hc with hc | hc
        · exact .inl hc
        · simp at hc; exact .inr ⟨hc, q⟩
    obtain ⟨C', a0, a1, a2, a3, a4, a5, a6⟩ := cyc P is (if row = [] then C else C ++ [row]) (fun j hj => hi j (List.mem_cons_of_mem _ hj)) (by rw [fl]; exact h1) (by rw [fl]; exact h2)
      (fun c hc => by rcases mm c hc with k | ⟨k, q⟩; exact ne c k; rw [k]; exact q) (fun c hc => by rcases mm c hc with k | ⟨k, _⟩; exact tu c k; rw [k]; exact h3)
    rw [fl] at a0 a5
    refine ⟨C', .cons (hi i (by simp)) w ?_ a0, a1, a2, a3, a4, fun x hx => a5 x (List.mem_append_left _ hx), fun j hj => ?_⟩
    · exact nd_len (List.nodup_append.mp h1).2.1 fun x hx => h2 x (List.mem_append_right _ hx)
    · rcases List.mem_cons.mp hj with rfl | hj
      · exact a5 _ h4
      · exact a6 j hj
theorem cycs {p : List Nat} (P : IsP p) : ∃ C, Cyc p (List.range p.length) [] [] C ∧ Cycs p C := by
  obtain ⟨C, a0, a1, a2, a3, a4, a5, a6⟩ := cyc P (List.range p.length) [] (fun i h => List.mem_range.mp h) (by simp) (by simp) (by simp) (by simp)
  refine ⟨C, a0, perm_range a1 a2 ?_, a3, a4⟩
  have s := sub_len List.nodup_range a6
  simpa using s
def NB (c : Cell) : Prop := ∀ o, c ≠ .own true o
def cWk : Rho → R Bool := mNotT (mTru (mOp dIx (mVar 1) (mVar 5)))
def bWk : Rho → Out := mSeq (mStore 1 (mVar 5) (mC (.bl true))) (mSeq (mDrop (mApp 4 (mVar 5))) (mSet 5 (mOp dIx (mVar 0) (mVar 5))))
def sWk (p L : List Nat) (rows : List D) (i : Nat) (r : List Nat) (a : Nat) : Rho := [.val (row p), .own false (.lst (marks p.length L)), .own false (.lst rows), .val (dI i), .own false (.lst (r.map dI)), .val (dI a)]
theorem cWk_eq {p L : List Nat} {a : Nat} (rows : List D) (i : Nat) (r : List Nat) (ha : a < p.length) : cWk (sWk p L rows i r a) = .ok (!decide (a ∈ L)) (sWk p L rows i r a) := by
  have m := marks_at L ha
  unfold cWk sWk
  simp only [dI] at m ⊢
  simp [mNotT, mTru, mOp, mVar, rd, Cell.rd, Mo.rd, m, truD]
theorem bWk_eq {p L : List Nat} {a : Nat} (rows : List D) (i : Nat) (r : List Nat) (ha : a < p.length) (hr : r.length ≤ 1000000) : bWk (sWk p L rows i r a) = .nx (sWk p (L ++ [a]) rows i (r ++ [a]) (pf p a)) := by
  have s := marks_set L ha
  have x := dIx_row (r := p) (z := (a : Int)) a rfl ha
  have e1 : mStore 1 (mVar 5) (mC (.bl true)) (sWk p L rows i r a) = .nx (sWk p (L ++ [a]) rows i r a) := by
    unfold sWk
    simp [mStore, mFrz, mC, frz, ownL, mVar, dI, s]
  have e2 : mDrop (mApp 4 (mVar 5)) (sWk p (L ++ [a]) rows i r a) = .nx (sWk p (L ++ [a]) rows i (r ++ [a]) a) := by
    refine (app_nx (d := dI a) (b := false) (xs := r.map dI) (ρ1 := sWk p (L ++ [a]) rows i r a) (b0 := false) (ys := r.map dI) rfl rfl rfl (by simpa using hr)).trans ?_
    simp [sWk]
  refine (seq_nx e1).trans ((seq_nx e2).trans ?_)
  refine (set_ok (op_ok (x := row p) (y := dI a) (ev := .d (dI (pf p a))) (ρ1 := sWk p (L ++ [a]) rows i (r ++ [a]) a) (ρ2 := sWk p (L ++ [a]) rows i (r ++ [a]) a) rfl rfl rfl rfl x)).trans ?_
  simp [setC, giveOut, putC, sWk]
theorem wk_sim {p : List Nat} (P : IsP p) (hp : p.length ≤ 1000) (rows : List D) (i : Nat) {L rw : List Nat} {a : Nat} (w : Walk p L a rw) : ∀ r : List Nat, a < p.length → r.length ≤ L.length → ∃ a', mWhile cWk bWk (sWk p L rows i r a) = .nx (sWk p (L ++ rw) rows i (r ++ rw) a') := by
  induction w with
  | @stop L a m =>
    intro r ha hr
    refine ⟨a, ?_⟩
    rw [while_stop (by rw [cWk_eq rows i r ha, decide_eq_true m]; rfl)]
    simp
  | @step L rw a m ha hl w ih =>
    intro r _ hr
    obtain ⟨a', e⟩ := ih (r ++ [a]) (pf_lt P ha) (by simpa using hr)
    refine ⟨a', while_go (by rw [cWk_eq rows i r ha, decide_eq_false m]; rfl) (bWk_eq rows i r ha (by omega)) (e.trans ?_) (fun z => by cases z)⟩
    simp
def bCyc : Rho → Out := mSeq (mSet 4 (mLst mNil)) (mSeq (mSet 5 (mVar 3)) (mSeq (mWhile cWk bWk) (mIfS (mTru (mVar 4)) (mDrop (mApp 2 (mCB bTuple (mCons (mVar 4) mNil)))) mNext)))
theorem bCyc_eq {p : List Nat} (P : IsP p) (hp : p.length ≤ 1000) {rows : List D} (hrs : rows.length ≤ 1000000) {i : Nat} (hi : i < p.length) {L rw : List Nat} (w : Walk p L i rw) {c4 c5 : Cell} (h4 : NB c4) (h5 : NB c5) : ∃ c4' c5', NB c4' ∧ NB c5' ∧
    bCyc [.val (row p), .own false (.lst (marks p.length L)), .own false (.lst rows), .val (dI i), c4, c5] = .nx [.val (row p), .own false (.lst (marks p.length (L ++ rw))), .own false (.lst (if rw = [] then rows else rows ++ [row rw])), .val (dI i), c4', c5'] := by
  obtain ⟨a', e⟩ := wk_sim P hp rows i w [] hi (Nat.zero_le _)
  have e1 : mSet 4 (mLst mNil) [.val (row p), .own false (.lst (marks p.length L)), .own false (.lst rows), .val (dI i), c4, c5] = .nx [.val (row p), .own false (.lst (marks p.length L)), .own false (.lst rows), .val (dI i), .own false (.lst []), c5] := by
    cases c4 with
    | no => rfl
    | val d => rfl
    | own b o => cases b with
      | true => exact (h4 _ rfl).elim
      | false => rfl
  have e2 : mSet 5 (mVar 3) [.val (row p), .own false (.lst (marks p.length L)), .own false (.lst rows), .val (dI i), .own false (.lst []), c5] = .nx (sWk p L rows i [] i) := by
    cases c5 with
    | no => rfl
    | val d => rfl
    | own b o => cases b with
      | true => exact (h5 _ rfl).elim
      | false => rfl
  rw [List.nil_append] at e
  refine ⟨.own false (.lst (rw.map dI)), .val (dI a'), (fun o z => by cases z), (fun o z => by cases z), ?_⟩
  refine (seq_nx e1).trans ((seq_nx e2).trans ((seq_nx e).trans ?_))
  unfold sWk
  cases rw with
  | nil => rfl
  | cons x l =>
    have c : mTru (mVar 4) [.val (row p), .own false (.lst (marks p.length (L ++ x :: l))), .own false (.lst rows), .val (dI i), .own false (.lst ((x :: l).map dI)), .val (dI a')] = .ok true [.val (row p), .own false (.lst (marks p.length (L ++ x :: l))), .own false (.lst rows), .val (dI i), .own false (.lst ((x :: l).map dI)), .val (dI a')] := rfl
    unfold mIfS
    rw [c, out_ok]
    refine (app_nx (d := row (x :: l)) (b := false) (xs := rows) (ρ1 := [.val (row p), .own false (.lst (marks p.length (L ++ x :: l))), .own false (.lst rows), .val (dI i), .own false (.lst ((x :: l).map dI)), .val (dI a')]) (b0 := false) (ys := rows) rfl rfl rfl hrs).trans ?_
    simp
theorem put3 {c : Cell} {d : D} (h : NB c) (a b e f g : Cell) : gtN 3 d [a, b, e, c, f, g] = some [a, b, e, .val d, f, g] := by
  cases c with
  | no => rfl
  | val d => rfl
  | own b o => cases b with
    | true => exact (h _ rfl).elim
    | false => rfl
theorem cyc_sim {p : List Nat} (P : IsP p) (hp : p.length ≤ 1000) {is L : List Nat} {C C' : List (List Nat)} (k : Cyc p is L C C') : ∀ (c3 c4 c5 : Cell), NB c3 → NB c4 → NB c5 → C.length + is.length ≤ 1000 → ∃ L' c3' c4' c5',
    forL (gtN 3) bCyc (is.map dI) [.val (row p), .own false (.lst (marks p.length L)), .own false (.lst (C.map row)), c3, c4, c5] = .nx [.val (row p), .own false (.lst (marks p.length L')), .own false (.lst (C'.map row)), c3', c4', c5'] := by
  induction k with
  | nil => intro c3 c4 c5 _ _ _ _; exact ⟨_, c3, c4, c5, rfl⟩
  | @cons is L rw i C C' hi w hl k ih =>
    intro c3 c4 c5 h3 h4 h5 hb
    obtain ⟨c4', c5', h4', h5', e⟩ := bCyc_eq P hp (rows := C.map row) (by simp at hb ⊢; omega) hi w h4 h5
    obtain ⟨L', c3'', c4'', c5'', e2⟩ := ih (.val (dI i)) c4' c5' (fun o z => by cases z) h4' h5' (by
      split
      · simp at hb; omega
      · simp at hb ⊢; omega)
    refine ⟨L', c3'', c4'', c5'', ?_⟩
    rw [List.map_cons, forL_cons (put3 h3 _ _ _ _ _) e]
    refine Eq.trans ?_ e2
    congr 1
    split <;> simp_all
theorem rng_len {p : List Nat} (hp : p.length ≤ 1000) (cs : List Cell) : mRng1 (mCB bLen (mCons (mVar 0) mNil)) (.val (row p) :: cs) = .ok ((List.range p.length).map dI) (.val (row p) :: cs) := by
  have h1 : (p.length : Int) ≤ 1000000 := by omega
  have h2 : (-1000000 : Int) ≤ p.length := by omega
  simp [mRng1, mCB, mCons, mVar, mNil, rds, rd, bLen, row, rngOk, h1, h2, rng_eq]
theorem x_cycle_rows {p : List Nat} {C : List (List Nat)} (P : IsP p) (hp : p.length ≤ 1000) (k : Cyc p (List.range p.length) [] [] C) : m_f_cycle_rows [.val (row p)] = .ok (.new (.lst (C.map row))) [.no] := by
  obtain ⟨L', c3, c4, c5, e⟩ := cyc_sim P hp k .no .no .no (fun o z => by cases z) (fun o z => by cases z) (fun o z => by cases z) (by simpa using hp)
  have h1 : (p.length : Int) ≤ 1000000 := by omega
  have h2 : (-1000000 : Int) ≤ p.length := by omega
  have h3 : p.length ≤ 1000000 := by omega
  have e1 : mSet 1 (mRep (mLst (mCons (mFrz (mC (.bl false))) mNil)) (mCB bLen (mCons (mVar 0) mNil))) [.val (row p), .no, .no, .no, .no, .no] = .nx [.val (row p), .own false (.lst (marks p.length [])), .no, .no, .no, .no] := by
    rw [← marks_nil]
    simp [mSet, mRep, mLst, mCons, mFrz, mC, frz, mNil, dsOf, szOk, mCB, mVar, rds, rd, bLen, row, h1, h2, h3, setC, giveOut, putC]
  have e2 : mFor (mRng1 (mCB bLen (mCons (mVar 0) mNil))) (gtN 3) bCyc [.val (row p), .own false (.lst (marks p.length [])), .own false (.lst []), .no, .no, .no] = .nx [.val (row p), .own false (.lst (marks p.length L')), .own false (.lst (C.map row)), c3, c4, c5] := by
    unfold mFor
    rw [rng_len hp, out_ok]
    exact e
  exact call_rt (e := .new (.lst (C.map row))) (cs := [.val (row p)]) (ρ := [.val (row p), .own false (.lst (marks p.length L')), .no, c3, c4, c5]) ((seq_nx e1).trans ((seq_nx (ρ1 := [.val (row p), .own false (.lst (marks p.length [])), .own false (.lst []), .no, .no, .no]) rfl).trans ((seq_nx e2).trans rfl))) (fun i z => by cases z)
/-! ### the law's cycles -/
def kvs (L : List Nat) : List (Key × D) := L.map fun i : Nat => (.inl (i : Int), .bl true)
theorem kvs_look (L : List Nat) (a : Nat) : (lookD (kvs L) (.inl (a : Int))).isSome = decide (a ∈ L) := by
  unfold lookD kvs
  rw [Option.isSome_map]
  induction L with
  | nil => rfl
  | cons x L ih =>
    simp only [List.map_cons, List.find?_cons]
    by_cases c : x = a
    · subst c; simp
    · have n1 : decide ((Sum.inl (x : Int) : Key) = Sum.inl (a : Int)) = false := decide_eq_false fun e => c (by have e' := Sum.inl.inj e; omega)
      have n2 : ¬ a = x := fun e => c e.symm
      rw [n1, ih]
      simp [n2]
theorem kvs_put {L : List Nat} {a : Nat} (h : a ∉ L) : putD (kvs L) (.inl (a : Int)) (.bl true) = kvs (L ++ [a]) := by
  unfold putD
  have n : (kvs L).any (fun p => decide (p.1 = (.inl (a : Int) : Key))) = false := by
    rw [List.any_eq_false]
    intro p hp
    obtain ⟨x, hx, rfl⟩ := List.mem_map.mp hp
    simp only [decide_eq_true_eq, Sum.inl.injEq]
    intro e
    have : x = a := by omega
    exact h (this ▸ hx)
  rw [n]
  simp [kvs]
def cLw : Rho → R Bool := mTst (mIn true 2 (mVar 5))
def bLw : Rho → Out := mSeq (mDput 2 (mVar 5) (mC (.bl true))) (mSeq (mSet 4 (mAddL (mVar 4) (mTup (mCons (mFrz (mVar 5)) mNil)))) (mSet 5 (mOp dIx (mVar 0) (mVar 5))))
def sLw (p L : List Nat) (rows : List D) (i : Nat) (r : List Nat) (a : Nat) : Rho := [.val (row p), .val (dI i), .own false (.dic (kvs L)), .own false (.lst rows), .val (row r), .val (dI a)]
theorem cLw_eq {p L : List Nat} {a : Nat} (rows : List D) (i : Nat) (r : List Nat) : cLw (sLw p L rows i r a) = .ok (!decide (a ∈ L)) (sLw p L rows i r a) := by
  have m := kvs_look L a
  unfold cLw sLw
  have m' : (lookD (kvs L) (.inl (a : Int))).isNone = !decide (a ∈ L) := by rw [← m]; simp
  simp [mTst, mIn, mVar, ownD, Mi.keyOf, dI, m']
theorem bLw_eq {p L : List Nat} {a : Nat} (rows : List D) (i : Nat) (r : List Nat) (ha : a < p.length) (m : a ∉ L) (hL : L.length ≤ 1000) (hr : r.length ≤ 1000) : bLw (sLw p L rows i r a) = .nx (sLw p (L ++ [a]) rows i (r ++ [a]) (pf p a)) := by
  have s := kvs_put m
  have hk : (kvs L).length ≤ 1000000 := by simp [kvs]; omega
  have x := dIx_row (r := p) (z := (a : Int)) a rfl ha
  have e1 : mDput 2 (mVar 5) (mC (.bl true)) (sLw p L rows i r a) = .nx (sLw p (L ++ [a]) rows i r a) := by
    unfold sLw
    simp [mDput, mFrz, mC, frz, ownD, mVar, Mi.keyOf, dI, s, szOk, hk]
  have hr2 : r.length + 1 ≤ 1000000 := by omega
  have e2 : mSet 4 (mAddL (mVar 4) (mTup (mCons (mFrz (mVar 5)) mNil))) (sLw p (L ++ [a]) rows i r a) = .nx (sLw p (L ++ [a]) rows i (r ++ [a]) a) := by
    rw [ev_set (d := row (r ++ [a])) (by
      have := ev_cat (m1 := mVar 4) (m2 := mTup (mCons (mFrz (mVar 5)) mNil)) (ρ := sLw p (L ++ [a]) rows i r a) (xs := r.map dI) (ys := [dI a]) (ev_var rfl) (ev_tup1 (ev_var rfl)) (by simpa using hr2)
      simpa [row] using this)]
    rfl
  refine (seq_nx e1).trans ((seq_nx e2).trans ?_)
  refine (set_ok (op_ok (x := row p) (y := dI a) (ev := .d (dI (pf p a))) (ρ1 := sLw p (L ++ [a]) rows i (r ++ [a]) a) (ρ2 := sLw p (L ++ [a]) rows i (r ++ [a]) a) rfl rfl rfl rfl x)).trans ?_
  simp [setC, giveOut, putC, sLw]
theorem lw_sim {p : List Nat} (P : IsP p) (hp : p.length ≤ 1000) (rows : List D) (i : Nat) {L rw : List Nat} {a : Nat} (w : Walk p L a rw) : ∀ r : List Nat, a < p.length → r.length ≤ L.length → ∃ a', mWhile cLw bLw (sLw p L rows i r a) = .nx (sLw p (L ++ rw) rows i (r ++ rw) a') := by
  induction w with
  | @stop L a m =>
    intro r ha hr
    refine ⟨a, ?_⟩
    rw [while_stop (by rw [cLw_eq rows i r, decide_eq_true m]; rfl)]
    simp
  | @step L rw a m ha hl w ih =>
    intro r _ hr
    obtain ⟨a', e⟩ := ih (r ++ [a]) (pf_lt P ha) (by simpa using hr)
    refine ⟨a', while_go (by rw [cLw_eq rows i r, decide_eq_false m]; rfl) (bLw_eq rows i r ha m (by omega) (by omega)) (e.trans ?_) (fun z => by cases z)⟩
    simp
def bLc : Rho → Out := mSeq (mPar 4 5 (mTup mNil) (mVar 1)) (mSeq (mWhile cLw bLw) (mIfS (mTst (mOp dGt (mCB bLen (mCons (mVar 4) mNil)) (mC (.int 0)))) (mDrop (mApp 3 (mVar 4))) mNext))
theorem bLc_eq {p : List Nat} (P : IsP p) (hp : p.length ≤ 1000) {rows : List D} (hrs : rows.length ≤ 1000000) {i : Nat} (hi : i < p.length) {L rw : List Nat} (w : Walk p L i rw) {c4 c5 : Cell} (h4 : Clear c4) (h5 : Clear c5) : ∃ c4' c5', Clear c4' ∧ Clear c5' ∧
    bLc [.val (row p), .val (dI i), .own false (.dic (kvs L)), .own false (.lst rows), c4, c5] = .nx [.val (row p), .val (dI i), .own false (.dic (kvs (L ++ rw))), .own false (.lst (if rw = [] then rows else rows ++ [row rw])), c4', c5'] := by
  obtain ⟨a', e⟩ := lw_sim P hp rows i w [] hi (Nat.zero_le _)
  have e1 : mPar 4 5 (mTup mNil) (mVar 1) [.val (row p), .val (dI i), .own false (.dic (kvs L)), .own false (.lst rows), c4, c5] = .nx (sLw p L rows i [] i) := by
    cases c4 with
    | own b o => exact (h4 _ _ rfl).elim
    | no => cases c5 with
      | own b o => exact (h5 _ _ rfl).elim
      | no => rfl
      | val d => rfl
    | val d => cases c5 with
      | own b o => exact (h5 _ _ rfl).elim
      | no => rfl
      | val d => rfl
  rw [List.nil_append] at e
  refine ⟨.val (row rw), .val (dI a'), (fun _ _ z => by cases z), (fun _ _ z => by cases z), ?_⟩
  refine (seq_nx e1).trans ((seq_nx e).trans ?_)
  unfold sLw
  cases rw with
  | nil => rfl
  | cons x l =>
    have c : mTst (mOp dGt (mCB bLen (mCons (mVar 4) mNil)) (mC (.int 0))) [.val (row p), .val (dI i), .own false (.dic (kvs (L ++ x :: l))), .own false (.lst rows), .val (row (x :: l)), .val (dI a')] = .ok true [.val (row p), .val (dI i), .own false (.dic (kvs (L ++ x :: l))), .own false (.lst rows), .val (row (x :: l)), .val (dI a')] := by
      have : (0 : Int) < (l.length : Int) + 1 := by omega
      simp [mTst, mOp, mCB, mCons, mVar, mNil, rds, rd, row, bLen, mC, dGt, dI2, this]
    unfold mIfS
    rw [c, out_ok]
    refine (app_nx (d := row (x :: l)) (b := false) (xs := rows) (ρ1 := [.val (row p), .val (dI i), .own false (.dic (kvs (L ++ x :: l))), .own false (.lst rows), .val (row (x :: l)), .val (dI a')]) (b0 := false) (ys := rows) rfl rfl rfl hrs).trans ?_
    simp
theorem put1 {c : Cell} {d : D} (h : Clear c) (a b e f g : Cell) : gtN 1 d [a, c, b, e, f, g] = some [a, .val d, b, e, f, g] := by
  cases c with
  | no => rfl
  | val d => rfl
  | own b o => exact (h _ _ rfl).elim
theorem lc_sim {p : List Nat} (P : IsP p) (hp : p.length ≤ 1000) {is L : List Nat} {C C' : List (List Nat)} (k : Cyc p is L C C') : ∀ (c1 c4 c5 : Cell), Clear c1 → Clear c4 → Clear c5 → C.length + is.length ≤ 1000 → ∃ L' c1' c4' c5',
    forL (gtN 1) bLc (is.map dI) [.val (row p), c1, .own false (.dic (kvs L)), .own false (.lst (C.map row)), c4, c5] = .nx [.val (row p), c1', .own false (.dic (kvs L')), .own false (.lst (C'.map row)), c4', c5'] := by
  induction k with
  | nil => intro c1 c4 c5 _ _ _ _; exact ⟨_, c1, c4, c5, rfl⟩
  | @cons is L rw i C C' hi w hl k ih =>
    intro c1 c4 c5 h1 h4 h5 hb
    obtain ⟨c4', c5', h4', h5', e⟩ := bLc_eq P hp (rows := C.map row) (by simp at hb ⊢; omega) hi w h4 h5
    obtain ⟨L', c1'', c4'', c5'', e2⟩ := ih (.val (dI i)) c4' c5' (fun _ _ z => by cases z) h4' h5' (by
      split
      · simp at hb; omega
      · simp at hb ⊢; omega)
    refine ⟨L', c1'', c4'', c5'', ?_⟩
    rw [List.map_cons, forL_cons (put1 h1 _ _ _ _ _) e]
    refine Eq.trans ?_ e2
    congr 1
    split <;> simp_all
theorem x_law_cycles {p : List Nat} {C : List (List Nat)} (P : IsP p) (hp : p.length ≤ 1000) (k : Cyc p (List.range p.length) [] [] C) : m_f__law_cycles [.val (row p)] = .ok (.d (.tup (C.map row))) [.no] := by
  obtain ⟨L', c1, c4, c5, e⟩ := lc_sim P hp k .no .no .no (fun _ _ z => by cases z) (fun _ _ z => by cases z) (fun _ _ z => by cases z) (by simpa using hp)
  have e2 : mFor (mRng1 (mCB bLen (mCons (mVar 0) mNil))) (gtN 1) bLc [.val (row p), .no, .own false (.dic (kvs [])), .own false (.lst []), .no, .no] = .nx [.val (row p), c1, .own false (.dic (kvs L')), .own false (.lst (C.map row)), c4, c5] := by
    unfold mFor
    rw [rng_len hp, out_ok]
    exact e
  exact call_rt (e := .d (.tup (C.map row))) (cs := [.val (row p)]) (ρ := [.val (row p), c1, .own false (.dic (kvs L')), .own false (.lst (C.map row)), c4, c5]) ((seq_nx (m := mPar 2 3 mDnew (mLst mNil)) (ρ1 := [.val (row p), .no, .own false (.dic (kvs [])), .own false (.lst []), .no, .no]) rfl).trans ((seq_nx e2).trans rfl)) (fun i z => by cases z)
end K04
end

set_option Elab.async false
set_option linter.all false
set_option maxRecDepth 100000
set_option autoImplicit false
noncomputable section
namespace K04
open PySem L2 Mi Lg
/-! powers, both ways -/
def stp (c : List Nat) (k : Int) (i : Nat) : Nat := pf c (((i : Int) + k) % (c.length : Int)).toNat
def fil (c : List Nat) (k : Int) (o : List Nat) : Nat → List Nat
  | 0 => o
  | n + 1 => (fil c k o n).set (pf c n) (stp c k n)
def pwC (k : Int) (o c : List Nat) : List Nat := fil c k o c.length
def pw (k : Int) (n : Nat) (C : List (List Nat)) : List Nat := C.foldl (pwC k) (List.replicate n 0)
theorem fil_len (c : List Nat) (k : Int) (o : List Nat) : ∀ n, (fil c k o n).length = o.length
  | 0 => rfl
  | n + 1 => by rw [fil, List.length_set, fil_len c k o n]
theorem pwC_len (k : Int) (o c : List Nat) : (pwC k o c).length = o.length := fil_len _ _ _ _
theorem pw_fold_len (k : Int) : ∀ (C : List (List Nat)) (o : List Nat), (C.foldl (pwC k) o).length = o.length
  | [], o => rfl
  | c :: C, o => by rw [List.foldl_cons, pw_fold_len k C, pwC_len]
theorem pw_len (k : Int) (n : Nat) (C : List (List Nat)) : (pw k n C).length = n := by rw [pw, pw_fold_len, List.length_replicate]
theorem pf_mem {c : List Nat} {i : Nat} (h : i < c.length) : pf c i ∈ c := by rw [pf, List.getElem?_eq_getElem h]; exact List.getElem_mem h
/-! ### the law's -/
def sP (p : List Nat) (k : Int) (o : List Nat) (c3 c4 : Cell) : Rho := [.val (row p), .val (.int k), .own false (.lst (o.map dI)), c3, c4]
def iLp : Rho → Out := mStore 2 (mOp dIx (mVar 3) (mVar 4)) (mOp dIx (mVar 3) (mOp dMod (mCB bInt (mCons (mAddL (mVar 4) (mVar 1)) mNil)) (mCB bLen (mCons (mVar 3) mNil))))
def bLp : Rho → Out := mFor (mRng1 (mCB bLen (mCons (mVar 3) mNil))) (gtN 4) iLp
theorem put4 {d : D} (p o : List Nat) (k : Int) (c3 : Cell) {c4 : Cell} (h : Clear c4) : gtN 4 d (sP p k o c3 c4) = some (sP p k o c3 (.val d)) := by
  cases c4 with
  | no => rfl
  | val _ => rfl
  | own b o => exact (h _ _ rfl).elim
theorem put3p {d : D} (p o : List Nat) (k : Int) (c4 : Cell) {c3 : Cell} (h : Clear c3) : gtN 3 d (sP p k o c3 c4) = some (sP p k o (.val d) c4) := by
  cases c3 with
  | no => rfl
  | val _ => rfl
  | own b o => exact (h _ _ rfl).elim
theorem stp_lt {c : List Nat} (k : Int) (i : Nat) (h : 0 < c.length) : (((i : Int) + k) % (c.length : Int)).toNat < c.length ∧ ((((i : Int) + k) % (c.length : Int)).toNat : Int) = ((i : Int) + k) % (c.length : Int) := by
  have h0 : (c.length : Int) ≠ 0 := by omega
  have h1 := Int.emod_nonneg ((i : Int) + k) h0
  have h2 := Int.emod_lt_of_pos ((i : Int) + k) (show (0 : Int) < c.length by omega)
  omega
theorem iLp_eq {p o c : List Nat} {k : Int} {i : Nat} (hi : i < c.length) (lt : ∀ x ∈ c, x < o.length) (j : Nat) : iLp (sP p k (fil c k o j) (.val (row c)) (.val (dI i))) = .nx (sP p k ((fil c k o j).set (pf c i) (stp c k i)) (.val (row c)) (.val (dI i))) := by
  obtain ⟨l1, l2⟩ := stp_lt (c := c) k i (by omega)
  have e0 : Ev (mCB bInt (mCons (mAddL (mVar 4) (mVar 1)) mNil)) (sP p k (fil c k o j) (.val (row c)) (.val (dI i))) (.int ((i : Int) + k)) := ev_cb1 (d1 := .int ((i : Int) + k)) (ev_addi (ev_var rfl) (ev_var rfl)) rfl
  have e1 : Ev (mOp dMod (mCB bInt (mCons (mAddL (mVar 4) (mVar 1)) mNil)) (mCB bLen (mCons (mVar 3) mNil))) (sP p k (fil c k o j) (.val (row c)) (.val (dI i))) (.int (((((i : Int) + k) % (c.length : Int)).toNat : Nat) : Int)) := by
    rw [l2]
    refine ev_op e0 (ev_cb1 (d := .int c.length) (ev_var rfl) (by simp [row, bLen])) ?_
    have : (0 : Int) < c.length := by omega
    show (if decide ((0 : Int) < c.length) = true then some (EV.d (D.int (((i : Int) + k) % (c.length : Int)))) else none) = _
    rw [if_pos (decide_eq_true this)]
  have e2 := ev_op (f := dIx) (m1 := mVar 3) (d1 := row c) (ρ := sP p k (fil c k o j) (.val (row c)) (.val (dI i))) (ev_var rfl) e1 (dIx_row _ rfl l1)
  have e3 := ev_op (f := dIx) (m1 := mVar 3) (m2 := mVar 4) (d1 := row c) (d2 := dI i) (ρ := sP p k (fil c k o j) (.val (row c)) (.val (dI i))) (ev_var rfl) (ev_var rfl) (dIx_row i rfl hi)
  refine (stored (b := false) (xs := (fil c k o j).map dI) e2 e3 rfl (by rw [List.length_map, fil_len]; exact lt _ (pf_mem hi))).trans ?_
  rw [show dI (pf c ((((i : Int) + k) % (c.length : Int)).toNat)) = dI (stp c k i) from rfl, ← List.map_set]; rfl
theorem bLp_eq {p o c : List Nat} {k : Int} (hc : c.length ≤ 1000000) (lt : ∀ x ∈ c, x < o.length) {c4 : Cell} (h : Clear c4) : ∃ c4', Clear c4' ∧ bLp (sP p k o (.val (row c)) c4) = .nx (sP p k (pwC k o c) (.val (row c)) c4') := by
  obtain ⟨ρ', e, c4', h4, rfl⟩ := for_range (mt := gtN 4) (b := iLp) (n := c.length) (m := mCB bLen (mCons (mVar 3) mNil)) (ρ := sP p k o (.val (row c)) c4) (ρ1 := sP p k o (.val (row c)) c4)
    (P := fun i ρ => ∃ c4, Clear c4 ∧ ρ = sP p k (fil c k o i) (.val (row c)) c4)
    (fun i ρ hi hP => by
      obtain ⟨c4, h4, rfl⟩ := hP
      exact ⟨_, _, put4 p _ k _ h4, iLp_eq hi lt i, .val (dI i), (fun _ _ z => by cases z), rfl⟩)
    (ev_cb1 (ev_var rfl) (by simp [row, bLen, dI])) hc ⟨c4, h, rfl⟩
  exact ⟨c4', h4, e⟩
theorem lp_loop {p : List Nat} {k : Int} : ∀ (C : List (List Nat)) (o : List Nat) (c3 c4 : Cell), (∀ c ∈ C, c.length ≤ 1000000 ∧ ∀ x ∈ c, x < o.length) → Clear c3 → Clear c4 → ∃ c3' c4', forL (gtN 3) bLp (C.map row) (sP p k o c3 c4) = .nx (sP p k (C.foldl (pwC k) o) c3' c4')
  | [], o, c3, c4, _, _, _ => ⟨c3, c4, rfl⟩
  | c :: C, o, c3, c4, h, h3, h4 => by
    obtain ⟨a1, a2⟩ := h c (by simp)
    obtain ⟨c4', k4, e⟩ := bLp_eq (p := p) (k := k) a1 a2 h4
    obtain ⟨c3'', c4'', e2⟩ := lp_loop (p := p) (k := k) C (pwC k o c) (.val (row c)) c4' (fun x hx => by rw [pwC_len]; exact h x (List.mem_cons_of_mem _ hx)) (fun _ _ z => by cases z) k4
    exact ⟨c3'', c4'', by rw [List.map_cons, forL_cons (put3p p o k c4 h3) e]; exact e2⟩
theorem nd_flat {c : List Nat} : ∀ {C : List (List Nat)}, C.flatten.Nodup → c ∈ C → c.Nodup
  | [], _, h => by cases h
  | b :: C, h, m => by
    rw [List.flatten_cons, List.nodup_append] at h
    rcases List.mem_cons.mp m with rfl | m
    · exact h.1
    · exact nd_flat h.2.1 m
theorem cyc_bound {p : List Nat} {C : List (List Nat)} (h : Cycs p C) {c : List Nat} (m : c ∈ C) : c.length ≤ p.length ∧ ∀ x ∈ c, x < p.length := by
  have lt : ∀ x ∈ c, x < p.length := fun x hx => List.mem_range.mp (h.all.mem_iff.mp (List.mem_flatten.mpr ⟨c, m, hx⟩))
  refine ⟨?_, lt⟩
  have nd : C.flatten.Nodup := h.all.nodup_iff.mpr List.nodup_range
  have : c.Nodup := nd_flat nd m
  exact nd_len this lt
theorem rep_zero {cs : List Cell} {p : List Nat} (hp : p.length ≤ 1000) : mRep (mLst (mCons (mFrz (mC (.int 0))) mNil)) (mCB bLen (mCons (mVar 0) mNil)) (.val (row p) :: cs) = .ok (.new (.lst ((List.replicate p.length 0).map dI))) (.val (row p) :: cs) := by
  rw [rep_ok (x := .int 0) (n := p.length) ev_c (ev_cb1 (ev_var rfl) (by simp [row, bLen])) (by omega)]
  simp [dI]
theorem x_lpow {p : List Nat} {C : List (List Nat)} (P : IsP p) (hp : p.length ≤ 1000) (cy : Cyc p (List.range p.length) [] [] C) (h : Cycs p C) (k : Int) : m_f__law_power [.val (row p), .val (.int k)] = .ok (.d (row (pw k p.length C))) [.no, .no] := by
  have e1 : mSet 2 (mRep (mLst (mCons (mFrz (mC (.int 0))) mNil)) (mCB bLen (mCons (mVar 0) mNil))) [.val (row p), .val (.int k), .no, .no, .no] = .nx (sP p k (List.replicate p.length 0) .no .no) := by
    rw [set_ok (rep_zero hp)]; rfl
  obtain ⟨c3, c4, e2⟩ := lp_loop (p := p) (k := k) C (List.replicate p.length 0) .no .no (fun c m => by
    obtain ⟨h1, h2⟩ := cyc_bound h m
    exact ⟨by omega, by simpa using h2⟩) (fun _ _ z => by cases z) (fun _ _ z => by cases z)
  have e3 : mFor (mIt (mCall m_f__law_cycles 1 (mCons (mFrz (mVar 0)) mNil))) (gtN 3) bLp (sP p k (List.replicate p.length 0) .no .no) = .nx (sP p k (pw k p.length C) c3 c4) := by
    unfold mFor
    rw [it_tup (ev_call1 (d1 := row p) (ev_var rfl) (x_law_cycles P hp cy)), out_ok]
    exact e2
  exact call_rt (e := .d (row (pw k p.length C))) (cs := [.val (row p), .val (.int k)]) (ρ := sP p k (pw k p.length C) c3 c4) ((seq_nx e1).trans ((seq_nx e3).trans (ev_ret (ev_cbR (rv_own rfl) rfl)))) (fun i z => by cases z)
/-! ### the program's -/
def gtQ : D → Rho → Option Rho := gtTup 2 (gtCons (gtN 5) (gtCons (gtN 6) gtNil))
def sQ (p : List Nat) (k : Int) (o : List Nat) (c3 c4 c5 c6 : Cell) : Rho := [.val (row p), .val (.int k), .own false (.lst (o.map dI)), c3, c4, c5, c6]
def iPp : Rho → Out := mStore 2 (mVar 5) (mVar 6)
def bPp : Rho → Out := mSeq (mSet 4 (mOp dMod (mVar 1) (mCB bLen (mCons (mVar 3) mNil))))
    (mFor (mZip (mVar 3) (mAddL (mSl (mVar 3) (mO1 (mVar 4)) mO0) (mSl (mVar 3) mO0 (mO1 (mVar 4))))) gtQ iPp)
theorem gtQ_eq {x y : D} (p o : List Nat) (k : Int) (c3 c4 : Cell) {c5 c6 : Cell} (h5 : Clear c5) (h6 : Clear c6) : gtQ (.tup [x, y]) (sQ p k o c3 c4 c5 c6) = some (sQ p k o c3 c4 (.val x) (.val y)) := by
  cases c5 with
  | own b o => exact (h5 _ _ rfl).elim
  | no => cases c6 with
    | own b o => exact (h6 _ _ rfl).elim
    | no => rfl
    | val _ => rfl
  | val _ => cases c6 with
    | own b o => exact (h6 _ _ rfl).elim
    | no => rfl
    | val _ => rfl
theorem put3q {d : D} (p o : List Nat) (k : Int) (c4 c5 c6 : Cell) {c3 : Cell} (h : Clear c3) : gtN 3 d (sQ p k o c3 c4 c5 c6) = some (sQ p k o (.val d) c4 c5 c6) := by
  cases c3 with
  | no => rfl
  | val _ => rfl
  | own b o => exact (h _ _ rfl).elim
theorem zipD_map (a b : List Nat) (f : Nat → Nat) (h : b.length = a.length) (e : ∀ i, i < a.length → pf b i = f i) : zipD (a.map dI) (b.map dI) = (List.range a.length).map fun i => D.tup [dI (pf a i), dI (f i)] := by
  apply List.ext_getElem?
  intro i
  by_cases c : i < a.length
  · rw [zipD_get (a.map dI) (b.map dI) i (dI (pf a i)) (dI (f i)) (by rw [List.getElem?_map, pf_get c]; rfl) (by rw [List.getElem?_map, pf_get (by omega), e i c]; rfl)]
    rw [List.getElem?_map, List.getElem?_range c]; rfl
  · rw [List.getElem?_eq_none (by rw [zipD_len, List.length_map, List.length_map]; omega), List.getElem?_eq_none (by rw [List.length_map, List.length_range]; omega)]
theorem turn_pf {c : List Nat} {a i : Nat} (ha : a < c.length) (hi : i < c.length) : pf (c.drop a ++ c.take a) i = pf c ((i + a) % c.length) := by
  unfold pf
  by_cases h : i + a < c.length
  · rw [Nat.mod_eq_of_lt h, List.getElem?_append_left (by rw [List.length_drop]; omega), List.getElem?_drop, Nat.add_comm a i]
  · rw [List.getElem?_append_right (by rw [List.length_drop]; omega), List.length_drop, Nat.mod_eq_sub_mod (by omega), Nat.mod_eq_of_lt (by omega), List.getElem?_take, if_pos (by omega)]
    congr 2
    omega
theorem stp_eq {c : List Nat} {k : Int} (h : 0 < c.length) {i : Nat} (hi : i < c.length) : pf (c.drop (k % (c.length : Int)).toNat ++ c.take (k % (c.length : Int)).toNat) i = stp c k i := by
  have h0 : (c.length : Int) ≠ 0 := by omega
  have h1 := Int.emod_nonneg k h0
  have h2 := Int.emod_lt_of_pos k (show (0 : Int) < c.length by omega)
  rw [turn_pf (by omega) hi]
  unfold stp
  congr 1
  have e : ((i : Int) + k) % (c.length : Int) = (((i + (k % (c.length : Int)).toNat) % c.length : Nat) : Int) := by
    rw [Int.natCast_emod, Int.natCast_add, Int.toNat_of_nonneg h1, Int.add_emod_emod]
  rw [e]; rfl
theorem ev_rot {p o c : List Nat} {k : Int} (h : 0 < c.length) (hc : c.length ≤ 1000) (c5 c6 : Cell) : mZip (mVar 3) (mAddL (mSl (mVar 3) (mO1 (mVar 4)) mO0) (mSl (mVar 3) mO0 (mO1 (mVar 4)))) (sQ p k o (.val (row c)) (.val (.int (k % (c.length : Int)))) c5 c6) = .ok ((List.range c.length).map fun i => D.tup [dI (pf c i), dI (stp c k i)]) (sQ p k o (.val (row c)) (.val (.int (k % (c.length : Int)))) c5 c6) := by
  have h0 : (c.length : Int) ≠ 0 := by omega
  have h1 := Int.emod_nonneg k h0
  have h2 := Int.emod_lt_of_pos k (show (0 : Int) < c.length by omega)
  have e4 : Ev (mVar 4) (sQ p k o (.val (row c)) (.val (.int (k % (c.length : Int)))) c5 c6) (.int (((k % (c.length : Int)).toNat : Nat) : Int)) := by
    rw [Int.toNat_of_nonneg h1]; exact ev_var rfl
  have lc : (c.map dI).length = c.length := List.length_map _
  have a := ev_slFrom (m := mVar 3) (ds := c.map dI) (k := (k % (c.length : Int)).toNat) (ev_var rfl) e4 (by rw [lc]; omega)
  have b := ev_slTo (m := mVar 3) (ds := c.map dI) (k := (k % (c.length : Int)).toNat) (ev_var rfl) e4 (by rw [lc]; omega)
  have e := ev_cat a b (by rw [List.length_drop, List.length_take, lc]; omega)
  rw [← List.map_drop, ← List.map_take, ← List.map_append] at e
  unfold mZip
  rw [show mFrz (mVar 3) (sQ p k o (.val (row c)) (.val (.int (k % (c.length : Int)))) c5 c6) = .ok (.d (row c)) (sQ p k o (.val (row c)) (.val (.int (k % (c.length : Int)))) c5 c6) from ev_frz (ev_var rfl), bind_ok, show mFrz _ _ = _ from ev_frz e, bind_ok]
  simp only [seqD, row, Option.bind_some, Option.map_some]
  rw [zipD_map c _ (stp c k) (by rw [List.length_append, List.length_drop, List.length_take]; omega) fun i hi => stp_eq h hi]
  rfl
theorem range_map_inv {mt : D → Rho → Option Rho} {b : Rho → Out} {n : Nat} {g : Nat → D} {P : Nat → Rho → Prop} (h : ∀ i ρ, i < n → P i ρ → ∃ ρ1 ρ2, mt (g i) ρ = some ρ1 ∧ b ρ1 = .nx ρ2 ∧ P (i + 1) ρ2) : ∀ (m s : Nat) (ρ : Rho), s + m = n → P s ρ → ∃ ρ', forL mt b ((List.range' s m).map g) ρ = .nx ρ' ∧ P n ρ'
  | 0, s, ρ, e, p => ⟨ρ, rfl, by rw [← e]; exact p⟩
  | m + 1, s, ρ, e, p => by
    obtain ⟨ρ1, ρ2, h1, h2, h3⟩ := h s ρ (by omega) p
    obtain ⟨ρ', h4, h5⟩ := range_map_inv h m (s + 1) ρ2 (by omega) h3
    refine ⟨ρ', ?_, h5⟩
    rw [List.range'_succ, List.map_cons, forL_cons h1 h2]
    exact h4
theorem bPp_eq {p o c : List Nat} {k : Int} (h : 0 < c.length) (hc : c.length ≤ 1000) (lt : ∀ x ∈ c, x < o.length) {c4 c5 c6 : Cell} (h4 : Clear c4) (h5 : Clear c5) (h6 : Clear c6) : ∃ c4' c5' c6', Clear c4' ∧ Clear c5' ∧ Clear c6' ∧ bPp (sQ p k o (.val (row c)) c4 c5 c6) = .nx (sQ p k (pwC k o c) (.val (row c)) c4' c5' c6') := by
  have e1 : mSet 4 (mOp dMod (mVar 1) (mCB bLen (mCons (mVar 3) mNil))) (sQ p k o (.val (row c)) c4 c5 c6) = .nx (sQ p k o (.val (row c)) (.val (.int (k % (c.length : Int)))) c5 c6) := by
    have e : Ev (mOp dMod (mVar 1) (mCB bLen (mCons (mVar 3) mNil))) (sQ p k o (.val (row c)) c4 c5 c6) (.int (k % (c.length : Int))) := by
      refine ev_op (d1 := .int k) (d2 := .int c.length) (ev_var rfl) (ev_cb1 (d1 := row c) (ev_var rfl) (by simp [row, bLen])) ?_
      have : (0 : Int) < c.length := by omega
      show (if decide ((0 : Int) < c.length) = true then some (EV.d (D.int (k % (c.length : Int)))) else none) = _
      rw [if_pos (decide_eq_true this)]
    rw [set_wr e (wr_clear (i := 4) (c := c4) rfl h4)]; rfl
  obtain ⟨ρ', e2, c5', c6', k5, k6, rfl⟩ := range_map_inv (mt := gtQ) (b := iPp) (n := c.length) (g := fun i => D.tup [dI (pf c i), dI (stp c k i)])
    (P := fun i ρ => ∃ c5 c6, Clear c5 ∧ Clear c6 ∧ ρ = sQ p k (fil c k o i) (.val (row c)) (.val (.int (k % (c.length : Int)))) c5 c6)
    (fun i ρ hi hP => by
      obtain ⟨c5, c6, h5, h6, rfl⟩ := hP
      refine ⟨_, _, gtQ_eq p _ k _ _ h5 h6, (stored (k := pf c i) (d := dI (stp c k i)) (b := false) (xs := (fil c k o i).map dI) (ev_var rfl) (ev_var rfl) rfl (by rw [List.length_map, fil_len]; exact lt _ (pf_mem hi))), .val (dI (pf c i)), .val (dI (stp c k i)), (fun _ _ z => by cases z), (fun _ _ z => by cases z), ?_⟩
      rw [← List.map_set]; rfl) c.length 0 (sQ p k o (.val (row c)) (.val (.int (k % (c.length : Int)))) c5 c6) (by omega) ⟨c5, c6, h5, h6, rfl⟩
  refine ⟨.val (.int (k % (c.length : Int))), c5', c6', (fun _ _ z => by cases z), k5, k6, (seq_nx e1).trans ?_⟩
  unfold mFor
  rw [ev_rot h hc, out_ok, List.range_eq_range']
  exact e2
theorem pp_loop {p : List Nat} {k : Int} : ∀ (C : List (List Nat)) (o : List Nat) (c3 c4 c5 c6 : Cell), (∀ c ∈ C, 0 < c.length ∧ c.length ≤ 1000 ∧ ∀ x ∈ c, x < o.length) → Clear c3 → Clear c4 → Clear c5 → Clear c6 → ∃ c3' c4' c5' c6', forL (gtN 3) bPp (C.map row) (sQ p k o c3 c4 c5 c6) = .nx (sQ p k (C.foldl (pwC k) o) c3' c4' c5' c6')
  | [], o, c3, c4, c5, c6, _, _, _, _, _ => ⟨c3, c4, c5, c6, rfl⟩
  | c :: C, o, c3, c4, c5, c6, h, h3, h4, h5, h6 => by
    obtain ⟨a0, a1, a2⟩ := h c (by simp)
    obtain ⟨c4', c5', c6', k4, k5, k6, e⟩ := bPp_eq (p := p) (k := k) a0 a1 a2 h4 h5 h6
    obtain ⟨d3, d4, d5, d6, e2⟩ := pp_loop (p := p) (k := k) C (pwC k o c) (.val (row c)) c4' c5' c6' (fun x hx => by rw [pwC_len]; exact h x (List.mem_cons_of_mem _ hx)) (fun _ _ z => by cases z) k4 k5 k6
    exact ⟨d3, d4, d5, d6, by rw [List.map_cons, forL_cons (put3q p o k c4 c5 c6 h3) e]; exact e2⟩
theorem pow_tail {p : List Nat} {C : List (List Nat)} (P : IsP p) (hp : p.length ≤ 1000) (cy : Cyc p (List.range p.length) [] [] C) (h : Cycs p C) (k : Int) : ∃ c3 c4 c5 c6, mSeq (mSet 2 (mRep (mLst (mCons (mFrz (mC (.int 0))) mNil)) (mCB bLen (mCons (mVar 0) mNil))))
    (mSeq (mFor (mIt (mCall m_f_cycle_rows 1 (mCons (mFrz (mVar 0)) mNil))) (gtN 3) bPp)
    (mRet (mCB bTuple (mCons (mVar 2) mNil)))) [.val (row p), .val (.int k), .no, .no, .no, .no, .no] = .rt (.d (row (pw k p.length C))) (sQ p k (pw k p.length C) c3 c4 c5 c6) := by
  have e1 : mSet 2 (mRep (mLst (mCons (mFrz (mC (.int 0))) mNil)) (mCB bLen (mCons (mVar 0) mNil))) [.val (row p), .val (.int k), .no, .no, .no, .no, .no] = .nx (sQ p k (List.replicate p.length 0) .no .no .no .no) := by
    rw [set_ok (rep_zero hp)]; rfl
  obtain ⟨c3, c4, c5, c6, e2⟩ := pp_loop (p := p) (k := k) C (List.replicate p.length 0) .no .no .no .no (fun c m => by
    obtain ⟨h1, h2⟩ := cyc_bound h m
    have := h.ne c m
    exact ⟨by cases c with | nil => exact (this rfl).elim | cons _ _ => simp, by omega, by simpa using h2⟩) (fun _ _ z => by cases z) (fun _ _ z => by cases z) (fun _ _ z => by cases z) (fun _ _ z => by cases z)
  have e0 : mCall m_f_cycle_rows 1 (mCons (mFrz (mVar 0)) mNil) (sQ p k (List.replicate p.length 0) .no .no .no .no) = .ok (.new (.lst (C.map row))) (sQ p k (List.replicate p.length 0) .no .no .no .no) := by
    rw [call1 (d := row p) (ρ1 := sQ p k (List.replicate p.length 0) .no .no .no .no) (ev_frz (ev_var rfl)), x_cycle_rows P hp cy]; rfl
  have e3 : mFor (mIt (mCall m_f_cycle_rows 1 (mCons (mFrz (mVar 0)) mNil))) (gtN 3) bPp (sQ p k (List.replicate p.length 0) .no .no .no .no) = .nx (sQ p k (pw k p.length C) c3 c4 c5 c6) := by
    unfold mFor
    rw [it_new e0, out_ok]
    exact e2
  exact ⟨c3, c4, c5, c6, (seq_nx e1).trans ((seq_nx e3).trans (ev_ret (ev_cbR (rv_own rfl) rfl)))⟩
end K04
end

set_option Elab.async false
set_option linter.all false
set_option maxRecDepth 100000
set_option autoImplicit false
noncomputable section
namespace K04
open PySem L2 Mi Lg
/-! permutations judged, for every value -/
def permB (ds : List D) : Bool := @decide (∃ l : List Nat, ds = l.map dI ∧ IsP l) (Classical.propDecidable _)
theorem permB_t {l : List Nat} (h : IsP l) : permB (l.map dI) = true := @decide_eq_true _ (Classical.propDecidable _) ⟨l, rfl, h⟩
theorem permB_f {ds : List D} (h : ¬ ∃ l : List Nat, ds = l.map dI ∧ IsP l) : permB ds = false := @decide_eq_false _ (Classical.propDecidable _) h
theorem permB_ex {ds : List D} (h : permB ds = true) : ∃ l : List Nat, ds = l.map dI ∧ IsP l := @of_decide_eq_true _ (Classical.propDecidable _) h
theorem dI_inj {a b : Nat} (h : dI a = dI b) : a = b := by
  have := D.int.inj h
  omega
theorem scan (n : Nat) : ∀ (rest : List D) (l : List Nat), l.Nodup → (∀ y ∈ l, y < n) → (∀ x ∈ rest, ∀ a, x ≠ .ref a) →
    (∃ l' : List Nat, rest = l'.map dI ∧ (l ++ l').Nodup ∧ ∀ y ∈ l', y < n) ∨ (∃ (l' : List Nat) (x : D) (more : List D), rest = l'.map dI ++ x :: more ∧ (l ++ l').Nodup ∧ (∀ y ∈ l', y < n) ∧ Bad n (l ++ l') x)
  | [], l, nd, _, _ => .inl ⟨[], rfl, by simpa using nd, by simp⟩
  | x :: rest, l, nd, lt, nr => by
    by_cases b : Bad n l x
    · exact .inr ⟨[], x, rest, rfl, by simpa using nd, by simp, by simpa using b⟩
    · have : ∃ k : Nat, x = dI k ∧ k < n ∧ k ∉ l := by
        cases x with
        | int i =>
          have h1 : ¬ i < 0 := fun z => b (.inl z)
          have h2 : ¬ (n : Int) ≤ i := fun z => b (.inr (.inl z))
          exact ⟨i.toNat, by show D.int i = D.int _; congr 1; omega, by omega, fun z => b (.inr (.inr ⟨i.toNat, by omega, by omega, z⟩))⟩
        | ref a => exact (nr _ (by simp) a rfl).elim
        | non => exact (b trivial).elim
        | emp => exact (b trivial).elim
        | bl _ => exact (b trivial).elim
        | str _ => exact (b trivial).elim
        | tup _ => exact (b trivial).elim
        | lst _ => exact (b trivial).elim
      obtain ⟨k, rfl, hk, nk⟩ := this
      have nd2 : (l ++ [k]).Nodup := by
        rw [List.nodup_append]
        exact ⟨nd, by simp, fun a ha b hb => by rw [List.mem_singleton.mp hb]; exact fun z => nk (z ▸ ha)⟩
      have lt2 : ∀ y ∈ l ++ [k], y < n := fun y hy => by
        rcases List.mem_append.mp hy with h | h
        · exact lt y h
        · rw [List.mem_singleton.mp h]; exact hk
      have lk : ∀ {l' : List Nat}, (∀ y ∈ l', y < n) → ∀ y ∈ k :: l', y < n := fun h y hy => by
        rcases List.mem_cons.mp hy with rfl | hy
        · exact hk
        · exact h y hy
      rcases scan n rest (l ++ [k]) nd2 lt2 (fun y hy => nr y (List.mem_cons_of_mem _ hy)) with ⟨l', e, h1, h2⟩ | ⟨l', y, more, e, h1, h2, h3⟩
      · exact .inl ⟨k :: l', by rw [e]; rfl, by simpa using h1, lk h2⟩
      · exact .inr ⟨k :: l', y, more, by rw [e]; rfl, by simpa using h1, lk h2, by simpa using h3⟩
theorem x_perm_any {ds : List D} (nr : ∀ x ∈ ds, ∀ a, x ≠ .ref a) (hl : ds.length ≤ 1000) : m_f_is_permutation [.val (.tup ds)] = .ok (.d (.bl (permB ds))) [.no] := by
  rcases scan ds.length ds [] List.nodup_nil (by simp) nr with ⟨l, e, h1, h2⟩ | ⟨l, x, more, e, h1, h2, h3⟩
  · have len : ds.length = l.length := by rw [e, List.length_map]
    have P : IsP l := ⟨by rw [← len]; exact h2, by simpa using h1⟩
    rw [e, permB_t P]
    exact x_perm_row P (by omega)
  · have len : ds.length = l.length + 1 + more.length := by rw [e]; simp; omega
    rw [List.nil_append] at h1 h3
    rw [len] at h2 h3
    have nb : permB ds = false := permB_f fun ⟨m, em, P⟩ => by
      rw [em] at e
      obtain ⟨m1, m2, rfl, e1, e2⟩ := List.map_eq_append_iff.mp e
      obtain ⟨y, m3, rfl, e3, e4⟩ := List.map_eq_cons_iff.mp e2
      subst e3
      have em1 : m1 = l := (List.map_inj_right (fun a b h => dI_inj h)).mp e1
      subst em1
      have lm : (m1 ++ y :: m3).length = m1.length + 1 + more.length := by
        have := congrArg List.length e4
        simp at this ⊢
        omega
      rcases h3 with h | h | ⟨k, hk, _, hk2⟩
      · omega
      · have := P.lt y (by simp)
        omega
      · have ey : y = k := by omega
        have := (List.nodup_append.mp P.nd).2.2 k hk2 y (by simp)
        exact this ey.symm
    rw [nb, e]
    exact x_perm_bad h2 h1 (by omega) h3
/-! ### == of lists of ints -/
theorem pyds_ints : ∀ xs : List Int, pyDs (xs.map D.int) = some (xs.map PyData.int)
  | [] => by simp [pyDs]
  | x :: xs => by rw [List.map_cons, pyDs, pyds_ints xs]; simp [pyD]
theorem eqv_ints : ∀ xs ys : List Int, PyData.eqvAll (xs.map PyData.int) (ys.map PyData.int) = decide (xs = ys)
  | [], [] => by simp [PyData.eqvAll]
  | [], _ :: _ => by simp [PyData.eqvAll]
  | _ :: _, [] => by simp [PyData.eqvAll]
  | x :: xs, y :: ys => by
    rw [List.map_cons, List.map_cons, PyData.eqvAll, eqv_ints xs ys]
    simp [PyData.eqv]
    rfl
theorem pl_ints (xs : List Int) : Pl 1 (.lst (xs.map D.int)) := pl_lst fun x hx => by
  obtain ⟨i, _, rfl⟩ := List.mem_map.mp hx
  exact pl_int 0 _
theorem eq_lsts (xs ys : List Int) : dEqA (.lst (xs.map D.int)) (.lst (ys.map D.int)) = some (.d (.bl (decide (xs = ys)))) := by
  obtain ⟨e1, a1, a2, a3⟩ := pl_ints xs
  obtain ⟨e2, b1, b2, b3⟩ := pl_ints ys
  have k1 : e1 = .list (xs.map PyData.int) := by
    have : pyD (.lst (xs.map D.int)) = some (.list (xs.map PyData.int)) := by simp [pyD, pyds_ints]
    rw [this] at a1; exact (Option.some.inj a1).symm
  have k2 : e2 = .list (ys.map PyData.int) := by
    have : pyD (.lst (ys.map D.int)) = some (.list (ys.map PyData.int)) := by simp [pyD, pyds_ints]
    rw [this] at b1; exact (Option.some.inj b1).symm
  have s1 : SeqAt.shaped e1 = true := by unfold SeqAt.shaped; rw [a2, decide_eq_true (by omega)]; rfl
  have s2 : SeqAt.shaped e2 = true := by unfold SeqAt.shaped; rw [b2, decide_eq_true (by omega)]; rfl
  have q : eqN (.lst (xs.map D.int)) (.lst (ys.map D.int)) = some (decide (xs = ys)) := by
    unfold eqN
    rw [a1, b1, Option.bind_some, Option.bind_some, s1, s2, if_pos (show (true && true) = true from rfl), k1, k2, PyData.eqv, eqv_ints]
  show (eqN (.lst (xs.map D.int)) (.lst (ys.map D.int))).map (fun b => EV.d (.bl b)) = _
  rw [q]; rfl
/-! ### the law's judgement -/
def NR1 (v : D) : Prop := ∀ a, v ≠ .ref a
def NR2 (v : D) : Prop := NR1 v ∧ ∀ ds, v = .tup ds → (∀ x ∈ ds, NR1 x) ∧ ds.length < 64
def isI : D → Bool
  | .int _ => true
  | _ => false
def isPm : D → Bool
  | .tup ds => permB ds
  | _ => false
theorem all_ints : ∀ {ds : List D}, ds.all isI = true → ∃ ns : List Int, ds = ns.map D.int
  | [], _ => ⟨[], rfl⟩
  | d :: ds, h => by
    rw [List.all_cons, Bool.and_eq_true] at h
    obtain ⟨ns, e⟩ := all_ints h.2
    cases d with
    | int i => exact ⟨i :: ns, by rw [e]; rfl⟩
    | _ => cases h.1
theorem ints_all (l : List Nat) : (l.map dI).all isI = true := by
  rw [List.all_eq_true]
  intro x hx
  obtain ⟨i, _, rfl⟩ := List.mem_map.mp hx
  rfl
theorem sort_perm (ns : List Int) : decide (ns.mergeSort leI = (List.range ns.length).map fun n : Nat => (n : Int)) = permB (ns.map D.int) := by
  by_cases c : ns.mergeSort leI = (List.range ns.length).map fun n : Nat => (n : Int)
  · rw [decide_eq_true c]
    have p : ns.Perm ((List.range ns.length).map fun n : Nat => (n : Int)) := by
      rw [← c]; exact (List.mergeSort_perm _ _).symm
    have e : ns = (ns.map Int.toNat).map fun n : Nat => (n : Int) := by
      rw [List.map_map]
      refine (List.map_id _).symm.trans (List.map_congr_left fun x hx => ?_)
      obtain ⟨n, _, rfl⟩ := List.mem_map.mp (p.mem_iff.mp hx)
      simp
    have p2 : (ns.map Int.toNat).Perm (List.range (ns.map Int.toNat).length) := by
      have := p.map Int.toNat
      rw [List.map_map] at this
      rw [List.length_map]
      refine this.trans (List.Perm.of_eq ?_)
      refine (List.map_congr_left fun x _ => ?_).trans (List.map_id _)
      simp
    have e2 : ns.map D.int = (ns.map Int.toNat).map dI := by
      conv => lhs; rw [e]
      rw [List.map_map]; rfl
    rw [e2]
    exact (permB_t (isP_of p2).1).symm
  · rw [decide_eq_false c]
    symm
    refine permB_f fun ⟨l, e, P⟩ => c ?_
    have e1 : ns = l.map fun n : Nat => (n : Int) := by
      have : ns.map D.int = (l.map fun n : Nat => (n : Int)).map D.int := by rw [e, List.map_map]; rfl
      exact (List.map_inj_right (fun a b h => D.int.inj h)).mp this
    subst e1
    refine perm_le ((List.mergeSort_perm _ _).trans ?_) (ms_le _) ?_
    · rw [List.length_map]
      exact P.perm.map _
    · rw [List.pairwise_map]
      refine List.pairwise_lt_range.imp fun h => by omega
def tIs : Rho → R Bool := mOrT (mNotT (mTru (mIsi .tuple (mVar 0)))) (mNotT (mTru (mCB bAll (mCons (mLc (mIt (mVar 0)) [1] (gtN 1) mYes (mAndV (mIsi .int (mVar 1)) (mNotV (mIsi .bool (mVar 1))))) mNil))))
def eIs : Rho → R EV := mOp dEqA (mCB bSortedA (mCons (mVar 0) mNil)) (mLstRg1 (mCB bLen (mCons (mVar 0) mNil)))
theorem is_false {v : D} (h : EvT tIs [.val v, .no] true) : m_f__law_is_perm [.val v] = .ok (.d (.bl false)) [.no] :=
  call_rt (e := .d (.bl false)) (cs := [.val v]) (ρ := [.val v, .no]) (seq_rt ((ifs_t h).trans (ev_ret ev_c))) (fun i z => by cases z)
theorem x_law_is {v : D} (h : NR2 v) : m_f__law_is_perm [.val v] = .ok (.d (.bl (isPm v))) [.no] := by
  have nt : dIsi .tuple v = some (.d (.bl false)) → m_f__law_is_perm [.val v] = .ok (.d (.bl false)) [.no] := fun k =>
    is_false (evt_or1 (evt_not (b := false) (evt_tru (ev_isi (T := .tuple) (ev_var rfl) k) rfl)))
  cases v with
  | ref a => exact (h.1 a rfl).elim
  | non => exact nt rfl
  | emp => exact nt rfl
  | bl _ => exact nt rfl
  | int _ => exact nt rfl
  | str _ => exact nt rfl
  | lst _ => exact nt rfl
  | tup ds =>
    obtain ⟨h1, h2⟩ := h.2 ds rfl
    have ea : Ev (mCB bAll (mCons (mLc (mIt (mVar 0)) [1] (gtN 1) mYes (mAndV (mIsi .int (mVar 1)) (mNotV (mIsi .bool (mVar 1))))) mNil)) [.val (.tup ds), .no] (.bl (ds.all isI)) := by
      refine ev_allL isI (it_tup (ev_var rfl)) rfl (by omega) fun d hd => ?_
      have nr := h1 d hd
      cases d with
      | ref a => exact (nr a rfl).elim
      | int i => exact ev_and (b1 := true) (b := true) (ev_isi (T := .int) (ev_var rfl) rfl) fun _ => ev_not (b := false) (ev_isi (T := .bool) (ev_var rfl) rfl)
      | bl b => exact ev_and (b1 := true) (b := false) (ev_isi (T := .int) (ev_var rfl) rfl) fun _ => ev_not (b := true) (ev_isi (T := .bool) (ev_var rfl) rfl)
      | non => exact ev_and (b1 := false) (b := false) (ev_isi (T := .int) (ev_var rfl) rfl) (fun z => by cases z)
      | emp => exact ev_and (b1 := false) (b := false) (ev_isi (T := .int) (ev_var rfl) rfl) (fun z => by cases z)
      | str _ => exact ev_and (b1 := false) (b := false) (ev_isi (T := .int) (ev_var rfl) rfl) (fun z => by cases z)
      | tup _ => exact ev_and (b1 := false) (b := false) (ev_isi (T := .int) (ev_var rfl) rfl) (fun z => by cases z)
      | lst _ => exact ev_and (b1 := false) (b := false) (ev_isi (T := .int) (ev_var rfl) rfl) (fun z => by cases z)
    have e1 : EvT (mNotT (mTru (mIsi .tuple (mVar 0)))) [.val (.tup ds), .no] false := evt_not (b := true) (evt_tru (ev_isi (T := .tuple) (ev_var rfl) rfl) rfl)
    have et : EvT tIs [.val (.tup ds), .no] (!(ds.all isI)) := evt_or2 e1 (evt_not (evt_tru ea rfl))
    show m_f__law_is_perm [.val (.tup ds)] = .ok (.d (.bl (permB ds))) [.no]
    cases c : ds.all isI with
    | false =>
      rw [c] at et
      rw [permB_f (fun ⟨l, e, _⟩ => by rw [e, ints_all] at c; cases c)]
      exact is_false et
    | true =>
      rw [c] at et
      obtain ⟨ns, rfl⟩ := all_ints c
      rw [List.length_map] at h2
      have s1 : mCB bSortedA (mCons (mVar 0) mNil) [.val (.tup (ns.map D.int)), .no] = .ok (.new (.lst ((ns.mergeSort leI).map D.int))) [.val (.tup (ns.map D.int)), .no] :=
        cb_ok (cons_ok (ev_var rfl) (nil_ok _)) (ds := [.tup (ns.map D.int)]) rfl (by simp only [bSortedA, intsOf_map, Option.bind_some, decide_eq_true h2, if_true])
      have s2 : mLstRg1 (mCB bLen (mCons (mVar 0) mNil)) [.val (.tup (ns.map D.int)), .no] = .ok (.new (.lst (((List.range ns.length).map fun n : Nat => (n : Int)).map D.int))) [.val (.tup (ns.map D.int)), .no] := by
        have e : Ev (mCB bLen (mCons (mVar 0) mNil)) [.val (.tup (ns.map D.int)), .no] (.int ns.length) := ev_cb1 (d1 := .tup (ns.map D.int)) (ev_var rfl) (by simp [bLen])
        unfold mLstRg1 mRng1
        rw [show mCB bLen (mCons (mVar 0) mNil) [.val (.tup (ns.map D.int)), .no] = .ok (.d (.int ns.length)) [.val (.tup (ns.map D.int)), .no] from e, bind_ok]
        have c1 : (ns.length : Int) ≤ 1000000 := by omega
        have c2 : (-1000000 : Int) ≤ ns.length := by omega
        simp [rngOk, c1, c2, rng_eq, dI, Function.comp_def]
      have e3 : Ev eIs [.val (.tup (ns.map D.int)), .no] (.bl (permB (ns.map D.int))) := by
        refine op_ok s1 s2 (x := .lst ((ns.mergeSort leI).map D.int)) (y := .lst (((List.range ns.length).map fun n : Nat => (n : Int)).map D.int)) rfl rfl ?_
        rw [eq_lsts, sort_perm]
      exact call_rt (e := .d (.bl (permB (ns.map D.int)))) (cs := [.val (.tup (ns.map D.int))]) (ρ := [.val (.tup (ns.map D.int)), .no]) ((seq_nx (ifs_f et)).trans (ev_ret e3)) (fun i z => by cases z)
theorem x_is {v : D} (h : NR2 v) : m_f_is_permutation [.val v] = .ok (.d (.bl (isPm v))) [.no] := by
  cases v with
  | tup ds => exact x_perm_any (h.2 ds rfl).1 (by have := (h.2 ds rfl).2; omega)
  | ref a => exact (h.1 a rfl).elim
  | non => exact x_perm_not trivial
  | emp => exact x_perm_not trivial
  | bl _ => exact x_perm_not trivial
  | int _ => exact x_perm_not trivial
  | str _ => exact x_perm_not trivial
  | lst _ => exact x_perm_not trivial
end K04
end

set_option Elab.async false
set_option linter.all false
set_option maxRecDepth 100000
set_option autoImplicit false
noncomputable section
namespace K04
open PySem L2 Mi Lg
/-! equal data are the same; told, raised -/
def Sm (n : Nat) (d : D) : Prop := m_f__law_same n [.val d, .val d] = .ok (.d (.bl true)) [.no, .no]
def b1S (f0 : List Cell → CR) : Rho → R EV := mAndV (mIsi .tuple (mVar 0)) (mAndV (mOp dEqA (mCB bLen (mCons (mVar 0) mNil)) (mCB bLen (mCons (mVar 1) mNil))) (mCB bAll (mCons (mLc (mRng1 (mCB bLen (mCons (mVar 1) mNil))) [2] (gtN 2) mYes (mCall f0 2 (mCons (mFrz (mOp dIx (mVar 0) (mVar 2))) (mCons (mFrz (mOp dIx (mVar 1) (mVar 2))) mNil)))) mNil)))
theorem evt_isi {T : Ty} {i : Nat} {d : D} {b : Bool} {ρ : Rho} (h : ρ[i]? = some (.val d)) (k : dIsi T d = some (.d (.bl b))) : EvT (mTru (mIsi T (mVar i))) ρ b := evt_tru (ev_isi (T := T) (ev_var h) k) rfl
theorem sm_int (n : Nat) (i : Int) : Sm (n + 1) (.int i) := by
  refine call_rt (e := .d (.bl true)) (cs := [.val (.int i), .val (.int i)]) (ρ := [.val (.int i), .val (.int i), .no]) ?_ (fun i z => by cases z)
  refine (seq_nx (ifs_f (evt_isi rfl rfl))).trans ((seq_nx (ifs_f (evt_tst (ev_op (ev_var rfl) ev_c rfl)))).trans ((seq_nx (ifs_f (evt_isi rfl rfl))).trans ((seq_nx (ifs_f (evt_isi rfl rfl))).trans (ev_ret ?_))))
  exact ev_and (b1 := true) (b := true) (ev_isi (T := .int) (ev_var rfl) rfl) fun _ => ev_and (b1 := true) (b := true) (ev_not (b := false) (ev_isi (T := .bool) (ev_var rfl) rfl)) fun _ => ev_op (d1 := .int i) (d2 := .int i) (ev_var rfl) (ev_var rfl) (eqA_self (pl_int 0 i) (by omega))
theorem sm_str (n : Nat) (x : Str) (hx : (PyData.str x).canLay0 = true) : Sm (n + 1) (.str x) := by
  refine call_rt (e := .d (.bl true)) (cs := [.val (.str x), .val (.str x)]) (ρ := [.val (.str x), .val (.str x), .no]) ?_ (fun i z => by cases z)
  refine (seq_nx (ifs_f (evt_isi rfl rfl))).trans ((seq_nx (ifs_f (evt_tst (ev_op (ev_var rfl) ev_c rfl)))).trans ((seq_nx (ifs_f (evt_isi rfl rfl))).trans (seq_rt ((ifs_t (evt_isi rfl rfl)).trans (ev_ret ?_)))))
  exact ev_and (b1 := true) (b := true) (ev_isi (T := .str) (ev_var rfl) rfl) fun _ => ev_op (d1 := .str x) (d2 := .str x) (ev_var rfl) (ev_var rfl) (eqA_self (pl_str 0 hx) (by omega))
theorem sm_bl (n : Nat) (b : Bool) : Sm (n + 1) (.bl b) := by
  refine call_rt (e := .d (.bl true)) (cs := [.val (.bl b), .val (.bl b)]) (ρ := [.val (.bl b), .val (.bl b), .no]) ?_ (fun i z => by cases z)
  refine (seq_nx (ifs_f (evt_isi rfl rfl))).trans ((seq_nx (ifs_f (evt_tst (ev_op (ev_var rfl) ev_c rfl)))).trans (seq_rt ((ifs_t (evt_isi rfl rfl)).trans (ev_ret ?_))))
  exact ev_and (b1 := true) (b := true) (ev_isi (T := .bool) (ev_var rfl) rfl) fun _ => ev_op (d1 := .bl b) (d2 := .bl b) (ev_var rfl) (ev_var rfl) (eqA_self (pl_bl 0 b) (by omega))
theorem all_true {α : Type} (l : List α) : bAll [.lst (l.map fun _ => D.bl true)] = some (.d (.bl true)) := by
  show (blsOf (l.map fun _ => D.bl true)).map (fun bs => EV.d (.bl (bs.all id))) = _
  rw [bls_map (fun _ => true) l, Option.map_some, List.all_map]
  simp
theorem sm_tup {n : Nat} {ds : List D} (h : ∀ d ∈ ds, Sm n d) (hl : ds.length ≤ 1000) : Sm (n + 1) (.tup ds) := by
  have h1 : (ds.length : Int) ≤ 1000000 := by omega
  have h2 : (-1000000 : Int) ≤ ds.length := by omega
  have e1 : mRng1 (mCB bLen (mCons (mVar 1) mNil)) [.val (.tup ds), .val (.tup ds), .no] = .ok ((List.range ds.length).map dI) [.val (.tup ds), .val (.tup ds), .no] := by
    simp [mRng1, mCB, mCons, mVar, mNil, rds, rd, bLen, rngOk, h1, h2, rng_eq]
  have e3 : Ev (mCB bAll (mCons (mLc (mRng1 (mCB bLen (mCons (mVar 1) mNil))) [2] (gtN 2) mYes (mCall (m_f__law_same n) 2 (mCons (mFrz (mOp dIx (mVar 0) (mVar 2))) (mCons (mFrz (mOp dIx (mVar 1) (mVar 2))) mNil)))) mNil)) [.val (.tup ds), .val (.tup ds), .no] (.bl (((List.range ds.length).map dI).all fun _ => true)) := by
    refine ev_allL _ e1 rfl (by simp; omega) fun d hd => ?_
    obtain ⟨j, hj, rfl⟩ := List.mem_map.mp hd
    have hj := List.mem_range.mp hj
    have a1 : dIx (.tup ds) (dI j) = some (.d ds[j]) := by simp [dIx, atI, ixN, dI, hj]
    exact ev_call2 (ev_op (d1 := .tup ds) (d2 := dI j) (ev_var rfl) (ev_var rfl) a1) (ev_op (d1 := .tup ds) (d2 := dI j) (ev_var rfl) (ev_var rfl) a1) (h _ (List.getElem_mem hj))
  rw [show (((List.range ds.length).map dI).all fun _ => true) = true from by simp] at e3
  have e4 : Ev (mOp dEqA (mCB bLen (mCons (mVar 0) mNil)) (mCB bLen (mCons (mVar 1) mNil))) [.val (.tup ds), .val (.tup ds), .no] (.bl true) := ev_op (d1 := .int ds.length) (d2 := .int ds.length) (ev_cb1 (d1 := .tup ds) (ev_var rfl) rfl) (ev_cb1 (d1 := .tup ds) (ev_var rfl) rfl) (eqA_self (pl_int 0 _) (by omega))
  refine call_rt (e := .d (.bl true)) (cs := [.val (.tup ds), .val (.tup ds)]) (ρ := [.val (.tup ds), .val (.tup ds), .no]) (seq_rt ((ifs_t (evt_isi rfl rfl)).trans (ev_ret ?_))) (fun i z => by cases z)
  exact ev_and (b1 := true) (b := true) (ev_isi (T := .tuple) (ev_var rfl) rfl) fun _ => ev_and (b1 := true) (b := true) e4 fun _ => e3
theorem sm_row (n : Nat) {l : List Nat} (h : l.length ≤ 1000) : Sm (n + 2) (row l) := sm_tup (fun d hd => by
  obtain ⟨x, _, rfl⟩ := List.mem_map.mp hd
  exact sm_int n _) (by simpa using h)
def toldD (r : D) : D := .tup [.str "told", r]
def cT (k : Int) : Rho → R Bool := mTst (mOp dEqA (mCB bLen (mCons (mVar 1) mNil)) (mC (.int k)))
def gv (j : Int) : Rho → R EV := mOp dIx (mVar 1) (mC (.int j))
def a1 (A : Adr) : Rho → R EV := mCallV 0 (tabL A) (mCons (mFrz (gv 0)) mNil)
def a2 (A : Adr) : Rho → R EV := mCallV 0 (tabL A) (mCons (mFrz (gv 0)) (mCons (mFrz (gv 1)) mNil))
def a3 (A : Adr) : Rho → R EV := mCallV 0 (tabL A) (mCons (mFrz (gv 0)) (mCons (mFrz (gv 1)) (mCons (mFrz (gv 2)) mNil)))
def a4 (A : Adr) : Rho → R EV := mCallV 0 (tabL A) (mCons (mFrz (gv 0)) (mCons (mFrz (gv 1)) (mCons (mFrz (gv 2)) (mCons (mFrz (gv 3)) mNil))))
def tT (m : Rho → R EV) : Rho → Out := mRet (mTup (mCons (mFrz (mC (.str "told"))) (mCons (mFrz m) mNil)))
def bT (A : Adr) : Rho → Out := mSeq (mIfS (cT 1) (tT (a1 A)) mNext) (mSeq (mIfS (cT 2) (tT (a2 A)) mNext) (mSeq (mIfS (cT 3) (tT (a3 A)) mNext) (tT (a4 A))))
def sT (f : Addr) (xs : List D) : Rho := [.val (.ref f), .val (.tup xs), .no]
theorem cT_ok (k : Int) (f : Addr) (xs : List D) : EvT (cT k) (sT f xs) (decide ((xs.length : Int) = k)) := evt_tst (ev_op (d1 := .int xs.length) (ev_cb1 (d1 := .tup xs) (ev_var rfl) rfl) ev_c rfl)
theorem told_rt {A : Adr} {f : Addr} {xs : List D} {x : D} (h : bT A (sT f xs) = .rt (.d x) (sT f xs)) : m_f__law_told A [.val (.ref f), .val (.tup xs)] = .ok (.d x) [.no, .no] := by
  refine call_rt (e := .d x) (cs := [.val (.ref f), .val (.tup xs)]) (ρ := sT f xs) ?_ (fun i z => by cases z)
  show mTryM (bT A) (mRet eBad) (sT f xs) = _
  unfold mTryM
  rw [h]
theorem told_ml {A : Adr} {f : Addr} {xs : List D} (h : bT A (sT f xs) = .exn .mal (sT f xs)) : m_f__law_told A [.val (.ref f), .val (.tup xs)] = .ok (.d BAD) [.no, .no] := by
  refine call_rt (e := .d BAD) (cs := [.val (.ref f), .val (.tup xs)]) (ρ := sT f xs) ?_ (fun i z => by cases z)
  show mTryM (bT A) (mRet eBad) (sT f xs) = _
  unfold mTryM
  rw [h]
  rfl
theorem tT_ok {m : Rho → R EV} {ρ : Rho} {r : D} (h : Ev m ρ r) : tT m ρ = .rt (.d (toldD r)) ρ := ev_ret (ev_tup2 ev_c h)
theorem tT_ex {m : Rho → R EV} {ρ : Rho} (h : m ρ = .exn .mal ρ) : tT m ρ = .exn .mal ρ := by
  have e5 : mFrz m ρ = .exn .mal ρ := by unfold mFrz; rw [h]; rfl
  have e6 : mCons (mFrz m) mNil ρ = .exn .mal ρ := by unfold mCons; rw [e5]; rfl
  have e7 : mCons (mFrz (mC (.str "told"))) (mCons (mFrz m) mNil) ρ = .exn .mal ρ := by
    show (mFrz (mC (.str "told")) ρ).bind _ = _
    rw [show mFrz (mC (.str "told")) ρ = .ok (.d (.str "told")) ρ from rfl, bind_ok, e6]; rfl
  unfold tT mRet mTup
  rw [e7]; rfl
section
variable {A : Adr} {f : Addr} {g : List Cell → CR} {x y r : D}
theorem gv_ok (j : Nat) (f : Addr) {xs : List D} {d : D} (h : xs[j]? = some d) : Ev (gv (j : Int)) (sT f xs) d := ev_op (d1 := .tup xs) (d2 := .int j) (ev_var rfl) ev_c (by
  have := at_nat h
  simp [dIx, this])
theorem a1_eq (hf : tabL A f = some (1, g)) : a1 A (sT f [x]) = atR (g [.val x]) (sT f [x]) := by
  unfold a1 mCallV
  show (match some (Cell.val (D.ref f)) with | some (.val (.ref a)) => (match tabL A a with | some p => mCall p.2 p.1 _ _ | none => .stuck) | _ => .stuck) = _
  simp only [hf]
  exact call1 (ev_frz (gv_ok 0 f rfl))
theorem a2_eq (hf : tabL A f = some (2, g)) : a2 A (sT f [x, y]) = atR (g [.val x, .val y]) (sT f [x, y]) := by
  unfold a2 mCallV
  show (match some (Cell.val (D.ref f)) with | some (.val (.ref a)) => (match tabL A a with | some p => mCall p.2 p.1 _ _ | none => .stuck) | _ => .stuck) = _
  simp only [hf]
  exact call2 (ev_frz (gv_ok 0 f rfl)) (ev_frz (gv_ok 1 f rfl))
theorem told1 (hf : tabL A f = some (1, g)) (h : g [.val x] = .ok (.d r) [.no]) : m_f__law_told A [.val (.ref f), .val (.tup [x])] = .ok (.d (toldD r)) [.no, .no] :=
  told_rt (seq_rt ((ifs_t (cT_ok 1 f [x])).trans (tT_ok (by unfold Ev; rw [a1_eq hf, h]; rfl))))
theorem bad1 (hf : tabL A f = some (1, g)) (h : g [.val x] = .exn .mal) : m_f__law_told A [.val (.ref f), .val (.tup [x])] = .ok (.d BAD) [.no, .no] :=
  told_ml (seq_ex ((ifs_t (cT_ok 1 f [x])).trans (tT_ex (by rw [a1_eq hf, h]; rfl))))
theorem told2 (hf : tabL A f = some (2, g)) (h : g [.val x, .val y] = .ok (.d r) [.no, .no]) : m_f__law_told A [.val (.ref f), .val (.tup [x, y])] = .ok (.d (toldD r)) [.no, .no] :=
  told_rt ((seq_nx (ifs_f (cT_ok 1 f [x, y]))).trans (seq_rt ((ifs_t (cT_ok 2 f [x, y])).trans (tT_ok (by unfold Ev; rw [a2_eq hf, h]; rfl)))))
theorem bad2 (hf : tabL A f = some (2, g)) (h : g [.val x, .val y] = .exn .mal) : m_f__law_told A [.val (.ref f), .val (.tup [x, y])] = .ok (.d BAD) [.no, .no] :=
  told_ml ((seq_nx (ifs_f (cT_ok 1 f [x, y]))).trans (seq_ex ((ifs_t (cT_ok 2 f [x, y])).trans (tT_ex (by rw [a2_eq hf, h]; rfl)))))
end
theorem x_is_told {r : D} (h : Sm 4 r) : m_f__law_is_told [.val (toldD r), .val r] = .ok (.d (.bl true)) [.no, .no] :=
  call_rt (e := .d (.bl true)) (cs := [.val (toldD r), .val r]) (ρ := [.val (toldD r), .val r]) (ev_ret (ev_and (b1 := true) (b := true) (ev_op (d1 := .str "told") (d2 := .str "told") (ev_op (d1 := toldD r) (d2 := .int 0) (ev_var rfl) ev_c rfl) ev_c rfl) fun _ => ev_call2 (ev_op (d1 := toldD r) (d2 := .int 1) (ev_var rfl) ev_c rfl) (ev_var rfl) h)) (fun i z => by cases z)
theorem x_is_raised : m_f__law_is_raised [.val BAD, .val (.str "malformed")] = .ok (.d (.bl true)) [.no, .no] :=
  call_rt (e := .d (.bl true)) (cs := [.val BAD, .val (.str "malformed")]) (ρ := [.val BAD, .val (.str "malformed")]) (ev_ret (ev_and (b1 := true) (b := true) (ev_op (d1 := .str "raised") (d2 := .str "raised") (ev_op (d1 := BAD) (d2 := .int 0) (ev_var rfl) ev_c rfl) ev_c rfl) fun _ => ev_call2 (ev_op (d1 := BAD) (d2 := .int 1) (ev_var rfl) ev_c rfl) (ev_var rfl) (sm_str 3 "malformed" (by decide +kernel)))) (fun i z => by cases z)
end K04
end

set_option Elab.async false
set_option linter.all false
set_option maxRecDepth 100000
set_option autoImplicit false
noncomputable section
namespace K04
open PySem L2 Mi Lg
/-! the program's functions, at good and at bad arguments -/
theorem ev_isint {m : Rho → R EV} {ρ : Rho} {d : D} (h : Ev m ρ d) (nr : ∀ a, d ≠ .ref a) : Ev (mCall m_f_is_integer 1 (mCons (mFrz m) mNil)) ρ (.bl (isI d)) := by
  have := ev_call1 h (x_is_integer d nr)
  cases d <;> exact this
theorem dem_ok {m : Rho → R EV} {x : Str} {ρ : Rho} {b : Bool} (h : Ev m ρ (.bl b)) (hx : x.length ≤ 1000) : mDrop (mCall m_f_demand 2 (mCons (mFrz m) (mCons (mFrz (mC (.str x))) mNil))) ρ = if b then .nx ρ else .exn .mal ρ := by
  have e : mCall m_f_demand 2 (mCons (mFrz m) (mCons (mFrz (mC (.str x))) mNil)) ρ = if b then .ok (.d .non) ρ else .exn .mal ρ := by
    rw [call2 (ev_frz h) (e := .str x) (ρ2 := ρ) rfl, x_demand b _ hx]
    cases b <;> rfl
  unfold mDrop
  rw [e]
  cases b <;> rfl
def okn (n : Nat) : Bool → CR
  | true => .ok (.d .non) (List.replicate n .no)
  | false => .exn .mal
theorem bLen_lst (xs : List D) : bLen [.lst xs] = some (.d (.int xs.length)) := rfl
theorem dem1 {f : List Cell → CR} {m : Rho → R EV} {ρ : Rho} {v : D} {b : Bool} (hm : Ev m ρ v) (h : f [.val v] = okn 1 b) : mDrop (mCall f 1 (mCons (mFrz m) mNil)) ρ = if b then .nx ρ else .exn .mal ρ := by
  cases b with
  | true => exact drop_ok (Ev.eq (ev_call1 hm h))
  | false => exact ex_drop (ex_call1 hm h)
theorem dem2 {f : List Cell → CR} {m m2 : Rho → R EV} {ρ : Rho} {v v2 : D} {b : Bool} (hm : Ev m ρ v) (hm2 : Ev m2 ρ v2) (h : f [.val v, .val v2] = okn 2 b) : mDrop (mCall f 2 (mCons (mFrz m) (mCons (mFrz m2) mNil))) ρ = if b then .nx ρ else .exn .mal ρ := by
  cases b with
  | true => exact drop_ok (Ev.eq (ev_call2 hm hm2 h))
  | false => exact ex_drop (ex_call2 hm hm2 h)
theorem x_dem_one {v : D} (h : NR2 v) : m_f__demand_one [.val v] = okn 1 (isPm v) := by
  have e := dem_ok (x := "permutation") (ρ := [.val v]) (ev_call1 (m1 := mVar 0) (ev_var rfl) (x_is h)) (by decide)
  cases c : isPm v with
  | true => rw [c] at e; exact call_nx (cs := [.val v]) (ρ := [.val v]) e
  | false => rw [c] at e; exact call_ex (cs := [.val v]) (ρ := [.val v]) e rfl
def lenV : D → Nat
  | .tup ds => ds.length
  | _ => 0
theorem isPm_tup {v : D} (h : isPm v = true) : ∃ ds, v = .tup ds := by
  cases v with
  | tup ds => exact ⟨ds, rfl⟩
  | _ => cases h
theorem isPm_G {v : D} {d : Nat} (h : isPm v = true) (hd : lenV v = d) : ∃ g : G d, v = rw' g := by
  obtain ⟨ds, rfl⟩ := isPm_tup h
  obtain ⟨l, rfl, P⟩ := permB_ex (show permB ds = true from h)
  exact ⟨⟨l, P, by simpa [lenV] using hd⟩, rfl⟩
theorem pm_G {d : Nat} (g : G d) : isPm (rw' g) = true := permB_t g.p
theorem len_G {d : Nat} (g : G d) : lenV (rw' g) = d := by show (g.l.map dI).length = d; rw [List.length_map, g.n]
theorem len_V {v : D} (h : isPm v = true) : bLen [v] = some (.d (.int (lenV v))) := by
  obtain ⟨ds, rfl⟩ := isPm_tup h
  rfl
theorem nr_G {d : Nat} (g : G d) (hd : d < 64) : NR2 (rw' g) := ⟨(fun a z => by cases z), fun ds e => by
  cases e
  refine ⟨fun x hx a z => ?_, by rw [List.length_map, g.n]; exact hd⟩
  obtain ⟨i, _, rfl⟩ := List.mem_map.mp hx
  cases z⟩
def both (v w : D) : Bool := isPm v && (isPm w && decide (lenV v = lenV w))
theorem eq_nat (a b : Nat) : dEqA (.int a) (.int b) = some (.d (.bl (decide (a = b)))) := by
  show some (EV.d (.bl (decide ((a : Int) = b)))) = _
  by_cases c : a = b
  · rw [decide_eq_true c, decide_eq_true (by omega)]
  · rw [decide_eq_false c, decide_eq_false (by omega)]
theorem x_dem_two {v w : D} (h : NR2 v) (k : NR2 w) : m_f__demand_two [.val v, .val w] = okn 2 (both v w) := by
  have e1 := dem1 (m := mVar 0) (ρ := [.val v, .val w]) (ev_var rfl) (x_dem_one h)
  have e2 := dem1 (m := mVar 1) (ρ := [.val v, .val w]) (ev_var rfl) (x_dem_one k)
  unfold both
  cases c : isPm v with
  | false => rw [c] at e1; exact call_ex (cs := [.val v, .val w]) (ρ := [.val v, .val w]) (seq_ex e1) rfl
  | true =>
    rw [c] at e1
    cases c2 : isPm w with
    | false => rw [c2] at e2; exact call_ex (cs := [.val v, .val w]) (ρ := [.val v, .val w]) ((seq_nx e1).trans (seq_ex e2)) rfl
    | true =>
      rw [c2] at e2
      have e3 := dem_ok (x := "permutations of as many sheets") (ρ := [.val v, .val w]) (ev_op (f := dEqA) (d1 := .int (lenV v)) (d2 := .int (lenV w)) (ev_cb1 (m1 := mVar 0) (ev_var rfl) (len_V c)) (ev_cb1 (m1 := mVar 1) (ev_var rfl) (len_V c2)) (eq_nat _ _)) (by decide)
      rw [Bool.true_and, Bool.true_and]
      cases c3 : decide (lenV v = lenV w) with
      | true => rw [c3] at e3; exact call_nx (cs := [.val v, .val w]) (ρ := [.val v, .val w]) ((seq_nx e1).trans ((seq_nx e2).trans e3))
      | false => rw [c3] at e3; exact call_ex (cs := [.val v, .val w]) (ρ := [.val v, .val w]) ((seq_nx e1).trans ((seq_nx e2).trans e3)) rfl
theorem x_prod {d : Nat} (g h : G d) (hd : d < 64) : m_f_product_of [.val (rw' g), .val (rw' h)] = .ok (.d (rw' (g.mul h))) [.no, .no] := by
  have e := dem2 (m := mVar 0) (m2 := mVar 1) (ρ := [.val (rw' g), .val (rw' h)]) (ev_var rfl) (ev_var rfl) (x_dem_two (nr_G g hd) (nr_G h hd))
  rw [show both (rw' g) (rw' h) = true from by unfold both; rw [pm_G, pm_G, len_G, len_G]; simp] at e
  exact call_rt (e := .d (rw' (g.mul h))) (cs := [.val (rw' g), .val (rw' h)]) (ρ := [.val (rw' g), .val (rw' h)]) ((seq_nx e).trans (ev_ret (ev_call2 (ev_var rfl) (ev_var rfl) (x_then g h (by omega))))) (fun i z => by cases z)
theorem prod_bad {v w : D} (h : NR2 v) (k : NR2 w) (b : both v w = false) : m_f_product_of [.val v, .val w] = .exn .mal := by
  have e := dem2 (m := mVar 0) (m2 := mVar 1) (ρ := [.val v, .val w]) (ev_var rfl) (ev_var rfl) (x_dem_two h k)
  rw [b] at e
  exact call_ex (cs := [.val v, .val w]) (ρ := [.val v, .val w]) (seq_ex e) rfl
theorem x_inv {d : Nat} (g : G d) (hd : d < 64) : m_f_inverse_of [.val (rw' g)] = .ok (.d (rw' g.inv)) [.no] := by
  have e := dem1 (m := mVar 0) (ρ := [.val (rw' g)]) (ev_var rfl) (x_dem_one (nr_G g hd))
  rw [pm_G] at e
  exact call_rt (e := .d (rw' g.inv)) (cs := [.val (rw' g)]) (ρ := [.val (rw' g)]) ((seq_nx e).trans (ev_ret (ev_call1 (ev_var rfl) (x_turned g (by omega))))) (fun i z => by cases z)
theorem inv_bad {v : D} (h : NR2 v) (b : isPm v = false) : m_f_inverse_of [.val v] = .exn .mal := by
  have e := dem1 (m := mVar 0) (ρ := [.val v]) (ev_var rfl) (x_dem_one h)
  rw [b] at e
  exact call_ex (cs := [.val v]) (ρ := [.val v]) (seq_ex e) rfl
theorem pow_bad1 {v k : D} (h : NR2 v) (b : isPm v = false) : m_f_power_of [.val v, .val k] = .exn .mal := by
  have e := dem1 (m := mVar 0) (ρ := [.val v, .val k, .no, .no, .no, .no, .no]) (ev_var rfl) (x_dem_one h)
  rw [b] at e
  exact call_ex (cs := [.val v, .val k]) (ρ := [.val v, .val k, .no, .no, .no, .no, .no]) (seq_ex e) rfl
theorem pow_bad2 {v k : D} (h : NR2 v) (b : isPm v = true) (n : NR1 k) (c : isI k = false) : m_f_power_of [.val v, .val k] = .exn .mal := by
  have e := dem1 (m := mVar 0) (ρ := [.val v, .val k, .no, .no, .no, .no, .no]) (ev_var rfl) (x_dem_one h)
  rw [b] at e
  have e2 := dem_ok (x := "integer") (m := mCall m_f_is_integer 1 (mCons (mFrz (mVar 1)) mNil)) (ρ := [.val v, .val k, .no, .no, .no, .no, .no]) (ev_isint (ev_var rfl) n) (by decide)
  rw [c] at e2
  exact call_ex (cs := [.val v, .val k]) (ρ := [.val v, .val k, .no, .no, .no, .no, .no]) ((seq_nx e).trans (seq_ex e2)) rfl
theorem x_pow {d : Nat} (g : G d) (hd : d < 64) {C : List (List Nat)} (cy : Cyc g.l (List.range g.l.length) [] [] C) (h : Cycs g.l C) (k : Int) : m_f_power_of [.val (rw' g), .val (.int k)] = .ok (.d (row (pw k g.l.length C))) [.no, .no] := by
  have e := dem1 (m := mVar 0) (ρ := [.val (rw' g), .val (.int k), .no, .no, .no, .no, .no]) (ev_var rfl) (x_dem_one (nr_G g hd))
  rw [pm_G] at e
  have e2 := dem_ok (x := "integer") (m := mCall m_f_is_integer 1 (mCons (mFrz (mVar 1)) mNil)) (b := true) (ρ := [.val (rw' g), .val (.int k), .no, .no, .no, .no, .no]) (ev_isint (d := .int k) (ev_var rfl) (fun a z => by cases z)) (by decide)
  obtain ⟨c3, c4, c5, c6, e3⟩ := pow_tail g.p (by rw [g.n]; omega) cy h k
  exact call_rt (e := .d (row (pw k g.l.length C))) (cs := [.val (rw' g), .val (.int k)]) (ρ := sQ g.l k (pw k g.l.length C) c3 c4 c5 c6) ((seq_nx e).trans ((seq_nx e2).trans e3)) (fun i z => by cases z)
/-! ### rows -/
def seqV : D → Option (List D)
  | .lst ds => some ds
  | .tup ds => some ds
  | _ => none
def inD : D → Bool
  | .int d => decide (0 ≤ d) && decide (d ≤ 60)
  | _ => false
theorem ev_isTL {m : Rho → R EV} {ρ : Rho} {d : D} {b : Bool} (h : Ev m ρ d) (k : dIsTL d = some (.d (.bl b))) : Ev (mIsTL m) ρ (.bl b) := by
  unfold Ev mIsTL
  rw [show m ρ = .ok (.d d) ρ from h, bind_ok]
  simp [rd, k]
theorem is_TL {v : D} (n : NR1 v) : dIsTL v = some (.d (.bl (seqV v).isSome)) := by
  cases v with
  | ref a => exact (n a rfl).elim
  | _ => rfl
theorem x_dem_row {v k : D} (n : NR1 v) (n2 : NR1 k) : m_f__demand_row [.val v, .val k] = okn 2 ((seqV v).isSome && inD k) := by
  have e1 := dem_ok (x := "tuple or list") (ρ := [.val v, .val k]) (ev_isTL (m := mVar 0) (ev_var rfl) (is_TL n)) (by decide)
  have e2 := dem_ok (x := "number of sheets") (m := mAndV (mCall m_f_is_integer 1 (mCons (mFrz (mVar 1)) mNil)) (mChain dLe dLe (mC (.int 0)) (mVar 1) (mC (.int 60)))) (b := inD k) (ρ := [.val v, .val k]) (by
    have i1 := ev_isint (m := mVar 1) (ρ := [.val v, .val k]) (ev_var rfl) n2
    cases k with
    | int d =>
      have := ev_and (b1 := true) (b := decide (0 ≤ d) && decide (d ≤ 60)) i1 fun _ => ev_chain (f := dLe) (f' := dLe) (d1 := .int 0) (d3 := .int 60) ev_c (ev_var (i := 1) (d := .int d) rfl) ev_c rfl rfl
      rwa [Bool.true_and] at this
    | ref a => exact (n2 a rfl).elim
    | non => exact ev_and (b1 := false) (b := false) i1 (fun z => by cases z)
    | emp => exact ev_and (b1 := false) (b := false) i1 (fun z => by cases z)
    | bl _ => exact ev_and (b1 := false) (b := false) i1 (fun z => by cases z)
    | str _ => exact ev_and (b1 := false) (b := false) i1 (fun z => by cases z)
    | tup _ => exact ev_and (b1 := false) (b := false) i1 (fun z => by cases z)
    | lst _ => exact ev_and (b1 := false) (b := false) i1 (fun z => by cases z)) (by decide)
  cases c : (seqV v).isSome with
  | false => rw [c] at e1; exact call_ex (cs := [.val v, .val k]) (ρ := [.val v, .val k]) (seq_ex e1) rfl
  | true =>
    rw [c] at e1
    rw [Bool.true_and]
    cases c2 : inD k with
    | false => rw [c2] at e2; exact call_ex (cs := [.val v, .val k]) (ρ := [.val v, .val k]) ((seq_nx e1).trans e2) rfl
    | true => rw [c2] at e2; exact call_nx (cs := [.val v, .val k]) (ρ := [.val v, .val k]) ((seq_nx e1).trans e2)
theorem row_bad {v k : D} (n : NR1 v) (n2 : NR1 k) (b : ((seqV v).isSome && inD k) = false) : m_f_product_row [.val v, .val k] = .exn .mal := by
  have e := dem2 (m := mVar 0) (m2 := mVar 1) (ρ := [.val v, .val k, .no, .no]) (ev_var rfl) (ev_var rfl) (x_dem_row n n2)
  rw [b] at e
  exact call_ex (cs := [.val v, .val k]) (ρ := [.val v, .val k, .no, .no]) (seq_ex e) rfl
def permAt (d : Nat) (v : D) : Bool := isPm v && decide (lenV v = d)
theorem it_seq {m : Rho → R EV} {ρ : Rho} {v : D} {ds : List D} (h : Ev m ρ v) (k : seqV v = some ds) : mIt m ρ = .ok ds ρ := by
  cases v with
  | lst xs => cases k; exact it_lst h
  | tup xs => cases k; exact it_tup h
  | _ => cases k
theorem ev_items {v : D} {ds : List D} {d : Nat} (k : seqV v = some ds) (hl : ds.length ≤ 1000) (h : ∀ x ∈ ds, NR2 x) : Ev (mCB bAll (mCons (mLc (mIt (mVar 0)) [3] (gtN 3) mYes (mAndV (mCall m_f_is_permutation 1 (mCons (mFrz (mVar 3)) mNil)) (mOp dEqA (mCB bLen (mCons (mVar 3) mNil)) (mVar 1)))) mNil)) [.val v, .val (dI d), .no, .no] (.bl (ds.all (permAt d))) := by
  refine ev_allL (permAt d) (it_seq (ev_var rfl) k) rfl (by omega) fun x hx => ?_
  have e := ev_call1 (m1 := mVar 3) (ρ := [.val v, .val (dI d), .no, .val x]) (ev_var rfl) (x_is (h x hx))
  exact ev_and e fun c => ev_op (d1 := .int (lenV x)) (d2 := .int d) (ev_cb1 (m1 := mVar 3) (ev_var rfl) (len_V c)) (ev_var rfl) (eq_nat _ _)
def eThen : Rho → R EV := mCall m_f_then 2 (mCons (mFrz (mVar 2)) (mCons (mFrz (mVar 3)) mNil))
theorem row_loop {d : Nat} (hd : d ≤ 1000) (v k : D) : ∀ (ps : List (G d)) (a : G d) (c : Cell), Clear c → ∃ c', forL (gtN 3) (mSet 2 eThen) (ps.map rw') [.val v, .val k, .val (rw' a), c] = .nx [.val v, .val k, .val (rw' (ps.foldl G.mul a)), c']
  | [], a, c, _ => ⟨c, rfl⟩
  | p :: ps, a, c, h => by
    obtain ⟨c', e⟩ := row_loop hd v k ps (a.mul p) (.val (rw' p)) (fun _ _ z => by cases z)
    have g : gtN 3 (rw' p) [.val v, .val k, .val (rw' a), c] = some [.val v, .val k, .val (rw' a), .val (rw' p)] := put_wr (wr_clear (i := 3) (c := c) rfl h)
    have s : mSet 2 eThen [.val v, .val k, .val (rw' a), .val (rw' p)] = .nx [.val v, .val k, .val (rw' (a.mul p)), .val (rw' p)] := set_wr (ev_call2 (ev_var rfl) (ev_var rfl) (x_then a p hd)) (wr_val rfl)
    exact ⟨c', by rw [List.map_cons, forL_cons g s]; exact e⟩
theorem x_row {d : Nat} (hd : d ≤ 60) {v : D} {ps : List (G d)} (n : NR1 v) (k : seqV v = some (ps.map rw')) (hl : ps.length ≤ 1000) : m_f_product_row [.val v, .val (dI d)] = .ok (.d (rw' (ps.foldl G.mul (G.one d)))) [.no, .no] := by
  have e := dem2 (m := mVar 0) (m2 := mVar 1) (ρ := [.val v, .val (dI d), .no, .no]) (ev_var rfl) (ev_var rfl) (x_dem_row n (k := dI d) (fun a z => by cases z))
  rw [show ((seqV v).isSome && inD (dI d)) = true from by rw [k]; show (true && (decide ((0 : Int) ≤ d) && decide ((d : Int) ≤ 60))) = true; rw [decide_eq_true (by omega), decide_eq_true (by omega)]; rfl] at e
  have e2 := dem_ok (x := "row of permutations") (ev_items (d := d) k (by rw [List.length_map]; exact hl) (fun x hx => by
    obtain ⟨g, _, rfl⟩ := List.mem_map.mp hx
    exact nr_G g (by omega))) (by decide)
  rw [show (ps.map rw').all (permAt d) = true from by
    rw [List.all_eq_true]
    intro x hx
    obtain ⟨g, _, rfl⟩ := List.mem_map.mp hx
    unfold permAt
    rw [pm_G, len_G]; simp] at e2
  have u : m_f_unit_of [.val (dI d)] = .ok (.d (rw' (G.one d))) [.no] := by
    have := ev_tupRg (m := mVar 0) (ρ := [.val (dI d)]) (n := d) (ev_var rfl) (by omega)
    rw [rng_row] at this
    exact call_rt (e := .d (rw' (G.one d))) (cs := [.val (dI d)]) (ρ := [.val (dI d)]) (ev_ret this) (fun i z => by cases z)
  have e3 : mSet 2 (mCall m_f_unit_of 1 (mCons (mFrz (mVar 1)) mNil)) [.val v, .val (dI d), .no, .no] = .nx [.val v, .val (dI d), .val (rw' (G.one d)), .no] := set_wr (ev_call1 (ev_var rfl) u) (wr_no rfl)
  obtain ⟨c', e4⟩ := row_loop (by omega) v (dI d) ps (G.one d) .no (fun _ _ z => by cases z)
  have e5 : mFor (mIt (mVar 0)) (gtN 3) (mSet 2 eThen) [.val v, .val (dI d), .val (rw' (G.one d)), .no] = .nx [.val v, .val (dI d), .val (rw' (ps.foldl G.mul (G.one d))), c'] := by
    unfold mFor
    rw [it_seq (ev_var rfl) k, out_ok]
    exact e4
  exact call_rt (e := .d (rw' (ps.foldl G.mul (G.one d)))) (cs := [.val v, .val (dI d)]) (ρ := [.val v, .val (dI d), .val (rw' (ps.foldl G.mul (G.one d))), c']) ((seq_nx e).trans ((seq_nx e2).trans ((seq_nx e3).trans ((seq_nx e5).trans (ev_ret (ev_var rfl)))))) (fun i z => by cases z)
theorem row_bad2 {v : D} {ds : List D} {d : Nat} (hd : d ≤ 60) (n : NR1 v) (k : seqV v = some ds) (hl : ds.length ≤ 1000) (h : ∀ x ∈ ds, NR2 x) (b : ds.all (permAt d) = false) : m_f_product_row [.val v, .val (dI d)] = .exn .mal := by
  have e := dem2 (m := mVar 0) (m2 := mVar 1) (ρ := [.val v, .val (dI d), .no, .no]) (ev_var rfl) (ev_var rfl) (x_dem_row n (k := dI d) (fun a z => by cases z))
  rw [show ((seqV v).isSome && inD (dI d)) = true from by rw [k]; show (true && (decide ((0 : Int) ≤ d) && decide ((d : Int) ≤ 60))) = true; rw [decide_eq_true (by omega), decide_eq_true (by omega)]; rfl] at e
  have e2 := dem_ok (x := "row of permutations") (ev_items (d := d) k hl h) (by decide)
  rw [b] at e2
  exact call_ex (cs := [.val v, .val (dI d)]) (ρ := [.val v, .val (dI d), .no, .no]) ((seq_nx e).trans (seq_ex e2)) rfl
end K04
end

set_option Elab.async false
set_option linter.all false
set_option maxRecDepth 100000
set_option autoImplicit false
noncomputable section
namespace K04
open PySem L2 Mi Lg
/-! the values near a permutation -/
theorem nr_not {v : D} (h : NR1 v) (h2 : ∀ ds, v ≠ .tup ds) : NR2 v := ⟨h, fun ds e => (h2 ds e).elim⟩
theorem nr_tup {ds : List D} (h : ∀ x ∈ ds, NR1 x) (l : ds.length < 64) : NR2 (.tup ds) := ⟨(fun a z => by cases z), fun es e => by cases e; exact ⟨h, l⟩⟩
theorem ev_sl {m : Rho → R EV} {ml mh : Rho → R (Option Int)} {lo hi : Option Int} {ρ : Rho} {ds : List D} (h : Ev m ρ (.tup ds)) (h1 : ml ρ = .ok lo ρ) (h2 : mh ρ = .ok hi ρ) : Ev (mSl m ml mh) ρ (.tup (cutD ds lo hi)) := by
  unfold Ev mSl
  rw [show m ρ = .ok (.d (.tup ds)) ρ from h, bind_ok, h1, bind_ok, h2, bind_ok]
  rfl
theorem o1_ok {m : Rho → R EV} {ρ : Rho} {i : Int} (h : Ev m ρ (.int i)) : mO1 m ρ = .ok (some i) ρ := by
  unfold mO1; rw [show m ρ = .ok (.d (.int i)) ρ from h]; rfl
theorem o0_ok {ρ : Rho} : mO0 ρ = .ok none ρ := rfl
theorem cut_mem {ds : List D} {lo hi : Option Int} {x : D} (h : x ∈ cutD ds lo hi) : x ∈ ds := List.mem_of_mem_drop (List.mem_of_mem_take h)
theorem cut_len {ds : List D} {lo hi : Option Int} : (cutD ds lo hi).length ≤ ds.length := by
  unfold cutD
  rw [List.length_take, List.length_drop]
  omega
/-- a tuple of few things that are no references -/
def Tm (m : Rho → R EV) (ρ : Rho) (n : Nat) : Prop := ∃ ds, Ev m ρ (.tup ds) ∧ (∀ x ∈ ds, NR1 x) ∧ ds.length ≤ n
section
variable {m m1 m2 : Rho → R EV} {ρ : Rho} {d : D} {n k : Nat}
theorem tm_one (h : Ev m ρ d) (hn : NR1 d) : Tm (mTup (mCons (mFrz m) mNil)) ρ 1 := ⟨[d], ev_tup1 h, (fun x hx => by rw [List.mem_singleton.mp hx]; exact hn), by simp⟩
theorem tm_cat (h : Tm m1 ρ n) (h2 : Tm m2 ρ k) (l : n + k ≤ 1000) : Tm (mAddL m1 m2) ρ (n + k) := by
  obtain ⟨ds, a, b, c⟩ := h
  obtain ⟨es, a2, b2, c2⟩ := h2
  exact ⟨ds ++ es, ev_cat a a2 (by omega), (fun x hx => (List.mem_append.mp hx).elim (b x) (b2 x)), by rw [List.length_append]; omega⟩
theorem tm_sl {ml mh : Rho → R (Option Int)} {lo hi : Option Int} (h : Tm m ρ n) (h1 : ml ρ = .ok lo ρ) (h2 : mh ρ = .ok hi ρ) : Tm (mSl m ml mh) ρ n := by
  obtain ⟨ds, a, b, c⟩ := h
  exact ⟨_, ev_sl a h1 h2, fun x hx => b x (cut_mem hx), Nat.le_trans cut_len c⟩
theorem tm_nr (h : Tm m ρ n) (l : n < 64) : ∃ v, Ev (mFrz m) ρ v ∧ NR2 v := by
  obtain ⟨ds, a, b, c⟩ := h
  exact ⟨_, ev_frz a, nr_tup b (by omega)⟩
end
/-- the items of a list -/
def GL (ma : Rho → R (List EV)) (ρ : Rho) (n : Nat) : Prop := ∃ ds : List D, ma ρ = .ok (ds.map EV.d) ρ ∧ (∀ v ∈ ds, NR2 v) ∧ ds.length ≤ n
theorem gl_nil {ρ : Rho} : GL mNil ρ 0 := ⟨[], rfl, (fun v h => by cases h), by simp⟩
theorem gl_cons {m : Rho → R EV} {ma : Rho → R (List EV)} {ρ : Rho} {n : Nat} (h : ∃ v, Ev (mFrz m) ρ v ∧ NR2 v) (h2 : GL ma ρ n) : GL (mCons (mFrz m) ma) ρ (n + 1) := by
  obtain ⟨v, a, b⟩ := h
  obtain ⟨ds, c, d, e⟩ := h2
  refine ⟨v :: ds, cons_ok a c, fun x hx => ?_, by simp; exact e⟩
  rcases List.mem_cons.mp hx with rfl | hx
  · exact b
  · exact d x hx
theorem gl_c {d : D} {ma : Rho → R (List EV)} {ρ : Rho} {n : Nat} (hd : NR2 d) (h2 : GL ma ρ n) : GL (mCons (mFrz (mC d)) ma) ρ (n + 1) := gl_cons ⟨d, ev_frz ev_c, hd⟩ h2
def sN (a b : Int) (p : D) (n : Nat) (c3 c4 c5 : Cell) : Rho := [.own true (stt a b), .val p, .val (dI n), c3, c4, c5]
section
variable {d : Nat} (g : G d) (hd : d ≤ 60) (a b : Int)
theorem tm_p (c3 c4 c5 : Cell) : Tm (mVar 1) (sN a b (rw' g) d c3 c4 c5) d := ⟨g.l.map dI, ev_var rfl, (fun x hx => by
  obtain ⟨i, _, rfl⟩ := List.mem_map.mp hx
  intro a z; cases z), by rw [List.length_map, g.n]; omega⟩
def lNear : Rho → R (List EV) := (mCons (mFrz (mC .non)) (mCons (mFrz (mC (.int 5))) (mCons (mFrz (mC (.str "p"))) (mCons (mFrz (mLst mNil)) (mCons (mFrz (mCB bList (mCons (mVar 1) mNil))) (mCons (mFrz (mAddL (mVar 1) (mTup (mCons (mFrz (mVar 2)) mNil)))) (mCons (mFrz (mAddL (mVar 1) (mTup (mCons (mFrz (mAddL (mVar 2) (mC (.int 1)))) mNil)))) (mCons (mFrz (mIfE (mTst (mOp dGt (mVar 2) (mC (.int 0)))) (mAddL (mVar 1) (mTup (mCons (mFrz (mC (.int 0))) mNil))) (mTup (mCons (mFrz (mC (.int 1))) mNil)))) (mCons (mFrz (mAddL (mSl (mVar 1) (mO1 (mC (.int 1))) mO0) (mSl (mVar 1) mO0 (mO1 (mC (.int 1)))))) (mCons (mFrz (mSl (mVar 1) mO0 (mO1 (mUn dNeg (mC (.int 1)))))) (mCons (mFrz (mTup (mCons (mFrz (mC (.bl true))) mNil))) (mCons (mFrz (mTup (mCons (mFrz (mC (.bl true))) (mCons (mFrz (mC (.bl false))) mNil)))) (mCons (mFrz (mTup (mCons (mFrz (mC (.int 0))) (mCons (mFrz (mC (.bl true))) mNil)))) (mCons (mFrz (mTup (mCons (mFrz (mC (.str "0"))) mNil))) (mCons (mFrz (mTup (mCons (mFrz (mC .non)) mNil))) (mCons (mFrz (mTup (mCons (mFrz (mTup (mCons (mFrz (mC (.int 0))) mNil))) mNil))) (mCons (mFrz (mTup (mCons (mFrz (mUn dNeg (mC (.int 1)))) mNil))) (mCons (mFrz mDnew) mNil))))))))))))))))))
theorem nr1_int (i : Int) : NR1 (.int i) := fun a z => by cases z
theorem nr1_bl (i : Bool) : NR1 (.bl i) := fun a z => by cases z
theorem tm_two {x y : D} {ρ : Rho} (hx : NR1 x) (hy : NR1 y) : Tm (mTup (mCons (mFrz (mC x)) (mCons (mFrz (mC y)) mNil))) ρ 2 := ⟨[x, y], ev_tup2 ev_c ev_c, (fun z hz => by
  rcases List.mem_cons.mp hz with rfl | hz
  · exact hx
  · rw [List.mem_singleton.mp hz]; exact hy), by simp⟩
include hd in
theorem near_items (c3 c4 c5 : Cell) : GL lNear (sN a b (rw' g) d c3 c4 c5) 18 := by
  have p := tm_p g a b c3 c4 c5
  refine gl_c (nr_not (fun a z => by cases z) (fun ds z => by cases z)) ?_
  refine gl_c (nr_not (nr1_int 5) (fun ds z => by cases z)) ?_
  refine gl_c (nr_not (fun a z => by cases z) (fun ds z => by cases z)) ?_
  refine gl_cons ⟨.lst [], frz_new (lst_ok (ds := []) rfl (by simp)), nr_not (fun a z => by cases z) (fun ds z => by cases z)⟩ ?_
  refine gl_cons ⟨.lst (g.l.map dI), frz_new (list_ok (ev_var rfl)), nr_not (fun a z => by cases z) (fun ds z => by cases z)⟩ ?_
  refine gl_cons (tm_nr (tm_cat p (tm_one (ev_var (i := 2) (d := dI d) rfl) (nr1_int d)) (by omega)) (by omega)) ?_
  refine gl_cons (tm_nr (tm_cat p (tm_one (ev_addi (i := d) (j := 1) (ev_var rfl) ev_c) (nr1_int _)) (by omega)) (by omega)) ?_
  refine gl_cons ?_ ?_
  · have t : EvT (mTst (mOp dGt (mVar 2) (mC (.int 0)))) (sN a b (rw' g) d c3 c4 c5) (decide ((0 : Int) < d)) := evt_tst (ev_op (d1 := .int d) (d2 := .int 0) (ev_var rfl) ev_c rfl)
    cases c : decide ((0 : Int) < d) with
    | true =>
      rw [c] at t
      obtain ⟨ds, e, h1, h2⟩ := tm_cat p (tm_one (m := mC (.int 0)) (d := .int 0) ev_c (nr1_int 0)) (by omega)
      exact ⟨_, ev_frz (ev_ife t e), nr_tup h1 (by omega)⟩
    | false =>
      rw [c] at t
      obtain ⟨ds, e, h1, h2⟩ := tm_one (m := mC (.int 1)) (d := .int 1) (ρ := sN a b (rw' g) d c3 c4 c5) ev_c (nr1_int 1)
      exact ⟨_, ev_frz (ev_ife t e), nr_tup h1 (by omega)⟩
  refine gl_cons ?_ ?_
  · obtain ⟨ds, e, h1, h2⟩ := p
    refine ⟨_, ev_frz (ev_cat (ev_sl e (o1_ok (i := 1) ev_c) o0_ok) (ev_sl e o0_ok (o1_ok (i := 1) ev_c)) ?_), nr_tup (fun x hx => ?_) ?_⟩
    · have := cut_len (ds := ds) (lo := some 1) (hi := none)
      have := cut_len (ds := ds) (lo := none) (hi := some 1)
      omega
    · rcases List.mem_append.mp hx with hx | hx
      · exact h1 x (cut_mem hx)
      · exact h1 x (cut_mem hx)
    · have : (cutD ds none (some 1)).length ≤ 1 := by
        unfold cutD HT.sIx
        simp
        omega
      have := cut_len (ds := ds) (lo := some 1) (hi := none)
      rw [List.length_append]
      omega
  refine gl_cons (tm_nr (tm_sl p o0_ok (o1_ok (i := -1) (ev_un ev_c rfl))) (by omega)) ?_
  refine gl_cons (tm_nr (tm_one (m := mC (.bl true)) (d := .bl true) ev_c (nr1_bl _)) (by omega)) ?_
  refine gl_cons (tm_nr (tm_two (nr1_bl _) (nr1_bl _)) (by omega)) ?_
  refine gl_cons (tm_nr (tm_two (nr1_int _) (nr1_bl _)) (by omega)) ?_
  refine gl_cons (tm_nr (tm_one (m := mC (.str "0")) (d := .str "0") ev_c (fun a z => by cases z)) (by omega)) ?_
  refine gl_cons (tm_nr (tm_one (m := mC .non) (d := .non) ev_c (fun a z => by cases z)) (by omega)) ?_
  refine gl_cons (tm_nr (tm_one (d := .tup [.int 0]) (ev_tup1 ev_c) (fun a z => by cases z)) (by omega)) ?_
  refine gl_cons (tm_nr (tm_one (m := mUn dNeg (mC (.int 1))) (d := .int (-1)) (ev_un (d1 := .int 1) ev_c rfl) (nr1_int _)) (by omega)) ?_
  exact gl_cons ⟨.emp, rfl, nr_not (fun a z => by cases z) (fun ds z => by cases z)⟩ gl_nil
theorem add_d {m1 m2 : Rho → R EV} {ρ ρ1 ρ2 : Rho} {xs ys : List D} (h1 : m1 ρ = .ok (.d (.tup xs)) ρ1) (h2 : m2 ρ1 = .ok (.d (.tup ys)) ρ2) (h : xs.length + ys.length ≤ 1000000) : mAddL m1 m2 ρ = .ok (.d (.tup (xs ++ ys))) ρ2 := by
  unfold mAddL
  rw [h1, bind_ok, h2, bind_ok]
  simp [evL, rd, dAdd, szOk, h]
theorem tup_d {m : Rho → R EV} {ρ ρ1 : Rho} {w : D} (h : m ρ = .ok (.d w) ρ1) : mTup (mCons (mFrz m) mNil) ρ = .ok (.d (.tup [w])) ρ1 := by
  unfold mTup
  rw [cons_ok (frz_d h) (nil_ok _)]
  rfl
def tkN (k : Int) : Rho → R EV := mCall m_f__law_take 2 (mCons (mVar 0) (mCons (mFrz (mAddL (mVar 2) (mC (.int k)))) mNil))
def eNear : Rho → R EV := mAddL (mAddL (mSl (mVar 1) mO0 (mO1 (mVar 5))) (mTup (mCons (mFrz (mOp dSub (tkN 2) (mC (.int 1)))) mNil))) (mSl (mVar 1) (mO1 (mAddL (mVar 5) (mC (.int 1)))) mO0)
def bNear : Rho → Out := mSeq (mSet 5 (tkN 1)) (mDrop (mApp 3 eNear))
include hd in
theorem tkN_ok (k : Nat) (hk : 0 < k ∧ k < 10) (a b : Int) (c3 c4 c5 : Cell) : ∃ (v : Nat) (a' b' : Int), tkN k (sN a b (rw' g) d c3 c4 c5) = .ok (.d (.int v)) (sN a' b' (rw' g) d c3 c4 c5) ∧ v < d + k := by
  obtain ⟨v, a', b', e, h⟩ := tk (j := 0) (bb := true) (m := mAddL (mVar 2) (mC (.int k))) (ρ := sN a b (rw' g) d c3 c4 c5) (a := a) (b := b) (M := (d : Int) + k) rfl (ev_addi (ev_var rfl) ev_c) (by omega) (by omega)
  exact ⟨v, a', b', e, by omega⟩
include hd in
theorem bNear_ok (a b : Int) (vs : List D) (hl : vs.length ≤ 1000) (c4 : Cell) {c5 : Cell} (h5 : Clear c5) : ∃ (a' b' : Int) (v : D) (c5' : Cell), Clear c5' ∧ NR2 v ∧ bNear (sN a b (rw' g) d (.own false (.lst vs)) c4 c5) = .nx (sN a' b' (rw' g) d (.own false (.lst (vs ++ [v]))) c4 c5') := by
  obtain ⟨k, a1, b1, e1, hk⟩ := tkN_ok g hd 1 (by omega) a b (.own false (.lst vs)) c4 c5
  have s1 : mSet 5 (tkN 1) (sN a b (rw' g) d (.own false (.lst vs)) c4 c5) = .nx (sN a1 b1 (rw' g) d (.own false (.lst vs)) c4 (.val (.int k))) := by
    refine (set_ok e1).trans ?_
    cases c5 with
    | no => rfl
    | val _ => rfl
    | own b o => exact (h5 _ _ rfl).elim
  obtain ⟨w, a2, b2, e2, hw⟩ := tkN_ok g hd 2 (by omega) a1 b1 (.own false (.lst vs)) c4 (.val (.int k))
  have f1 : Ev (mSl (mVar 1) mO0 (mO1 (mVar 5))) (sN a1 b1 (rw' g) d (.own false (.lst vs)) c4 (.val (.int k))) (.tup ((g.l.map dI).take k)) := ev_slTo (ev_var rfl) (ev_var rfl) (by rw [row_len]; omega)
  have f2 : mTup (mCons (mFrz (mOp dSub (tkN 2) (mC (.int 1)))) mNil) (sN a1 b1 (rw' g) d (.own false (.lst vs)) c4 (.val (.int k))) = .ok (.d (.tup [.int ((w : Int) - 1)])) (sN a2 b2 (rw' g) d (.own false (.lst vs)) c4 (.val (.int k))) :=
    tup_d (op_ok e2 (ρ2 := sN a2 b2 (rw' g) d (.own false (.lst vs)) c4 (.val (.int k))) (n := mC (.int 1)) (e' := .d (.int 1)) rfl rfl rfl rfl)
  obtain ⟨es, f3, f4⟩ : ∃ es, Ev (mSl (mVar 1) (mO1 (mAddL (mVar 5) (mC (.int 1)))) mO0) (sN a2 b2 (rw' g) d (.own false (.lst vs)) c4 (.val (.int k))) (.tup es) ∧ es = cutD (g.l.map dI) (some ((k : Int) + 1)) none :=
    ⟨_, ev_sl (ev_var rfl) (o1_ok (ev_addi (ev_var rfl) ev_c)) o0_ok, rfl⟩
  have le : es.length ≤ d := by rw [f4]; have := cut_len (ds := g.l.map dI) (lo := some ((k : Int) + 1)) (hi := none); rw [row_len] at this; exact this
  have le2 : ((g.l.map dI).take k).length + es.length ≤ d := by
    rw [f4, show (k : Int) + 1 = ((k + 1 : Nat) : Int) from rfl]
    by_cases c : k + 1 ≤ (g.l.map dI).length
    · rw [cut_from c, List.length_take, List.length_drop, row_len]; omega
    · rw [row_len] at c
      have : (cutD (g.l.map dI) (some ((k + 1 : Nat) : Int)) none).length = 0 := by
        unfold cutD
        rw [HT.sIx_nat, HT.sIx_none, row_len, Nat.min_eq_right (by omega)]
        simp
      rw [this, List.length_take, row_len]; omega
  have f5 : eNear (sN a1 b1 (rw' g) d (.own false (.lst vs)) c4 (.val (.int k))) = .ok (.d (.tup ((g.l.map dI).take k ++ [.int ((w : Int) - 1)] ++ es))) (sN a2 b2 (rw' g) d (.own false (.lst vs)) c4 (.val (.int k))) :=
    add_d (add_d f1 f2 (by rw [List.length_take, row_len]; simp; omega)) f3 (by rw [List.length_append, List.length_take, row_len]; simp; omega)
  have s2 := app_nx (i := 3) (b := false) (b0 := false) (xs := vs) (ys := vs) rfl (frz_d f5) rfl (by omega)
  refine ⟨a2, b2, _, .val (.int k), (fun _ _ z => by cases z), nr_tup (fun x hx => ?_) ?_, (seq_nx s1).trans s2⟩
  · have inz : ∀ y ∈ g.l.map dI, NR1 y := fun y hy => by
      obtain ⟨i, _, rfl⟩ := List.mem_map.mp hy
      exact nr1_int _
    rcases List.mem_append.mp hx with hx | hx
    · rcases List.mem_append.mp hx with hx | hx
      · exact inz x (List.mem_of_mem_take hx)
      · rw [List.mem_singleton.mp hx]; exact nr1_int _
    · rw [f4] at hx; exact inz x (cut_mem hx)
  · rw [List.length_append, List.length_append, List.length_singleton]; omega
include hd in
theorem x_near : ∃ (vs : List D) (a' b' : Int), m_f__law_near [.own true (stt a b), .val (rw' g)] = .ok (.new (.lst vs)) [.own true (stt a' b'), .no] ∧ ∀ v ∈ vs, NR2 v := by
  obtain ⟨ds, h1, h2, h3⟩ := near_items g hd a b .no .no .no
  have s1 : mSet 2 (mCB bLen (mCons (mVar 1) mNil)) [.own true (stt a b), .val (rw' g), .no, .no, .no, .no] = .nx (sN a b (rw' g) d .no .no .no) := set_wr (ev_cb1 (ev_var rfl) (len_row g)) (wr_no rfl)
  have s2 : mSet 3 (mLst lNear) (sN a b (rw' g) d .no .no .no) = .nx (sN a b (rw' g) d (.own false (.lst ds)) .no .no) := (set_ok (lst_ok h1 (by omega))).trans rfl
  obtain ⟨ρ', e, vs, a', b', c4, c5, k4, k5, rfl, q1, q2⟩ := for_range (mt := gtN 4) (b := bNear) (n := 6) (m := mC (.int 6)) (ρ := sN a b (rw' g) d (.own false (.lst ds)) .no .no) (ρ1 := sN a b (rw' g) d (.own false (.lst ds)) .no .no)
    (P := fun i ρ => ∃ (vs : List D) (a' b' : Int) (c4 c5 : Cell), Clear c4 ∧ Clear c5 ∧ ρ = sN a' b' (rw' g) d (.own false (.lst vs)) c4 c5 ∧ (∀ v ∈ vs, NR2 v) ∧ vs.length ≤ 18 + i)
    (fun i ρ hi hP => by
      obtain ⟨vs, a', b', c4, c5, k4, k5, rfl, q1, q2⟩ := hP
      have gp : gtN 4 (dI i) (sN a' b' (rw' g) d (.own false (.lst vs)) c4 c5) = some (sN a' b' (rw' g) d (.own false (.lst vs)) (.val (dI i)) c5) := put_wr (wr_clear (i := 4) (c := c4) rfl k4)
      obtain ⟨a2, b2, v, c5', k5', nv, e⟩ := bNear_ok g hd a' b' vs (by omega) (.val (dI i)) k5
      refine ⟨_, _, gp, e, vs ++ [v], a2, b2, .val (dI i), c5', (fun _ _ z => by cases z), k5', rfl, fun x hx => ?_, by rw [List.length_append, List.length_singleton]; omega⟩
      rcases List.mem_append.mp hx with hx | hx
      · exact q1 x hx
      · rw [List.mem_singleton.mp hx]; exact nv)
    rfl (by omega) ⟨ds, a, b, .no, .no, (fun _ _ z => by cases z), (fun _ _ z => by cases z), rfl, h2, h3⟩
  refine ⟨vs, a', b', ?_, q1⟩
  exact call_rt (e := .new (.lst vs)) (cs := [.own true (stt a b), .val (rw' g)]) (ρ := [.own true (stt a' b'), .val (rw' g), .val (dI d), .no, c4, c5]) ((seq_nx s1).trans ((seq_nx s2).trans ((seq_nx e).trans rfl))) (fun i z => by cases z)
end
end K04
end

set_option Elab.async false
set_option linter.all false
set_option maxRecDepth 100000
set_option autoImplicit false
noncomputable section
namespace K04
open PySem L2 Mi Lg
/-! the law's steps -/
def eTold (A : Adr) (f m : Rho → R EV) : Rho → R EV := mCall (m_f__law_told A) 2 (mCons (mFrz f) (mCons (mFrz m) mNil))
def eIsT (m n : Rho → R EV) : Rho → R EV := mCall m_f__law_is_told 2 (mCons (mFrz m) (mCons (mFrz n) mNil))
def eIsR (m : Rho → R EV) : Rho → R EV := mCall m_f__law_is_raised 2 (mCons (mFrz m) (mCons (mFrz (mC (.str "malformed"))) mNil))
def Td (A : Adr) (f : Addr) (xs : List D) (r : D) : Prop := m_f__law_told A [.val (.ref f), .val (.tup xs)] = .ok (.d r) [.no, .no]
section
variable {A : Adr} {f m n : Rho → R EV} {ρ : Rho} {a : Addr} {xs : List D} {r : D}
theorem ev_told (h : Ev f ρ (.ref a)) (h1 : Ev m ρ (.tup xs)) (h2 : Td A a xs r) : Ev (eTold A f m) ρ r := ev_call2 h h1 h2
theorem ev_isT (h : Ev m ρ (toldD r)) (h1 : Ev n ρ r) (s : Sm 4 r) : Ev (eIsT m n) ρ (.bl true) := ev_call2 h h1 (x_is_told s)
theorem ev_isR (h : Ev m ρ BAD) : Ev (eIsR m) ρ (.bl true) := ev_call2 h ev_c x_is_raised
theorem not_t (h : Ev m ρ (.bl true)) : EvT (mNotT (mTru m)) ρ false := evt_not (b := true) (evt_tru h rfl)
theorem tup2F {m1 m2 : Rho → R EV} {d1 d2 : D} (h1 : Ev (mFrz m1) ρ d1) (h2 : Ev (mFrz m2) ρ d2) : Ev (mTup (mCons (mFrz m1) (mCons (mFrz m2) mNil))) ρ (.tup [d1, d2]) := by
  unfold Ev mTup
  rw [cons_ok h1 (cons_ok h2 (nil_ok _))]; rfl
end
section
variable {A : Adr}
theorem tb0 (A : Adr) : tabL A A.f_product_of = some (2, m_f_product_of) := by unfold tabL; rw [if_pos rfl]
theorem tb1 (k : TabOk A) : tabL A A.f_product_row = some (2, m_f_product_row) := by unfold tabL; rw [if_neg k.ne_1_0, if_pos rfl]
theorem tb2 (k : TabOk A) : tabL A A.f_inverse_of = some (1, m_f_inverse_of) := by unfold tabL; rw [if_neg k.ne_2_0, if_neg k.ne_2_1, if_pos rfl]
theorem tb3 (k : TabOk A) : tabL A A.f_power_of = some (2, m_f_power_of) := by unfold tabL; rw [if_neg k.ne_3_0, if_neg k.ne_3_1, if_neg k.ne_3_2, if_pos rfl]
end
/-! ### one value -/
section
variable {A : Adr} (ok : TabOk A) {d : Nat} (hd : d ≤ 60) (p : G d) {v : D} (nv : NR2 v)
def fit (d : Nat) (v : D) : Bool := isPm v && decide (lenV v = d)
def Ok3 (A : Adr) (f : Addr) (xs : List D) (b : Bool) : Prop := ∃ r, Td A f xs r ∧ (b = true → ∃ x, r = toldD x) ∧ (b = false → r = BAD)
include hd nv in
theorem ok_pv : Ok3 A A.f_product_of [rw' p, v] (fit d v) := by
  have e : both (rw' p) v = fit d v := by
    unfold both fit
    rw [pm_G, len_G, Bool.true_and]
    congr 1
    exact decide_eq_decide.mpr eq_comm
  cases c : fit d v with
  | true =>
    obtain ⟨g, rfl⟩ := isPm_G (v := v) (d := d) (by unfold fit at c; simp at c; exact c.1) (by unfold fit at c; simp at c; exact c.2)
    exact ⟨_, told2 (tb0 A) (x_prod p g (by omega)), (fun _ => ⟨_, rfl⟩), (fun z => by cases z)⟩
  | false => exact ⟨BAD, bad2 (tb0 A) (prod_bad (nr_G p (by omega)) nv (by rw [e, c])), (fun z => by cases z), fun _ => rfl⟩
include hd nv in
theorem ok_vp : Ok3 A A.f_product_of [v, rw' p] (fit d v) := by
  have e : both v (rw' p) = fit d v := by
    unfold both fit
    rw [pm_G, len_G, Bool.true_and]
  cases c : fit d v with
  | true =>
    obtain ⟨g, rfl⟩ := isPm_G (v := v) (d := d) (by unfold fit at c; simp at c; exact c.1) (by unfold fit at c; simp at c; exact c.2)
    exact ⟨_, told2 (tb0 A) (x_prod g p (by omega)), (fun _ => ⟨_, rfl⟩), (fun z => by cases z)⟩
  | false => exact ⟨BAD, bad2 (tb0 A) (prod_bad nv (nr_G p (by omega)) (by rw [e, c])), (fun z => by cases z), fun _ => rfl⟩
include ok hd nv in
theorem ok_row : Ok3 A A.f_product_row [.lst [rw' p, v], dI d] (fit d v) := by
  cases c : fit d v with
  | true =>
    obtain ⟨g, rfl⟩ := isPm_G (v := v) (d := d) (by unfold fit at c; simp at c; exact c.1) (by unfold fit at c; simp at c; exact c.2)
    exact ⟨_, told2 (tb1 ok) (x_row hd (ps := [p, g]) (fun a z => by cases z) rfl (by simp)), (fun _ => ⟨_, rfl⟩), (fun z => by cases z)⟩
  | false =>
    refine ⟨BAD, bad2 (tb1 ok) (row_bad2 hd (fun a z => by cases z) (ds := [rw' p, v]) rfl (by simp) (fun x hx => ?_) ?_), (fun z => by cases z), fun _ => rfl⟩
    · rcases List.mem_cons.mp hx with rfl | hx
      · exact nr_G p (by omega)
      · rw [List.mem_singleton.mp hx]; exact nv
    · show (permAt d (rw' p) && (permAt d v && true)) = false
      rw [show permAt d v = fit d v from rfl, c]
      simp
end
def bIn (A : Adr) : Rho → Out := mIfS (mOrT (mTst (mOp dNeA (mOp dEqA (mOp dIx (eTold A (mVar 14) (mVar 15)) (mC (.int 0))) (mC (.str "told"))) (mVar 12))) (mAndT (mNotT (mTru (mVar 12))) (mNotT (mTru (eIsR (eTold A (mVar 14) (mVar 15))))))) (mRet (mC (.bl false))) mNext
def L (s : D) (c1 c2 c3 c4 c5 c6 c7 c8 c9 c10 c11 c12 c13 c14 c15 : Cell) : Rho := [.val s, c1, c2, c3, c4, c5, c6, c7, c8, c9, c10, c11, c12, c13, c14, c15]
section
variable {A : Adr} {s : D} {c1 c2 c3 c4 c5 c6 c7 c8 c9 c10 c11 c12 c13 c14 c15 : Cell}
theorem bIn_ok {f : Addr} {xs : List D} {b : Bool} (h : Ok3 A f xs b) : bIn A (L s c1 c2 c3 c4 c5 c6 c7 c8 c9 c10 c11 (.val (.bl b)) c13 (.val (.ref f)) (.val (.tup xs))) = .nx (L s c1 c2 c3 c4 c5 c6 c7 c8 c9 c10 c11 (.val (.bl b)) c13 (.val (.ref f)) (.val (.tup xs))) := by
  obtain ⟨r, h1, h2, h3⟩ := h
  have e1 : Ev (eTold A (mVar 14) (mVar 15)) (L s c1 c2 c3 c4 c5 c6 c7 c8 c9 c10 c11 (.val (.bl b)) c13 (.val (.ref f)) (.val (.tup xs))) r := ev_told (ev_var rfl) (ev_var rfl) h1
  have e2 : Ev (mOp dEqA (mOp dIx (eTold A (mVar 14) (mVar 15)) (mC (.int 0))) (mC (.str "told"))) (L s c1 c2 c3 c4 c5 c6 c7 c8 c9 c10 c11 (.val (.bl b)) c13 (.val (.ref f)) (.val (.tup xs))) (.bl b) := by
    cases b with
    | true =>
      obtain ⟨x, rfl⟩ := h2 rfl
      exact ev_op (d1 := .str "told") (d2 := .str "told") (ev_op (d1 := toldD x) (d2 := .int 0) e1 ev_c rfl) ev_c rfl
    | false =>
      rw [h3 rfl] at e1
      exact ev_op (d1 := .str "raised") (d2 := .str "told") (ev_op (d1 := BAD) (d2 := .int 0) e1 ev_c rfl) ev_c rfl
  have e3 : EvT (mTst (mOp dNeA (mOp dEqA (mOp dIx (eTold A (mVar 14) (mVar 15)) (mC (.int 0))) (mC (.str "told"))) (mVar 12))) (L s c1 c2 c3 c4 c5 c6 c7 c8 c9 c10 c11 (.val (.bl b)) c13 (.val (.ref f)) (.val (.tup xs))) false := evt_tst (ev_op (d1 := .bl b) (d2 := .bl b) e2 (ev_var rfl) (neA_self (pl_bl 0 b) (by omega)))
  have e4 : EvT (mAndT (mNotT (mTru (mVar 12))) (mNotT (mTru (eIsR (eTold A (mVar 14) (mVar 15)))))) (L s c1 c2 c3 c4 c5 c6 c7 c8 c9 c10 c11 (.val (.bl b)) c13 (.val (.ref f)) (.val (.tup xs))) false := by
    cases b with
    | true => exact evt_and1 (evt_not (b := true) (evt_tru (ev_var (d := .bl true) rfl) rfl))
    | false =>
      rw [h3 rfl] at e1
      exact evt_and2 (evt_not (b := false) (evt_tru (ev_var (d := .bl false) rfl) rfl)) (not_t (ev_isR e1))
  exact ifs_f (evt_or2 e3 e4)
def gt2 : D → Rho → Option Rho := gtTup 2 (gtCons (gtN 14) (gtCons (gtN 15) gtNil))
theorem gt2_eq (x y : D) (h14 : Clear c14) (h15 : Clear c15) : gt2 (.tup [x, y]) (L s c1 c2 c3 c4 c5 c6 c7 c8 c9 c10 c11 c12 c13 c14 c15) = some (L s c1 c2 c3 c4 c5 c6 c7 c8 c9 c10 c11 c12 c13 (.val x) (.val y)) := by
  cases c14 with
  | own b o => exact (h14 _ _ rfl).elim
  | no => cases c15 with
    | own b o => exact (h15 _ _ rfl).elim
    | no => rfl
    | val _ => rfl
  | val _ => cases c15 with
    | own b o => exact (h15 _ _ rfl).elim
    | no => rfl
    | val _ => rfl
theorem in_loop {b : Bool} : ∀ (ps : List (Addr × List D)) (c14 c15 : Cell), (∀ q ∈ ps, Ok3 A q.1 q.2 b) → Clear c14 → Clear c15 → ∃ c14' c15', Clear c14' ∧ Clear c15' ∧ forL gt2 (bIn A) (ps.map fun q => D.tup [.ref q.1, .tup q.2]) (L s c1 c2 c3 c4 c5 c6 c7 c8 c9 c10 c11 (.val (.bl b)) c13 c14 c15) = .nx (L s c1 c2 c3 c4 c5 c6 c7 c8 c9 c10 c11 (.val (.bl b)) c13 c14' c15')
  | [], c14, c15, _, h1, h2 => ⟨c14, c15, h1, h2, rfl⟩
  | q :: ps, c14, c15, h, h1, h2 => by
    obtain ⟨d1, d2, k1, k2, e⟩ := in_loop ps (.val (.ref q.1)) (.val (.tup q.2)) (fun x hx => h x (List.mem_cons_of_mem _ hx)) (fun _ _ z => by cases z) (fun _ _ z => by cases z)
    exact ⟨d1, d2, k1, k2, by rw [List.map_cons, forL_cons (gt2_eq _ _ h1 h2) (bIn_ok (h q (by simp)))]; exact e⟩
def lIn (A : Adr) : Rho → R EV := mLst (mCons (mFrz (mTup (mCons (mFrz (mC (.ref A.f_product_of))) (mCons (mFrz (mTup (mCons (mFrz (mVar 8)) (mCons (mFrz (mVar 6)) mNil)))) mNil)))) (mCons (mFrz (mTup (mCons (mFrz (mC (.ref A.f_product_of))) (mCons (mFrz (mTup (mCons (mFrz (mVar 6)) (mCons (mFrz (mVar 8)) mNil)))) mNil)))) (mCons (mFrz (mTup (mCons (mFrz (mC (.ref A.f_product_row))) (mCons (mFrz (mTup (mCons (mFrz (mLst (mCons (mFrz (mVar 8)) (mCons (mFrz (mVar 6)) mNil)))) (mCons (mFrz (mVar 2)) mNil)))) mNil)))) mNil)))
def bNr (A : Adr) : Rho → Out := mSeq (mSet 11 (mCall m_f__law_is_perm 1 (mCons (mFrz (mVar 6)) mNil)))
    (mSeq (mIfS (mNotT (mTru (mCall (m_f__law_same 4) 2 (mCons (mFrz (mCall m_f_is_permutation 1 (mCons (mFrz (mVar 6)) mNil))) (mCons (mFrz (mVar 11)) mNil))))) (mRet (mC (.bl false))) mNext)
    (mSeq (mSet 12 (mAndV (mVar 11) (mOp dEqA (mCB bLen (mCons (mVar 6) mNil)) (mVar 2))))
    (mSeq (mFor (mIt (lIn A)) gt2 (bIn A))
    (mIfS (mAndT (mNotT (mTru (mVar 11))) (mOrT (mNotT (mTru (eIsR (eTold A (mC (.ref A.f_inverse_of)) (mTup (mCons (mFrz (mVar 6)) mNil)))))) (mNotT (mTru (eIsR (eTold A (mC (.ref A.f_power_of)) (mTup (mCons (mFrz (mVar 6)) (mCons (mFrz (mC (.int 1))) mNil))))))))) (mRet (mC (.bl false))) mNext))))
theorem bNr_ok (ok : TabOk A) {d : Nat} (hd : d ≤ 60) (p : G d) {v : D} (nv : NR2 v) (h11 : Clear c11) (h12 : Clear c12) (h14 : Clear c14) (h15 : Clear c15) : ∃ c11' c12' c14' c15', Clear c11' ∧ Clear c12' ∧ Clear c14' ∧ Clear c15' ∧
    bNr A (L s c1 (.val (dI d)) c3 c4 c5 (.val v) c7 (.val (rw' p)) c9 c10 c11 c12 c13 c14 c15) = .nx (L s c1 (.val (dI d)) c3 c4 c5 (.val v) c7 (.val (rw' p)) c9 c10 c11' c12' c13 c14' c15') := by
  have s1 : mSet 11 (mCall m_f__law_is_perm 1 (mCons (mFrz (mVar 6)) mNil)) (L s c1 (.val (dI d)) c3 c4 c5 (.val v) c7 (.val (rw' p)) c9 c10 c11 c12 c13 c14 c15) = .nx (L s c1 (.val (dI d)) c3 c4 c5 (.val v) c7 (.val (rw' p)) c9 c10 (.val (.bl (isPm v))) c12 c13 c14 c15) := set_wr (ev_call1 (ev_var rfl) (x_law_is nv)) (wr_clear (c := c11) rfl h11)
  have t2 : EvT (mNotT (mTru (mCall (m_f__law_same 4) 2 (mCons (mFrz (mCall m_f_is_permutation 1 (mCons (mFrz (mVar 6)) mNil))) (mCons (mFrz (mVar 11)) mNil))))) (L s c1 (.val (dI d)) c3 c4 c5 (.val v) c7 (.val (rw' p)) c9 c10 (.val (.bl (isPm v))) c12 c13 c14 c15) false := not_t (ev_call2 (ev_call1 (ev_var rfl) (x_is nv)) (ev_var rfl) (sm_bl 3 (isPm v)))
  have s3 : mSet 12 (mAndV (mVar 11) (mOp dEqA (mCB bLen (mCons (mVar 6) mNil)) (mVar 2))) (L s c1 (.val (dI d)) c3 c4 c5 (.val v) c7 (.val (rw' p)) c9 c10 (.val (.bl (isPm v))) c12 c13 c14 c15) = .nx (L s c1 (.val (dI d)) c3 c4 c5 (.val v) c7 (.val (rw' p)) c9 c10 (.val (.bl (isPm v))) (.val (.bl (fit d v))) c13 c14 c15) :=
    set_wr (ev_and (ev_var rfl) fun c => ev_op (d1 := .int (lenV v)) (d2 := .int d) (ev_cb1 (m1 := mVar 6) (ev_var rfl) (len_V c)) (ev_var rfl) (eq_nat _ _)) (wr_clear (c := c12) rfl h12)
  obtain ⟨d14, d15, k14, k15, e4⟩ := in_loop (A := A) (s := s) (c1 := c1) (c2 := .val (dI d)) (c3 := c3) (c4 := c4) (c5 := c5) (c6 := .val v) (c7 := c7) (c8 := .val (rw' p)) (c9 := c9) (c10 := c10) (c11 := .val (.bl (isPm v))) (c13 := c13) (b := fit d v)
    [(A.f_product_of, [rw' p, v]), (A.f_product_of, [v, rw' p]), (A.f_product_row, [.lst [rw' p, v], dI d])] c14 c15 (fun q hq => by
      simp only [List.mem_cons, List.not_mem_nil, or_false] at hq
      rcases hq with rfl | rfl | rfl
      · exact ok_pv hd p nv
      · exact ok_vp hd p nv
      · exact ok_row ok hd p nv) h14 h15
  have s4 : mFor (mIt (lIn A)) gt2 (bIn A) (L s c1 (.val (dI d)) c3 c4 c5 (.val v) c7 (.val (rw' p)) c9 c10 (.val (.bl (isPm v))) (.val (.bl (fit d v))) c13 c14 c15) = .nx (L s c1 (.val (dI d)) c3 c4 c5 (.val v) c7 (.val (rw' p)) c9 c10 (.val (.bl (isPm v))) (.val (.bl (fit d v))) c13 d14 d15) := by
    have el : lIn A (L s c1 (.val (dI d)) c3 c4 c5 (.val v) c7 (.val (rw' p)) c9 c10 (.val (.bl (isPm v))) (.val (.bl (fit d v))) c13 c14 c15) = .ok (.new (.lst (([(A.f_product_of, [rw' p, v]), (A.f_product_of, [v, rw' p]), (A.f_product_row, [.lst [rw' p, v], dI d])] : List (Addr × List D)).map fun q => D.tup [.ref q.1, .tup q.2]))) (L s c1 (.val (dI d)) c3 c4 c5 (.val v) c7 (.val (rw' p)) c9 c10 (.val (.bl (isPm v))) (.val (.bl (fit d v))) c13 c14 c15) := by
      refine lst_ok ?_ (by simp)
      refine cons_ok (ev_frz (ev_tup2 ev_c (ev_tup2 (ev_var rfl) (ev_var rfl)))) (cons_ok (ev_frz (ev_tup2 ev_c (ev_tup2 (ev_var rfl) (ev_var rfl)))) (cons_ok (ev_frz (ev_tup2 ev_c (tup2F (frz_new (lst_ok (ds := [rw' p, v]) (cons_ok (ev_frz (ev_var rfl)) (cons_ok (ev_frz (ev_var rfl)) (nil_ok _))) (by simp))) (ev_frz (ev_var rfl))))) (nil_ok _)))
    unfold mFor
    rw [it_new el, out_ok]
    exact e4
  have t5 : EvT (mAndT (mNotT (mTru (mVar 11))) (mOrT (mNotT (mTru (eIsR (eTold A (mC (.ref A.f_inverse_of)) (mTup (mCons (mFrz (mVar 6)) mNil)))))) (mNotT (mTru (eIsR (eTold A (mC (.ref A.f_power_of)) (mTup (mCons (mFrz (mVar 6)) (mCons (mFrz (mC (.int 1))) mNil))))))))) (L s c1 (.val (dI d)) c3 c4 c5 (.val v) c7 (.val (rw' p)) c9 c10 (.val (.bl (isPm v))) (.val (.bl (fit d v))) c13 d14 d15) false := by
    have e11 : EvT (mNotT (mTru (mVar 11))) (L s c1 (.val (dI d)) c3 c4 c5 (.val v) c7 (.val (rw' p)) c9 c10 (.val (.bl (isPm v))) (.val (.bl (fit d v))) c13 d14 d15) (!(isPm v)) := evt_not (evt_tru (ev_var (d := .bl (isPm v)) rfl) rfl)
    cases c : isPm v with
    | true => rw [c] at e11; exact evt_and1 e11
    | false =>
      rw [c] at e11
      exact evt_and2 e11 (evt_or2 (not_t (ev_isR (ev_told ev_c (ev_tup1 (ev_var rfl)) (bad1 (tb2 ok) (inv_bad nv c))))) (not_t (ev_isR (ev_told ev_c (ev_tup2 (ev_var rfl) ev_c) (bad2 (tb3 ok) (pow_bad1 nv c))))))
  exact ⟨_, _, d14, d15, (fun _ _ z => by cases z), (fun _ _ z => by cases z), k14, k15, (seq_nx s1).trans ((seq_nx (ifs_f t2)).trans ((seq_nx s3).trans ((seq_nx s4).trans (ifs_f t5))))⟩
theorem nr_loop (ok : TabOk A) {d : Nat} (hd : d ≤ 60) (p : G d) : ∀ (vs : List D) (c6 c11 c12 c14 c15 : Cell), (∀ v ∈ vs, NR2 v) → Clear c6 → Clear c11 → Clear c12 → Clear c14 → Clear c15 → ∃ c6' c11' c12' c14' c15', Clear c6' ∧ Clear c11' ∧ Clear c12' ∧ Clear c14' ∧ Clear c15' ∧
    forL (gtN 6) (bNr A) vs (L s c1 (.val (dI d)) c3 c4 c5 c6 c7 (.val (rw' p)) c9 c10 c11 c12 c13 c14 c15) = .nx (L s c1 (.val (dI d)) c3 c4 c5 c6' c7 (.val (rw' p)) c9 c10 c11' c12' c13 c14' c15')
  | [], c6, c11, c12, c14, c15, _, h6, h11, h12, h14, h15 => ⟨c6, c11, c12, c14, c15, h6, h11, h12, h14, h15, rfl⟩
  | v :: vs, c6, c11, c12, c14, c15, h, h6, h11, h12, h14, h15 => by
    obtain ⟨d11, d12, d14, d15, k11, k12, k14, k15, e⟩ := bNr_ok (s := s) (c1 := c1) (c3 := c3) (c4 := c4) (c5 := c5) (c7 := c7) (c9 := c9) (c10 := c10) (c13 := c13) ok hd p (h v (by simp)) h11 h12 h14 h15
    obtain ⟨f6, f11, f12, f14, f15, j6, j11, j12, j14, j15, e2⟩ := nr_loop ok hd p vs (.val v) d11 d12 d14 d15 (fun x hx => h x (List.mem_cons_of_mem _ hx)) (fun _ _ z => by cases z) k11 k12 k14 k15
    have g : gtN 6 v (L s c1 (.val (dI d)) c3 c4 c5 c6 c7 (.val (rw' p)) c9 c10 c11 c12 c13 c14 c15) = some (L s c1 (.val (dI d)) c3 c4 c5 (.val v) c7 (.val (rw' p)) c9 c10 c11 c12 c13 c14 c15) := put_wr (wr_clear (i := 6) (c := c6) rfl h6)
    exact ⟨f6, f11, f12, f14, f15, j6, j11, j12, j14, j15, by rw [forL_cons g e]; exact e2⟩
end
end K04
end

set_option Elab.async false
set_option linter.all false
set_option maxRecDepth 100000
set_option autoImplicit false
noncomputable section
namespace K04
open PySem L2 Mi Lg
/-! the law -/
def tk1 (k : Int) : Rho → R EV := mCall m_f__law_take 2 (mCons (mVar 1) (mCons (mFrz (mC (.int k))) mNil))
def dr1 : Rho → R EV := mCall m_f__law_drawn 2 (mCons (mVar 1) (mCons (mFrz (mVar 2)) mNil))
def stc (a b : Int) : Cell := .own false (stt a b)
theorem lst_ok2 {ma : Rho → R (List EV)} {ρ ρ1 : Rho} {ds : List D} (h : ma ρ = .ok (ds.map EV.d) ρ1) (hl : ds.length ≤ 1000000) : mLst ma ρ = .ok (.new (.lst ds)) ρ1 := by
  have e : ∀ ds : List D, dsOf (ds.map EV.d) = some ds := fun ds => by
    induction ds with
    | nil => rfl
    | cons d ds ih => simp [dsOf, ih]
  unfold mLst
  rw [h, bind_ok, e]
  simp [szOk, hl]
theorem it_new2 {m : Rho → R EV} {ρ ρ1 : Rho} {ds : List D} (h : m ρ = .ok (.new (.lst ds)) ρ1) : mIt m ρ = .ok ds ρ1 := by
  unfold mIt mFrz
  rw [h]; rfl
section
variable {A : Adr} {s : D} {a b : Int} {c2 c3 c4 c5 c6 c7 c8 c9 c10 c11 c12 c13 c14 c15 : Cell}
theorem tk1_ok (k : Nat) (hk : 0 < k ∧ k < 1000) (a b : Int) : ∃ (v : Nat) (a' b' : Int), v < k ∧ tk1 k (L s (stc a b) c2 c3 c4 c5 c6 c7 c8 c9 c10 c11 c12 c13 c14 c15) = .ok (.d (.int v)) (L s (stc a' b') c2 c3 c4 c5 c6 c7 c8 c9 c10 c11 c12 c13 c14 c15) := by
  obtain ⟨v, a', b', e, h⟩ := tk (j := 1) (bb := false) (m := mC (.int k)) (ρ := L s (stc a b) c2 c3 c4 c5 c6 c7 c8 c9 c10 c11 c12 c13 c14 c15) (a := a) (b := b) (M := k) rfl ev_c (by omega) (by omega)
  exact ⟨v, a', b', by omega, e⟩
theorem dr1_ok {d : Nat} (hd : d ≤ 60) (a b : Int) : ∃ (g : G d) (a' b' : Int), dr1 (L s (stc a b) (.val (dI d)) c3 c4 c5 c6 c7 c8 c9 c10 c11 c12 c13 c14 c15) = .ok (.d (rw' g)) (L s (stc a' b') (.val (dI d)) c3 c4 c5 c6 c7 c8 c9 c10 c11 c12 c13 c14 c15) := by
  obtain ⟨p, a', b', e, P, l⟩ := x_drawn a b d (by omega)
  exact ⟨⟨p, P, l⟩, a', b', callB (j := 1) (o := stt a b) (o' := stt a' b') (d := dI d) rfl (ev_frz (ev_var rfl)) e⟩
theorem law_n : ∃ (n : Nat) (a' b' : Int), n ≤ 60 ∧
    mSet 2 (mOp dIx (mLst (mCons (mFrz (tk1 7)) (mCons (mFrz (tk1 25)) (mCons (mFrz (mOp dSub (mC (.int 60)) (tk1 8))) mNil)))) (tk1 3)) (L s (stc a b) .no c3 c4 c5 c6 c7 c8 c9 c10 c11 c12 c13 c14 c15) = .nx (L s (stc a' b') (.val (dI n)) c3 c4 c5 c6 c7 c8 c9 c10 c11 c12 c13 c14 c15) := by
  obtain ⟨v1, a1, b1, p1, t1⟩ := tk1_ok (s := s) (c2 := .no) (c3 := c3) (c4 := c4) (c5 := c5) (c6 := c6) (c7 := c7) (c8 := c8) (c9 := c9) (c10 := c10) (c11 := c11) (c12 := c12) (c13 := c13) (c14 := c14) (c15 := c15) 7 (by omega) a b
  obtain ⟨v2, a2, b2, p2, t2⟩ := tk1_ok (s := s) (c2 := .no) (c3 := c3) (c4 := c4) (c5 := c5) (c6 := c6) (c7 := c7) (c8 := c8) (c9 := c9) (c10 := c10) (c11 := c11) (c12 := c12) (c13 := c13) (c14 := c14) (c15 := c15) 25 (by omega) a1 b1
  obtain ⟨v3, a3, b3, p3, t3⟩ := tk1_ok (s := s) (c2 := .no) (c3 := c3) (c4 := c4) (c5 := c5) (c6 := c6) (c7 := c7) (c8 := c8) (c9 := c9) (c10 := c10) (c11 := c11) (c12 := c12) (c13 := c13) (c14 := c14) (c15 := c15) 8 (by omega) a2 b2
  obtain ⟨v4, a4, b4, p4, t4⟩ := tk1_ok (s := s) (c2 := .no) (c3 := c3) (c4 := c4) (c5 := c5) (c6 := c6) (c7 := c7) (c8 := c8) (c9 := c9) (c10 := c10) (c11 := c11) (c12 := c12) (c13 := c13) (c14 := c14) (c15 := c15) 3 (by omega) a3 b3
  have e3 : mOp dSub (mC (.int 60)) (tk1 8) (L s (stc a2 b2) .no c3 c4 c5 c6 c7 c8 c9 c10 c11 c12 c13 c14 c15) = .ok (.d (.int (60 - (v3 : Int)))) (L s (stc a3 b3) .no c3 c4 c5 c6 c7 c8 c9 c10 c11 c12 c13 c14 c15) :=
    op_ok (m := mC (.int 60)) (e := .d (.int 60)) (ρ1 := L s (stc a2 b2) .no c3 c4 c5 c6 c7 c8 c9 c10 c11 c12 c13 c14 c15) rfl t3 rfl rfl rfl
  have e4 : mLst (mCons (mFrz (tk1 7)) (mCons (mFrz (tk1 25)) (mCons (mFrz (mOp dSub (mC (.int 60)) (tk1 8))) mNil))) (L s (stc a b) .no c3 c4 c5 c6 c7 c8 c9 c10 c11 c12 c13 c14 c15) = .ok (.new (.lst [.int v1, .int v2, .int (60 - (v3 : Int))])) (L s (stc a3 b3) .no c3 c4 c5 c6 c7 c8 c9 c10 c11 c12 c13 c14 c15) :=
    lst_ok2 (cons_ok (frz_d t1) (cons_ok (frz_d t2) (cons_ok (frz_d e3) (nil_ok _)))) (by simp)
  obtain ⟨n, hn, e5⟩ : ∃ n : Nat, n ≤ 60 ∧ dIx (.lst [.int v1, .int v2, .int (60 - (v3 : Int))]) (.int v4) = some (.d (dI n)) := by
    have : v4 = 0 ∨ v4 = 1 ∨ v4 = 2 := by omega
    rcases this with rfl | rfl | rfl
    · exact ⟨v1, by omega, rfl⟩
    · exact ⟨v2, by omega, rfl⟩
    · refine ⟨60 - v3, by omega, ?_⟩
      show some (EV.d (D.int (60 - (v3 : Int)))) = some (EV.d (D.int ((60 - v3 : Nat) : Int)))
      rw [show (60 : Int) - v3 = ((60 - v3 : Nat) : Int) from by omega]
  exact ⟨n, a4, b4, hn, (set_ok (op_ok e4 t4 rfl rfl e5)).trans rfl⟩
/-! ### powers -/
def lPw : Rho → R EV := mLst (mCons (mFrz (mC (.int 0))) (mCons (mFrz (mC (.int 1))) (mCons (mFrz (mUn dNeg (mC (.int 1)))) (mCons (mFrz (mC (.int 2))) (mCons (mFrz (mOp dSub (tk1 60) (mC (.int 30)))) (mCons (mFrz (mAddL (mOp dPow (mC (.int 10)) (mC (.int 40))) (mC (.int 7)))) (mCons (mFrz (mOp dSub (mUn dNeg (mOp dPow (mC (.int 10)) (mC (.int 20)))) (tk1 99))) mNil)))))))
theorem ev_ten {ρ : Rho} (n : Nat) (h : n ≤ 1000) : Ev (mOp dPow (mC (.int 10)) (mC (.int n))) ρ (.int ((10 : Int) ^ n)) := ev_op (d1 := .int 10) (d2 := .int n) ev_c ev_c (by
  show (if powOk 10 n = true then some (EV.d (D.int ((10 : Int) ^ (n : Int).toNat))) else none) = _
  rw [if_pos (by unfold powOk; simp; omega)]
  simp)
theorem pw_list : ∃ (ks : List Int) (a' b' : Int), mIt lPw (L s (stc a b) c2 c3 c4 c5 c6 c7 c8 c9 c10 c11 c12 c13 c14 c15) = .ok (ks.map D.int) (L s (stc a' b') c2 c3 c4 c5 c6 c7 c8 c9 c10 c11 c12 c13 c14 c15) := by
  obtain ⟨v1, a1, b1, p1, t1⟩ := tk1_ok (s := s) (c2 := c2) (c3 := c3) (c4 := c4) (c5 := c5) (c6 := c6) (c7 := c7) (c8 := c8) (c9 := c9) (c10 := c10) (c11 := c11) (c12 := c12) (c13 := c13) (c14 := c14) (c15 := c15) 60 (by omega) a b
  obtain ⟨v2, a2, b2, p2, t2⟩ := tk1_ok (s := s) (c2 := c2) (c3 := c3) (c4 := c4) (c5 := c5) (c6 := c6) (c7 := c7) (c8 := c8) (c9 := c9) (c10 := c10) (c11 := c11) (c12 := c12) (c13 := c13) (c14 := c14) (c15 := c15) 99 (by omega) a1 b1
  refine ⟨[0, 1, -1, 2, (v1 : Int) - 30, (10 : Int) ^ 40 + 7, -((10 : Int) ^ 20) - v2], a2, b2, it_new2 (lst_ok2 ?_ (by simp))⟩
  refine cons_ok rfl (cons_ok rfl (cons_ok rfl (cons_ok rfl (cons_ok (frz_d (op_ok t1 (n := mC (.int 30)) (ρ2 := L s (stc a1 b1) c2 c3 c4 c5 c6 c7 c8 c9 c10 c11 c12 c13 c14 c15) (e' := .d (.int 30)) rfl rfl rfl rfl)) (cons_ok (ev_frz (ev_addi (ev_ten 40 (by omega)) ev_c)) (cons_ok (frz_d ?_) (nil_ok _)))))))
  exact op_ok (ev_un (f := dNeg) (ev_ten (ρ := L s (stc a1 b1) c2 c3 c4 c5 c6 c7 c8 c9 c10 c11 c12 c13 c14 c15) 20 (by omega)) rfl) t2 rfl rfl rfl
def bPw (A : Adr) : Rho → Out := mIfS (mNotT (mTru (eIsT (eTold A (mC (.ref A.f_power_of)) (mTup (mCons (mFrz (mVar 8)) (mCons (mFrz (mVar 4)) mNil)))) (mCall m_f__law_power 2 (mCons (mFrz (mVar 8)) (mCons (mFrz (mVar 4)) mNil)))))) (mRet (mC (.bl false))) mNext
theorem bPw_ok (ok : TabOk A) {d : Nat} (hd : d ≤ 60) (p : G d) (k : Int) {ρ : Rho} (h8 : ρ[8]? = some (.val (rw' p))) (h4 : ρ[4]? = some (.val (.int k))) : bPw A ρ = .nx ρ := by
  obtain ⟨C, cy, h⟩ := cycs p.p
  have l := pw_len k p.l.length C
  refine ifs_f (not_t (ev_isT (r := row (pw k p.l.length C)) (ev_told ev_c (ev_tup2 (ev_var h8) (ev_var h4)) (told2 (tb3 ok) (x_pow p (by omega) cy h k))) (ev_call2 (ev_var h8) (ev_var h4) (x_lpow p.p (by rw [p.n]; omega) cy h k)) (sm_row 2 (by rw [l, p.n]; omega))))
/-! ### rows of permutations -/
def bRw : Rho → Out := mSeq (mDrop (mApp 10 dr1)) (mSet 11 (mCall m_f__law_times 2 (mCons (mFrz (mVar 11)) (mCons (mFrz (mOp dIx (mVar 10) (mUn dNeg (mC (.int 1))))) mNil))))
theorem ix_last (xs : List D) (y : D) : dIx (.lst (xs ++ [y])) (.int (-1)) = some (.d y) := by
  show (atI (xs ++ [y]) (-1)).map EV.d = _
  have e : atI (xs ++ [y]) (-1) = some y := by
    have lx : (xs ++ [y]).length = xs.length + 1 := by simp
    unfold atI
    have e2 : ixN (xs ++ [y]).length (-1) = some xs.length := by
      unfold ixN
      rw [lx, if_neg (by omega), if_pos (by omega)]
      congr 1
      omega
    rw [e2, Option.bind_some]
    simp
  rw [e]; rfl
theorem bRw_ok {d : Nat} (hd : d ≤ 60) (ps : List (G d)) (hp : ps.length ≤ 100) (a b : Int) : ∃ (g : G d) (a' b' : Int),
    bRw (L s (stc a b) (.val (dI d)) c3 c4 c5 c6 c7 c8 c9 (.own false (.lst (ps.map rw'))) (.val (rw' (ps.foldl G.mul (G.one d)))) c12 c13 c14 c15) = .nx (L s (stc a' b') (.val (dI d)) c3 c4 c5 c6 c7 c8 c9 (.own false (.lst ((ps ++ [g]).map rw'))) (.val (rw' ((ps ++ [g]).foldl G.mul (G.one d)))) c12 c13 c14 c15) := by
  obtain ⟨g, a', b', e⟩ := dr1_ok (s := s) (c3 := c3) (c4 := c4) (c5 := c5) (c6 := c6) (c7 := c7) (c8 := c8) (c9 := c9) (c10 := .own false (.lst (ps.map rw'))) (c11 := .val (rw' (ps.foldl G.mul (G.one d)))) (c12 := c12) (c13 := c13) (c14 := c14) (c15 := c15) hd a b
  have s1 := app_nx (i := 10) (b := false) (b0 := false) (xs := ps.map rw') (ys := ps.map rw') rfl (frz_d e) rfl (by rw [List.length_map]; omega)
  have s1' : mDrop (mApp 10 dr1) (L s (stc a b) (.val (dI d)) c3 c4 c5 c6 c7 c8 c9 (.own false (.lst (ps.map rw'))) (.val (rw' (ps.foldl G.mul (G.one d)))) c12 c13 c14 c15) = .nx (L s (stc a' b') (.val (dI d)) c3 c4 c5 c6 c7 c8 c9 (.own false (.lst (ps.map rw' ++ [rw' g]))) (.val (rw' (ps.foldl G.mul (G.one d)))) c12 c13 c14 c15) := s1
  have e2 : Ev (mOp dIx (mVar 10) (mUn dNeg (mC (.int 1)))) (L s (stc a' b') (.val (dI d)) c3 c4 c5 c6 c7 c8 c9 (.own false (.lst (ps.map rw' ++ [rw' g]))) (.val (rw' (ps.foldl G.mul (G.one d)))) c12 c13 c14 c15) (rw' g) :=
    ev_opR (rv_own rfl) (Ev.rv (ev_un (f := dNeg) (d1 := .int 1) (d := .int (-1)) ev_c rfl)) (ix_last _ _)
  have s2 : mSet 11 (mCall m_f__law_times 2 (mCons (mFrz (mVar 11)) (mCons (mFrz (mOp dIx (mVar 10) (mUn dNeg (mC (.int 1))))) mNil))) (L s (stc a' b') (.val (dI d)) c3 c4 c5 c6 c7 c8 c9 (.own false (.lst (ps.map rw' ++ [rw' g]))) (.val (rw' (ps.foldl G.mul (G.one d)))) c12 c13 c14 c15) = .nx (L s (stc a' b') (.val (dI d)) c3 c4 c5 c6 c7 c8 c9 (.own false (.lst (ps.map rw' ++ [rw' g]))) (.val (rw' ((ps.foldl G.mul (G.one d)).mul g))) c12 c13 c14 c15) :=
    set_wr (ev_call2 (ev_var rfl) e2 (x_times _ g (by omega))) (wr_val rfl)
  refine ⟨g, a', b', (seq_nx s1').trans (s2.trans ?_)⟩
  rw [List.map_append, List.foldl_append]
  rfl
theorem rw_loop {d : Nat} (hd : d ≤ 60) (g1 : G d) (he : g1 = G.one d) (h5 : Clear c5) (a b : Int) : ∃ (ps : List (G d)) (a' b' : Int) (c5' : Cell), ps.length ≤ 9 ∧ Clear c5' ∧
    mFor (mRng1 (tk1 9)) (gtN 5) bRw (L s (stc a b) (.val (dI d)) c3 c4 c5 c6 c7 c8 c9 (.own false (.lst [])) (.val (rw' g1)) c12 c13 c14 c15) = .nx (L s (stc a' b') (.val (dI d)) c3 c4 c5' c6 c7 c8 c9 (.own false (.lst (ps.map rw'))) (.val (rw' (ps.foldl G.mul (G.one d)))) c12 c13 c14 c15) := by
  subst he
  obtain ⟨n, a1, b1, hn, t⟩ := tk1_ok (s := s) (c2 := .val (dI d)) (c3 := c3) (c4 := c4) (c5 := c5) (c6 := c6) (c7 := c7) (c8 := c8) (c9 := c9) (c10 := .own false (.lst [])) (c11 := .val (rw' (G.one d))) (c12 := c12) (c13 := c13) (c14 := c14) (c15 := c15) 9 (by omega) a b
  obtain ⟨ρ', e, ps, a2, b2, c5', lp, k5, rfl⟩ := for_range (mt := gtN 5) (b := bRw) (n := n) (m := tk1 9) (ρ := L s (stc a b) (.val (dI d)) c3 c4 c5 c6 c7 c8 c9 (.own false (.lst [])) (.val (rw' (G.one d))) c12 c13 c14 c15)
    (P := fun i ρ => ∃ (ps : List (G d)) (a' b' : Int) (c5' : Cell), ps.length = i ∧ Clear c5' ∧ ρ = L s (stc a' b') (.val (dI d)) c3 c4 c5' c6 c7 c8 c9 (.own false (.lst (ps.map rw'))) (.val (rw' (ps.foldl G.mul (G.one d)))) c12 c13 c14 c15)
    (fun i ρ hi hP => by
      obtain ⟨ps, a', b', c5', lp, k5, rfl⟩ := hP
      obtain ⟨g, a2, b2, e⟩ := bRw_ok (s := s) (c3 := c3) (c4 := c4) (c5 := .val (dI i)) (c6 := c6) (c7 := c7) (c8 := c8) (c9 := c9) (c12 := c12) (c13 := c13) (c14 := c14) (c15 := c15) hd ps (by omega) a' b'
      have gp : gtN 5 (dI i) (L s (stc a' b') (.val (dI d)) c3 c4 c5' c6 c7 c8 c9 (.own false (.lst (ps.map rw'))) (.val (rw' (ps.foldl G.mul (G.one d)))) c12 c13 c14 c15) = some (L s (stc a' b') (.val (dI d)) c3 c4 (.val (dI i)) c6 c7 c8 c9 (.own false (.lst (ps.map rw'))) (.val (rw' (ps.foldl G.mul (G.one d)))) c12 c13 c14 c15) := put_wr (wr_clear (i := 5) (c := c5') rfl k5)
      exact ⟨_, _, gp, e, ps ++ [g], a2, b2, .val (dI i), by rw [List.length_append, List.length_singleton, lp], (fun _ _ z => by cases z), rfl⟩)
    t (by omega) ⟨[], a1, b1, c5, rfl, h5, rfl⟩
  exact ⟨ps, a2, b2, c5', by omega, k5, e⟩
theorem sm_G (n : Nat) {d : Nat} (hd : d ≤ 60) (g : G d) : Sm (n + 2) (rw' g) := sm_row n (by rw [g.n]; omega)
/-- the row is frozen when it is first told -/
theorem frz_row (xs : List D) {c1 : Cell} : mFrz (mVar 10) (L s c1 c2 c3 c4 c5 c6 c7 c8 c9 (.own false (.lst xs)) c11 c12 c13 c14 c15) = .ok (.d (.lst xs)) (L s c1 c2 c3 c4 c5 c6 c7 c8 c9 (.val (.lst xs)) c11 c12 c13 c14 c15) := rfl
def tRow (A : Adr) (m n : Rho → R EV) : Rho → R Bool := mNotT (mTru (eIsT (eTold A (mC (.ref A.f_product_row)) (mTup (mCons (mFrz m) (mCons (mFrz (mVar 2)) mNil)))) n))
theorem row1 (ok : TabOk A) {d : Nat} (hd : d ≤ 60) (ps : List (G d)) (hp : ps.length ≤ 100) {c1 : Cell} : tRow A (mVar 10) (mVar 11) (L s c1 (.val (dI d)) c3 c4 c5 c6 c7 c8 c9 (.own false (.lst (ps.map rw'))) (.val (rw' (ps.foldl G.mul (G.one d)))) c12 c13 c14 c15) = .ok false (L s c1 (.val (dI d)) c3 c4 c5 c6 c7 c8 c9 (.val (.lst (ps.map rw'))) (.val (rw' (ps.foldl G.mul (G.one d)))) c12 c13 c14 c15) := by
  have e1 : mTup (mCons (mFrz (mVar 10)) (mCons (mFrz (mVar 2)) mNil)) (L s c1 (.val (dI d)) c3 c4 c5 c6 c7 c8 c9 (.own false (.lst (ps.map rw'))) (.val (rw' (ps.foldl G.mul (G.one d)))) c12 c13 c14 c15) = .ok (.d (.tup [.lst (ps.map rw'), dI d])) (L s c1 (.val (dI d)) c3 c4 c5 c6 c7 c8 c9 (.val (.lst (ps.map rw'))) (.val (rw' (ps.foldl G.mul (G.one d)))) c12 c13 c14 c15) := by
    unfold mTup
    rw [cons_ok (frz_row _) (cons_ok (ev_frz (ev_var (i := 2) (d := dI d) rfl)) (nil_ok _))]; rfl
  have e2 : eTold A (mC (.ref A.f_product_row)) (mTup (mCons (mFrz (mVar 10)) (mCons (mFrz (mVar 2)) mNil))) (L s c1 (.val (dI d)) c3 c4 c5 c6 c7 c8 c9 (.own false (.lst (ps.map rw'))) (.val (rw' (ps.foldl G.mul (G.one d)))) c12 c13 c14 c15) = .ok (.d (toldD (rw' (ps.foldl G.mul (G.one d))))) (L s c1 (.val (dI d)) c3 c4 c5 c6 c7 c8 c9 (.val (.lst (ps.map rw'))) (.val (rw' (ps.foldl G.mul (G.one d)))) c12 c13 c14 c15) := by
    unfold eTold
    rw [call2 (d := .ref A.f_product_row) (ev_frz ev_c) (frz_d e1), told2 (tb1 ok) (x_row hd (ps := ps) (fun a z => by cases z) rfl (by omega))]; rfl
  have e3 : eIsT (eTold A (mC (.ref A.f_product_row)) (mTup (mCons (mFrz (mVar 10)) (mCons (mFrz (mVar 2)) mNil)))) (mVar 11) (L s c1 (.val (dI d)) c3 c4 c5 c6 c7 c8 c9 (.own false (.lst (ps.map rw'))) (.val (rw' (ps.foldl G.mul (G.one d)))) c12 c13 c14 c15) = .ok (.d (.bl true)) (L s c1 (.val (dI d)) c3 c4 c5 c6 c7 c8 c9 (.val (.lst (ps.map rw'))) (.val (rw' (ps.foldl G.mul (G.one d)))) c12 c13 c14 c15) := by
    unfold eIsT
    rw [call2 (frz_d e2) (ev_frz (ev_var (i := 11) (d := rw' (ps.foldl G.mul (G.one d))) rfl)), x_is_told (r := rw' (ps.foldl G.mul (G.one d))) (sm_G 2 hd _)]; rfl
  unfold tRow mNotT mTru
  rw [e3]; rfl
end
end K04
end

set_option Elab.async false
set_option linter.all false
set_option maxRecDepth 100000
set_option autoImplicit false
noncomputable section
namespace K04
open PySem L2 Mi Lg
section
variable {A : Adr} {s : D} {a b : Int} {c1 c2 c3 c4 c5 c6 c7 c8 c9 c10 c11 c12 c13 c14 c15 : Cell}
def lBd : Rho → R EV := mLst (mCons (mFrz (mC .non)) (mCons (mFrz (mC (.bl true))) (mCons (mFrz (mC (.str "1"))) (mCons (mFrz (mTup (mCons (mFrz (mC (.int 1))) mNil))) mNil))))
def bBd (A : Adr) : Rho → Out := mIfS (mOrT (mNotT (mTru (eIsR (eTold A (mC (.ref A.f_power_of)) (mTup (mCons (mFrz (mVar 8)) (mCons (mFrz (mVar 7)) mNil))))))) (mNotT (mTru (eIsR (eTold A (mC (.ref A.f_product_row)) (mTup (mCons (mFrz (mTup mNil)) (mCons (mFrz (mVar 7)) mNil)))))))) (mRet (mC (.bl false))) mNext
theorem bBd_ok (ok : TabOk A) {d : Nat} (hd : d ≤ 60) (p : G d) {v : D} (n : NR1 v) (i : isI v = false) {ρ : Rho} (h8 : ρ[8]? = some (.val (rw' p))) (h7 : ρ[7]? = some (.val v)) : bBd A ρ = .nx ρ := by
  have hin : inD v = false := by
    cases v with
    | int _ => cases i
    | _ => rfl
  refine ifs_f (evt_or2 (not_t (ev_isR (ev_told ev_c (ev_tup2 (ev_var h8) (ev_var h7)) (bad2 (tb3 ok) (pow_bad2 (nr_G p (by omega)) (pm_G p) n i))))) (not_t (ev_isR (ev_told ev_c (ev_tup2 ev_tup0 (ev_var h7)) (bad2 (tb1 ok) (row_bad (v := .tup []) (fun a z => by cases z) n (by rw [hin]; rfl)))))))
theorem bd_loop (ok : TabOk A) {d : Nat} (hd : d ≤ 60) (p : G d) (h7 : Clear c7) : ∃ c7', Clear c7' ∧ mFor (mIt lBd) (gtN 7) (bBd A) (L s c1 c2 c3 c4 c5 c6 c7 (.val (rw' p)) c9 c10 c11 c12 c13 c14 c15) = .nx (L s c1 c2 c3 c4 c5 c6 c7' (.val (rw' p)) c9 c10 c11 c12 c13 c14 c15) := by
  have el : lBd (L s c1 c2 c3 c4 c5 c6 c7 (.val (rw' p)) c9 c10 c11 c12 c13 c14 c15) = .ok (.new (.lst [.non, .bl true, .str "1", .tup [.int 1]])) (L s c1 c2 c3 c4 c5 c6 c7 (.val (rw' p)) c9 c10 c11 c12 c13 c14 c15) :=
    lst_ok (ds := [.non, .bl true, .str "1", .tup [.int 1]]) (cons_ok (ev_frz ev_c) (cons_ok (ev_frz ev_c) (cons_ok (ev_frz ev_c) (cons_ok (ev_frz (ev_tup1 ev_c)) (nil_ok _))))) (by simp)
  obtain ⟨c, k, e⟩ := for_same (i := 7) (b := bBd A) (ds := [.non, .bl true, .str "1", .tup [.int 1]]) (ρ := L s c1 c2 c3 c4 c5 c6 c7 (.val (rw' p)) c9 c10 c11 c12 c13 c14 c15) (wr_clear (c := c7) rfl h7) (fun v hv => by
    simp only [List.mem_cons, List.not_mem_nil, or_false] at hv
    rcases hv with rfl | rfl | rfl | rfl
    · exact bBd_ok ok hd p (v := .non) (fun a z => by cases z) rfl rfl rfl
    · exact bBd_ok ok hd p (v := .bl true) (fun a z => by cases z) rfl rfl rfl
    · exact bBd_ok ok hd p (v := .str "1") (fun a z => by cases z) rfl rfl rfl
    · exact bBd_ok ok hd p (v := .tup [.int 1]) (fun a z => by cases z) rfl rfl rfl)
  refine ⟨c, k, ?_⟩
  unfold mFor
  rw [it_new el, out_ok]
  exact e
/-! ### rows that are none -/
def lMn : Rho → R EV := mLst (mCons (mFrz (mTup (mCons (mFrz (mTup mNil)) (mCons (mFrz (mUn dNeg (mC (.int 1)))) mNil)))) (mCons (mFrz (mTup (mCons (mFrz (mTup mNil)) (mCons (mFrz (mC (.int 61))) mNil)))) (mCons (mFrz (mTup (mCons (mFrz (mC .non)) (mCons (mFrz (mVar 2)) mNil)))) (mCons (mFrz (mTup (mCons (mFrz (mC (.int 5))) (mCons (mFrz (mVar 2)) mNil)))) (mCons (mFrz (mTup (mCons (mFrz (mC (.str ""))) (mCons (mFrz (mVar 2)) mNil)))) (mCons (mFrz (mTup (mCons (mFrz (mTup (mCons (mFrz (mVar 8)) mNil))) (mCons (mFrz (mAddL (mVar 2) (mC (.int 1)))) mNil)))) mNil))))))
def bMn (A : Adr) : Rho → Out := mIfS (mNotT (mTru (eIsR (eTold A (mC (.ref A.f_product_row)) (mTup (mCons (mFrz (mVar 6)) (mCons (mFrz (mVar 13)) mNil))))))) (mRet (mC (.bl false))) mNext
def gt3 : D → Rho → Option Rho := gtTup 2 (gtCons (gtN 6) (gtCons (gtN 13) gtNil))
theorem gt3_eq (x y : D) (h6 : Clear c6) (h13 : Clear c13) : gt3 (.tup [x, y]) (L s c1 c2 c3 c4 c5 c6 c7 c8 c9 c10 c11 c12 c13 c14 c15) = some (L s c1 c2 c3 c4 c5 (.val x) c7 c8 c9 c10 c11 c12 (.val y) c14 c15) := by
  cases c6 with
  | own b o => exact (h6 _ _ rfl).elim
  | no => cases c13 with
    | own b o => exact (h13 _ _ rfl).elim
    | no => rfl
    | val _ => rfl
  | val _ => cases c13 with
    | own b o => exact (h13 _ _ rfl).elim
    | no => rfl
    | val _ => rfl
theorem mn_loop : ∀ (ps : List (D × D)) (c6 c13 : Cell), (∀ q ∈ ps, Td A A.f_product_row [q.1, q.2] BAD) → Clear c6 → Clear c13 → ∃ c6' c13', forL gt3 (bMn A) (ps.map fun q => D.tup [q.1, q.2]) (L s c1 c2 c3 c4 c5 c6 c7 c8 c9 c10 c11 c12 c13 c14 c15) = .nx (L s c1 c2 c3 c4 c5 c6' c7 c8 c9 c10 c11 c12 c13' c14 c15)
  | [], c6, c13, _, _, _ => ⟨c6, c13, rfl⟩
  | q :: ps, c6, c13, h, h1, h2 => by
    obtain ⟨d1, d2, e⟩ := mn_loop ps (.val q.1) (.val q.2) (fun x hx => h x (List.mem_cons_of_mem _ hx)) (fun _ _ z => by cases z) (fun _ _ z => by cases z)
    have eb : bMn A (L s c1 c2 c3 c4 c5 (.val q.1) c7 c8 c9 c10 c11 c12 (.val q.2) c14 c15) = .nx (L s c1 c2 c3 c4 c5 (.val q.1) c7 c8 c9 c10 c11 c12 (.val q.2) c14 c15) :=
      ifs_f (not_t (ev_isR (ev_told ev_c (ev_tup2 (ev_var (i := 6) (d := q.1) rfl) (ev_var (i := 13) (d := q.2) rfl)) (h q (by simp)))))
    exact ⟨d1, d2, by rw [List.map_cons, forL_cons (gt3_eq _ _ h1 h2) eb]; exact e⟩
theorem bad_plus (ok : TabOk A) {d : Nat} (hd : d ≤ 60) (p : G d) : Td A A.f_product_row [.tup [rw' p], .int ((d : Int) + 1)] BAD := by
  by_cases c : d = 60
  · subst c
    exact bad2 (tb1 ok) (row_bad (fun a z => by cases z) (fun a z => by cases z) rfl)
  · have := row_bad2 (v := .tup [rw' p]) (ds := [rw' p]) (d := d + 1) (by omega) (fun a z => by cases z) rfl (by simp) (fun x hx => by rw [List.mem_singleton.mp hx]; exact nr_G p (by omega)) (by
      show (permAt (d + 1) (rw' p) && true) = false
      unfold permAt
      rw [len_G, decide_eq_false (by omega)]
      simp)
    exact bad2 (tb1 ok) this
theorem mn_all (ok : TabOk A) {d : Nat} (hd : d ≤ 60) (p : G d) (h6 : Clear c6) (h13 : Clear c13) : ∃ c6' c13', mFor (mIt lMn) gt3 (bMn A) (L s c1 (.val (dI d)) c3 c4 c5 c6 c7 (.val (rw' p)) c9 c10 c11 c12 c13 c14 c15) = .nx (L s c1 (.val (dI d)) c3 c4 c5 c6' c7 (.val (rw' p)) c9 c10 c11 c12 c13' c14 c15) := by
  have el : lMn (L s c1 (.val (dI d)) c3 c4 c5 c6 c7 (.val (rw' p)) c9 c10 c11 c12 c13 c14 c15) = .ok (.new (.lst (([(.tup [], .int (-1)), (.tup [], .int 61), (.non, dI d), (.int 5, dI d), (.str "", dI d), (.tup [rw' p], .int ((d : Int) + 1))] : List (D × D)).map fun q => D.tup [q.1, q.2]))) (L s c1 (.val (dI d)) c3 c4 c5 c6 c7 (.val (rw' p)) c9 c10 c11 c12 c13 c14 c15) := by
    refine lst_ok ?_ (by simp)
    refine cons_ok (ev_frz (ev_tup2 ev_tup0 (ev_un (f := dNeg) (d1 := .int 1) ev_c rfl))) (cons_ok (ev_frz (ev_tup2 ev_tup0 ev_c)) (cons_ok (ev_frz (ev_tup2 ev_c (ev_var rfl))) (cons_ok (ev_frz (ev_tup2 ev_c (ev_var rfl))) (cons_ok (ev_frz (ev_tup2 ev_c (ev_var rfl))) (cons_ok (ev_frz (ev_tup2 (ev_tup1 (ev_var rfl)) (ev_addi (ev_var rfl) ev_c))) (nil_ok _))))))
  obtain ⟨d6, d13, e⟩ := mn_loop (A := A) (s := s) (c1 := c1) (c2 := .val (dI d)) (c3 := c3) (c4 := c4) (c5 := c5) (c7 := c7) (c8 := .val (rw' p)) (c9 := c9) (c10 := c10) (c11 := c11) (c12 := c12) (c14 := c14) (c15 := c15)
    [(.tup [], .int (-1)), (.tup [], .int 61), (.non, dI d), (.int 5, dI d), (.str "", dI d), (.tup [rw' p], .int ((d : Int) + 1))] c6 c13 (fun q hq => by
      simp only [List.mem_cons, List.not_mem_nil, or_false] at hq
      rcases hq with rfl | rfl | rfl | rfl | rfl | rfl
      · exact bad2 (tb1 ok) (row_bad (fun a z => by cases z) (fun a z => by cases z) rfl)
      · exact bad2 (tb1 ok) (row_bad (fun a z => by cases z) (fun a z => by cases z) rfl)
      · exact bad2 (tb1 ok) (row_bad (fun a z => by cases z) (fun a z => by cases z) rfl)
      · exact bad2 (tb1 ok) (row_bad (fun a z => by cases z) (fun a z => by cases z) rfl)
      · exact bad2 (tb1 ok) (row_bad (fun a z => by cases z) (fun a z => by cases z) rfl)
      · exact bad_plus ok hd p) h6 h13
  refine ⟨d6, d13, ?_⟩
  unfold mFor
  rw [it_new el, out_ok]
  exact e
/-! ### the first two tests, the powers, the rows -/
def tA (A : Adr) : Rho → R Bool := mOrT (mTst (mOp dNotB (mCall m_f_is_permutation 1 (mCons (mFrz (mVar 8)) mNil)) (mC (.bl true)))) (mOrT (mNotT (mTru (eIsT (eTold A (mC (.ref A.f_product_of)) (mTup (mCons (mFrz (mVar 8)) (mCons (mFrz (mVar 9)) mNil)))) (mCall m_f__law_times 2 (mCons (mFrz (mVar 8)) (mCons (mFrz (mVar 9)) mNil)))))) (mNotT (mTru (eIsT (eTold A (mC (.ref A.f_inverse_of)) (mTup (mCons (mFrz (mVar 8)) mNil))) (mCall m_f__law_back 1 (mCons (mFrz (mVar 8)) mNil))))))
theorem tA_ok (ok : TabOk A) {d : Nat} (hd : d ≤ 60) (p q : G d) {ρ : Rho} (h8 : ρ[8]? = some (.val (rw' p))) (h9 : ρ[9]? = some (.val (rw' q))) : EvT (tA A) ρ false := by
  refine evt_or2 (evt_tst (ev_op (d1 := .bl true) (d2 := .bl true) (ev_call1 (ev_var h8) (x_perm_G p (by omega))) ev_c rfl)) (evt_or2 (not_t ?_) (not_t ?_))
  · exact ev_isT (ev_told ev_c (ev_tup2 (ev_var h8) (ev_var h9)) (told2 (tb0 A) (x_prod p q (by omega)))) (ev_call2 (ev_var h8) (ev_var h9) (x_times p q (by omega))) (sm_G 2 hd _)
  · exact ev_isT (ev_told ev_c (ev_tup1 (ev_var h8)) (told1 (tb2 ok) (x_inv p (by omega)))) (ev_call1 (ev_var h8) (x_back p (by omega))) (sm_G 2 hd _)
theorem pw_loop (ok : TabOk A) {d : Nat} (hd : d ≤ 60) (p : G d) (h4 : Clear c4) (a b : Int) : ∃ (c4' : Cell) (a' b' : Int), Clear c4' ∧ mFor (mIt lPw) (gtN 4) (bPw A) (L s (stc a b) c2 c3 c4 c5 c6 c7 (.val (rw' p)) c9 c10 c11 c12 c13 c14 c15) = .nx (L s (stc a' b') c2 c3 c4' c5 c6 c7 (.val (rw' p)) c9 c10 c11 c12 c13 c14 c15) := by
  obtain ⟨ks, a', b', e⟩ := pw_list (s := s) (a := a) (b := b) (c2 := c2) (c3 := c3) (c4 := c4) (c5 := c5) (c6 := c6) (c7 := c7) (c8 := .val (rw' p)) (c9 := c9) (c10 := c10) (c11 := c11) (c12 := c12) (c13 := c13) (c14 := c14) (c15 := c15)
  obtain ⟨c, k, e2⟩ := for_same (i := 4) (b := bPw A) (ds := ks.map D.int) (ρ := L s (stc a' b') c2 c3 c4 c5 c6 c7 (.val (rw' p)) c9 c10 c11 c12 c13 c14 c15) (wr_clear (c := c4) rfl h4) (fun v hv => by
    obtain ⟨k, _, rfl⟩ := List.mem_map.mp hv
    exact bPw_ok ok hd p k rfl rfl)
  refine ⟨c, a', b', k, ?_⟩
  unfold mFor
  rw [e, out_ok]
  exact e2
def tR (A : Adr) : Rho → R Bool := mOrT (tRow A (mVar 10) (mVar 11)) (mOrT (tRow A (mCB bTuple (mCons (mVar 10) mNil)) (mVar 11)) (tRow A (mTup mNil) (mVar 3)))
theorem tR_ok (ok : TabOk A) {d : Nat} (hd : d ≤ 60) (ps : List (G d)) (hp : ps.length ≤ 100) (g1 : G d) (he : g1 = G.one d) : tR A (L s c1 (.val (dI d)) (.val (rw' g1)) c4 c5 c6 c7 c8 c9 (.own false (.lst (ps.map rw'))) (.val (rw' (ps.foldl G.mul (G.one d)))) c12 c13 c14 c15) = .ok false (L s c1 (.val (dI d)) (.val (rw' g1)) c4 c5 c6 c7 c8 c9 (.val (.lst (ps.map rw'))) (.val (rw' (ps.foldl G.mul (G.one d)))) c12 c13 c14 c15) := by
  subst he
  unfold tR
  show (mOrT _ _) _ = _
  unfold mOrT
  rw [row1 ok hd ps hp, bind_ok]
  have e2 : EvT (tRow A (mCB bTuple (mCons (mVar 10) mNil)) (mVar 11)) (L s c1 (.val (dI d)) (.val (rw' (G.one d))) c4 c5 c6 c7 c8 c9 (.val (.lst (ps.map rw'))) (.val (rw' (ps.foldl G.mul (G.one d)))) c12 c13 c14 c15) false :=
    not_t (ev_isT (ev_told ev_c (ev_tup2 (d1 := .tup (ps.map rw')) (ev_cb1 (d1 := .lst (ps.map rw')) (ev_var rfl) rfl) (ev_var (d := dI d) rfl)) (told2 (tb1 ok) (x_row hd (ps := ps) (fun a z => by cases z) rfl (by omega)))) (ev_var rfl) (sm_G 2 hd _))
  have e3 : EvT (tRow A (mTup mNil) (mVar 3)) (L s c1 (.val (dI d)) (.val (rw' (G.one d))) c4 c5 c6 c7 c8 c9 (.val (.lst (ps.map rw'))) (.val (rw' (ps.foldl G.mul (G.one d)))) c12 c13 c14 c15) false :=
    not_t (ev_isT (ev_told ev_c (ev_tup2 (d1 := .tup []) ev_tup0 (ev_var (d := dI d) rfl)) (told2 (tb1 ok) (x_row hd (ps := []) (fun a z => by cases z) rfl (by simp)))) (ev_var rfl) (sm_G 2 hd _))
  exact evt_or2 e2 e3
end
theorem callBn {f : List Cell → CR} {m : Rho → R EV} {ρ : Rho} {j : Nat} {b : Bool} {o o' o2 : Mo} {d : D} {c : Cell} (hj : ρ[j]? = some (.own b o)) (h : mFrz m ρ = .ok (.d d) ρ) (hf : f [.own true o, .val d] = .ok (.new o2) [.own true o', c]) :
    mCall f 2 (mCons (mVar j) (mCons (mFrz m) mNil)) ρ = .ok (.new o2) (ρ.set j (.own b o')) := by
  have hv : mVar j ρ = .ok (.slot j) ρ := by simp only [mVar, hj]
  simp only [mCall, mCons, hv, h, mNil, bind_ok, callR, cellsOf, Mi.cellOf, hj, Option.bind_some, slotsNd, hasSlot, Bool.not_false, List.length_cons, List.length_nil, decide_true, Bool.and_true, if_true, hf, CR.toR, wb_one hj]
theorem if_next {c : Rho → R Bool} {m : Rho → Out} {ρ ρ1 : Rho} (h : c ρ = .ok false ρ1) : mIfS c m mNext ρ = .nx ρ1 := by
  unfold mIfS
  rw [h]; rfl
theorem law_math (A : Adr) (ok : TabOk A) (ns : List Int) (hl : ns.length ≤ 63) (hb : ∀ z ∈ ns, Builtin.Int.intBits z ≤ 1048576) : m_f_law A [.val (.lst (ns.map D.int))] = .ok (.d (.bl true)) [.no] := by
  obtain ⟨a, b, s1⟩ := x_state ns
  generalize hs : (D.lst (ns.map D.int)) = s at s1
  have f1 : mSet 1 (mCall m_f__law_state 1 (mCons (mFrz (mVar 0)) mNil)) (L s .no .no .no .no .no .no .no .no .no .no .no .no .no .no .no) = .nx (L s (stc a b) .no .no .no .no .no .no .no .no .no .no .no .no .no .no) := by
    refine (set_ok (e := .new (stt a b)) (ρ1 := L s .no .no .no .no .no .no .no .no .no .no .no .no .no .no .no) ?_).trans rfl
    rw [call1 (d := s) (ρ1 := L s .no .no .no .no .no .no .no .no .no .no .no .no .no .no .no) (ev_frz (ev_var rfl)), s1]; rfl
  obtain ⟨d, a2, b2, hd, f2⟩ := law_n (s := s) (a := a) (b := b) (c3 := .no) (c4 := .no) (c5 := .no) (c6 := .no) (c7 := .no) (c8 := .no) (c9 := .no) (c10 := .no) (c11 := .no) (c12 := .no) (c13 := .no) (c14 := .no) (c15 := .no)
  obtain ⟨p, a3, b3, e3⟩ := dr1_ok (s := s) (c3 := .no) (c4 := .no) (c5 := .no) (c6 := .no) (c7 := .no) (c8 := .no) (c9 := .no) (c10 := .no) (c11 := .no) (c12 := .no) (c13 := .no) (c14 := .no) (c15 := .no) hd a2 b2
  obtain ⟨q, a4, b4, e4⟩ := dr1_ok (s := s) (c3 := .no) (c4 := .no) (c5 := .no) (c6 := .no) (c7 := .no) (c8 := .no) (c9 := .no) (c10 := .no) (c11 := .no) (c12 := .no) (c13 := .no) (c14 := .no) (c15 := .no) hd a3 b3
  have f3 : mPar 8 9 dr1 dr1 (L s (stc a2 b2) (.val (dI d)) .no .no .no .no .no .no .no .no .no .no .no .no .no) = .nx (L s (stc a4 b4) (.val (dI d)) .no .no .no .no .no (.val (rw' p)) (.val (rw' q)) .no .no .no .no .no .no) := by
    unfold mPar
    rw [e3, out_ok, e4]; rfl
  have f4 : mSet 3 (mTupRg1 (mVar 2)) (L s (stc a4 b4) (.val (dI d)) .no .no .no .no .no (.val (rw' p)) (.val (rw' q)) .no .no .no .no .no .no) = .nx (L s (stc a4 b4) (.val (dI d)) (.val (rw' (G.one d))) .no .no .no .no (.val (rw' p)) (.val (rw' q)) .no .no .no .no .no .no) := by
    have := ev_tupRg (m := mVar 2) (ρ := L s (stc a4 b4) (.val (dI d)) .no .no .no .no .no (.val (rw' p)) (.val (rw' q)) .no .no .no .no .no .no) (n := d) (ev_var rfl) (by omega)
    rw [rng_row] at this
    exact set_wr this (wr_no rfl)
  have f5 : mIfS (tA A) (mRet (mC (.bl false))) mNext (L s (stc a4 b4) (.val (dI d)) (.val (rw' (G.one d))) .no .no .no .no (.val (rw' p)) (.val (rw' q)) .no .no .no .no .no .no) = .nx (L s (stc a4 b4) (.val (dI d)) (.val (rw' (G.one d))) .no .no .no .no (.val (rw' p)) (.val (rw' q)) .no .no .no .no .no .no) := ifs_f (tA_ok ok hd p q rfl rfl)
  obtain ⟨d4, a5, b5, k4, f6⟩ := pw_loop (A := A) (s := s) (c2 := .val (dI d)) (c3 := .val (rw' (G.one d))) (c4 := .no) (c5 := .no) (c6 := .no) (c7 := .no) (c9 := .val (rw' q)) (c10 := .no) (c11 := .no) (c12 := .no) (c13 := .no) (c14 := .no) (c15 := .no) ok hd p (fun _ _ z => by cases z) a4 b4
  have f7 : mPar 10 11 (mLst mNil) (mVar 3) (L s (stc a5 b5) (.val (dI d)) (.val (rw' (G.one d))) d4 .no .no .no (.val (rw' p)) (.val (rw' q)) .no .no .no .no .no .no) = .nx (L s (stc a5 b5) (.val (dI d)) (.val (rw' (G.one d))) d4 .no .no .no (.val (rw' p)) (.val (rw' q)) (.own false (.lst [])) (.val (rw' (G.one d))) .no .no .no .no) := rfl
  obtain ⟨ps, a6, b6, d5, lp, k5, f8⟩ := rw_loop (s := s) (c3 := .val (rw' (G.one d))) (c4 := d4) (c5 := .no) (c6 := .no) (c7 := .no) (c8 := .val (rw' p)) (c9 := .val (rw' q)) (c12 := .no) (c13 := .no) (c14 := .no) (c15 := .no) hd (G.one d) rfl (fun _ _ z => by cases z) a5 b5
  have f9 := if_next (m := mRet (mC (.bl false))) (tR_ok (A := A) (s := s) (c1 := stc a6 b6) (c4 := d4) (c5 := d5) (c6 := .no) (c7 := .no) (c8 := .val (rw' p)) (c9 := .val (rw' q)) (c12 := .no) (c13 := .no) (c14 := .no) (c15 := .no) ok hd ps (by omega) (G.one d) rfl)
  obtain ⟨vs, a7, b7, ev, nv⟩ := x_near p hd a6 b6
  obtain ⟨d6, d11, d12, d14, d15, k6, k11, k12, k14, k15, e10⟩ := nr_loop (A := A) (s := s) (c1 := stc a7 b7) (c3 := .val (rw' (G.one d))) (c4 := d4) (c5 := d5) (c7 := .no) (c9 := .val (rw' q)) (c10 := .val (.lst (ps.map rw'))) (c13 := .no) ok hd p vs .no (.val (rw' (ps.foldl G.mul (G.one d)))) .no .no .no nv (fun _ _ z => by cases z) (fun _ _ z => by cases z) (fun _ _ z => by cases z) (fun _ _ z => by cases z) (fun _ _ z => by cases z)
  have f10 : mFor (mIt (mCall m_f__law_near 2 (mCons (mVar 1) (mCons (mFrz (mVar 8)) mNil)))) (gtN 6) (bNr A) (L s (stc a6 b6) (.val (dI d)) (.val (rw' (G.one d))) d4 d5 .no .no (.val (rw' p)) (.val (rw' q)) (.val (.lst (ps.map rw'))) (.val (rw' (ps.foldl G.mul (G.one d)))) .no .no .no .no) = .nx (L s (stc a7 b7) (.val (dI d)) (.val (rw' (G.one d))) d4 d5 d6 .no (.val (rw' p)) (.val (rw' q)) (.val (.lst (ps.map rw'))) d11 d12 .no d14 d15) := by
    have ec : mCall m_f__law_near 2 (mCons (mVar 1) (mCons (mFrz (mVar 8)) mNil)) (L s (stc a6 b6) (.val (dI d)) (.val (rw' (G.one d))) d4 d5 .no .no (.val (rw' p)) (.val (rw' q)) (.val (.lst (ps.map rw'))) (.val (rw' (ps.foldl G.mul (G.one d)))) .no .no .no .no) = .ok (.new (.lst vs)) (L s (stc a7 b7) (.val (dI d)) (.val (rw' (G.one d))) d4 d5 .no .no (.val (rw' p)) (.val (rw' q)) (.val (.lst (ps.map rw'))) (.val (rw' (ps.foldl G.mul (G.one d)))) .no .no .no .no) :=
      callBn (j := 1) (o := stt a6 b6) (o' := stt a7 b7) (d := rw' p) rfl (ev_frz (ev_var rfl)) ev
    unfold mFor
    rw [it_new2 ec, out_ok]
    exact e10
  obtain ⟨d7, k7, f11⟩ := bd_loop (A := A) (s := s) (c1 := stc a7 b7) (c2 := .val (dI d)) (c3 := .val (rw' (G.one d))) (c4 := d4) (c5 := d5) (c6 := d6) (c7 := .no) (c9 := .val (rw' q)) (c10 := .val (.lst (ps.map rw'))) (c11 := d11) (c12 := d12) (c13 := .no) (c14 := d14) (c15 := d15) ok hd p (fun _ _ z => by cases z)
  obtain ⟨e6, e13, f12⟩ := mn_all (A := A) (s := s) (c1 := stc a7 b7) (c3 := .val (rw' (G.one d))) (c4 := d4) (c5 := d5) (c6 := d6) (c7 := d7) (c9 := .val (rw' q)) (c10 := .val (.lst (ps.map rw'))) (c11 := d11) (c12 := d12) (c13 := .no) (c14 := d14) (c15 := d15) ok hd p k6 (fun _ _ z => by cases z)
  exact call_rt (e := .d (.bl true)) (cs := [.val s]) (ρ := L s (stc a7 b7) (.val (dI d)) (.val (rw' (G.one d))) d4 d5 e6 d7 (.val (rw' p)) (.val (rw' q)) (.val (.lst (ps.map rw'))) d11 d12 e13 d14 d15)
    ((seq_nx f1).trans ((seq_nx f2).trans ((seq_nx f3).trans ((seq_nx f4).trans ((seq_nx f5).trans ((seq_nx f6).trans ((seq_nx f7).trans ((seq_nx f8).trans ((seq_nx f9).trans ((seq_nx f10).trans ((seq_nx f11).trans ((seq_nx f12).trans (ev_ret ev_c))))))))))))) (fun i z => by cases z)
end K04
end

set_option Elab.async false
set_option linter.all false
set_option maxRecDepth 100000
set_option autoImplicit false
namespace K04
open PySem L2 Mi
def topS (i : Nat) : Stmt := PySem.Challenge.pw_branchsheets_k04_permutations_judged.main.body.getD i (.Pass ⟨0, 0, 0, 0⟩)
abbrev s_f_demand : Stmt := topS 5
theorem sc_f_demand : FnScope ["holds", "what"] ["holds", "what"] (defScope s_f_demand) := ⟨rfl, rfl, rfl, by decide +kernel, rfl, by decide +kernel, by decide +kernel⟩
theorem ok_f_demand {P : Program} {w : World} {K : PySem.W.Frag} {mg : Str → Option Value} {base : Heap} {A : Adr} {fd : FuncData} (F : Fun K "demand" "demand" s_f_demand A.f_demand fd) (bi : Binds K fd ["holds", "what"] []) (T : Tx K mg A)  : Df P w K mg base A.xc 1 A.f_demand 2 (m_f_demand) :=
  ⟨⟨fd, ["holds", "what"], rfl, fn_ok F sc_f_demand (by decide) fun cdv AA outer s H E hr =>
    (s_one (s_if (t_not (t_tru (r_var 0))) (s_one (s_raiseM rfl (takes_of rfl rfl rfl rfl) T.malC (by rfl) (a_cons (r_fs2 (by decide) (r_var 1)) a_nil))) s_nil)), bi⟩, F.kp⟩
abbrev s_f_is_integer : Stmt := topS 7
theorem sc_f_is_integer : FnScope ["value"] ["value"] (defScope s_f_is_integer) := ⟨rfl, rfl, rfl, by decide +kernel, rfl, by decide +kernel, by decide +kernel⟩
theorem ok_f_is_integer {P : Program} {w : World} {K : PySem.W.Frag} {mg : Str → Option Value} {base : Heap} {A : Adr} {fd : FuncData} (F : Fun K "is_integer" "is_integer" s_f_is_integer A.f_is_integer fd) (bi : Binds K fd ["value"] []) (T : Tx K mg A)  : Df P w K mg base A.xc 1 A.f_is_integer 1 (m_f_is_integer) :=
  ⟨⟨fd, ["value"], rfl, fn_ok F sc_f_is_integer (by decide) fun cdv AA outer s H E hr =>
    (s_one (s_ret (r_andV (r_isi .int (by rfl) T.n_isinstance (by rfl) T.n_int (r_var 0)) (r_one (r_notV (r_isi .bool (by rfl) T.n_isinstance (by rfl) T.n_bool (r_var 0))))))), bi⟩, F.kp⟩
abbrev s_f_unit_of : Stmt := topS 9
theorem sc_f_unit_of : FnScope ["d"] ["d"] (defScope s_f_unit_of) := ⟨rfl, rfl, rfl, by decide +kernel, rfl, by decide +kernel, by decide +kernel⟩
theorem ok_f_unit_of {P : Program} {w : World} {K : PySem.W.Frag} {mg : Str → Option Value} {base : Heap} {A : Adr} {fd : FuncData} (F : Fun K "unit_of" "unit_of" s_f_unit_of A.f_unit_of fd) (bi : Binds K fd ["d"] []) (T : Tx K mg A)  : Df P w K mg base A.xc 1 A.f_unit_of 1 (m_f_unit_of) :=
  ⟨⟨fd, ["d"], rfl, fn_ok F sc_f_unit_of (by decide) fun cdv AA outer s H E hr =>
    (s_one (s_ret (r_tupRg1 rfl (by rfl) T.n_tuple (by rfl) T.n_range (r_var 0)))), bi⟩, F.kp⟩
abbrev s_f_then : Stmt := topS 10
theorem sc_f_then : FnScope ["p", "q", "x"] ["p", "q"] (defScope s_f_then) := ⟨rfl, rfl, rfl, by decide +kernel, rfl, by decide +kernel, by decide +kernel⟩
theorem ok_f_then {P : Program} {w : World} {K : PySem.W.Frag} {mg : Str → Option Value} {base : Heap} {A : Adr} {fd : FuncData} (F : Fun K "then" "then" s_f_then A.f_then fd) (bi : Binds K fd ["p", "q"] []) (T : Tx K mg A)  : Df P w K mg base A.xc 1 A.f_then 2 (m_f_then) :=
  ⟨⟨fd, ["p", "q"], rfl, fn_ok F sc_f_then (by decide) fun cdv AA outer s H E hr =>
    (s_one (s_ret (r_tuple (by rfl) T.n_tuple (a_cons (r_lc (own := [("x", 2)]) (sl := [2]) rfl sc_f_then.nd (i_sq (r_var 0)) (blkOk_by (N := ["p", "q", "x"]) (sc := defScope s_f_then) (by decide +kernel)) (fun _ _ _ _ _ => g_name (i := 2) sc_f_then.nd rfl (by first | exact Or.inl rfl | exact Or.inr rfl)) (fun _ _ _ _ _ => ts_nil) (fun _ _ _ _ _ => (r_ix (r_var 1) (r_var 2))) (by decide)) a_nil)))), bi⟩, F.kp⟩
abbrev s_f_turned : Stmt := topS 11
theorem sc_f_turned : FnScope ["p", "back", "x", "y"] ["p"] (defScope s_f_turned) := ⟨rfl, rfl, rfl, by decide +kernel, rfl, by decide +kernel, by decide +kernel⟩
theorem ok_f_turned {P : Program} {w : World} {K : PySem.W.Frag} {mg : Str → Option Value} {base : Heap} {A : Adr} {fd : FuncData} (F : Fun K "turned" "turned" s_f_turned A.f_turned fd) (bi : Binds K fd ["p"] []) (T : Tx K mg A)  : Df P w K mg base A.xc 1 A.f_turned 1 (m_f_turned) :=
  ⟨⟨fd, ["p"], rfl, fn_ok F sc_f_turned (by decide) fun cdv AA outer s H E hr =>
    (s_cons (s_set (i := 1) sc_f_turned.nd rfl (by first | exact Or.inl rfl | exact Or.inr rfl) (r_rep (r_lst (a_cons (r_frz r_int) a_nil)) (r_len (by rfl) T.n_len (a_cons (r_var 0) a_nil))))
    (s_cons (s_for (passes_of rfl) rfl (i_enum (by rfl) T.n_enumerate (r_var 0)) (g_tup rfl (gs_cons (g_name (i := 2) sc_f_turned.nd rfl (by first | exact Or.inl rfl | exact Or.inr rfl)) (gs_cons (g_name (i := 3) sc_f_turned.nd rfl (by first | exact Or.inl rfl | exact Or.inr rfl)) gs_nil))) (s_one (s_store (i := 1) (by rfl) (by first | exact Or.inl rfl | exact Or.inr (Or.inl rfl)) (r_var 3) (r_var 2))))
    (s_one (s_ret (r_tuple (by rfl) T.n_tuple (a_cons (r_var 1) a_nil)))))), bi⟩, F.kp⟩
abbrev s_f_cycle_rows : Stmt := topS 12
theorem sc_f_cycle_rows : FnScope ["p", "seen", "cycles", "start", "cycle", "x"] ["p"] (defScope s_f_cycle_rows) := ⟨rfl, rfl, rfl, by decide +kernel, rfl, by decide +kernel, by decide +kernel⟩
theorem ok_f_cycle_rows {P : Program} {w : World} {K : PySem.W.Frag} {mg : Str → Option Value} {base : Heap} {A : Adr} {fd : FuncData} (F : Fun K "cycle_rows" "cycle_rows" s_f_cycle_rows A.f_cycle_rows fd) (bi : Binds K fd ["p"] []) (T : Tx K mg A)  : Df P w K mg base A.xc 1 A.f_cycle_rows 1 (m_f_cycle_rows) :=
  ⟨⟨fd, ["p"], rfl, fn_ok F sc_f_cycle_rows (by decide) fun cdv AA outer s H E hr =>
    (s_cons (s_set (i := 1) sc_f_cycle_rows.nd rfl (by first | exact Or.inl rfl | exact Or.inr rfl) (r_rep (r_lst (a_cons (r_frz r_bl) a_nil)) (r_len (by rfl) T.n_len (a_cons (r_var 0) a_nil))))
    (s_cons (s_set (i := 2) sc_f_cycle_rows.nd rfl (by first | exact Or.inl rfl | exact Or.inr rfl) (r_lst a_nil))
    (s_cons (s_for (passes_of rfl) rfl (i_rng1 (by rfl) T.n_range (r_len (by rfl) T.n_len (a_cons (r_var 0) a_nil))) (g_name (i := 3) sc_f_cycle_rows.nd rfl (by first | exact Or.inl rfl | exact Or.inr rfl)) (s_cons (s_set (i := 4) sc_f_cycle_rows.nd rfl (by first | exact Or.inl rfl | exact Or.inr rfl) (r_lst a_nil))
    (s_cons (s_set (i := 5) sc_f_cycle_rows.nd rfl (by first | exact Or.inl rfl | exact Or.inr rfl) (r_var 3))
    (s_cons (s_while (passes_of rfl) (t_not (t_tru (r_ix (r_var 1) (r_var 5)))) (s_cons (s_store (i := 1) (by rfl) (by first | exact Or.inl rfl | exact Or.inr (Or.inl rfl)) (r_var 5) r_bl)
    (s_cons (s_expr (r_app (i := 4) (by rfl) (by first | exact Or.inl rfl | exact Or.inr (Or.inl rfl)) (r_var 5)))
    (s_one (s_set (i := 5) sc_f_cycle_rows.nd rfl (by first | exact Or.inl rfl | exact Or.inr rfl) (r_ix (r_var 0) (r_var 5)))))))
    (s_one (s_if (t_tru (r_var 4)) (s_one (s_expr (r_app (i := 2) (by rfl) (by first | exact Or.inl rfl | exact Or.inr (Or.inl rfl)) (r_tuple (by rfl) T.n_tuple (a_cons (r_var 4) a_nil))))) s_nil))))))
    (s_one (s_ret (r_var 2)))))), bi⟩, F.kp⟩
abbrev s_f_is_permutation : Stmt := topS 15
theorem sc_f_is_permutation : FnScope ["value", "seen", "x"] ["value"] (defScope s_f_is_permutation) := ⟨rfl, rfl, rfl, by decide +kernel, rfl, by decide +kernel, by decide +kernel⟩
theorem ok_f_is_permutation {P : Program} {w : World} {K : PySem.W.Frag} {mg : Str → Option Value} {base : Heap} {A : Adr} {fd : FuncData} (F : Fun K "is_permutation" "is_permutation" s_f_is_permutation A.f_is_permutation fd) (bi : Binds K fd ["value"] []) (T : Tx K mg A) (D_f_is_integer : Df P w K mg base A.xc 1 A.f_is_integer 1 m_f_is_integer) : Df P w K mg base A.xc 2 A.f_is_permutation 1 (m_f_is_permutation) :=
  ⟨⟨fd, ["value"], rfl, fn_ok F sc_f_is_permutation (by decide) fun cdv AA outer s H E hr =>
    (s_cons (s_if (t_not (t_tru (r_isi .tuple (by rfl) T.n_isinstance (by rfl) T.n_tuple (r_var 0)))) (s_one (s_ret r_bl)) s_nil)
    (s_cons (s_set (i := 1) sc_f_is_permutation.nd rfl (by first | exact Or.inl rfl | exact Or.inr rfl) (r_rep (r_lst (a_cons (r_frz r_bl) a_nil)) (r_len (by rfl) T.n_len (a_cons (r_var 0) a_nil))))
    (s_cons (s_for (passes_of rfl) rfl (i_sq (r_var 0)) (g_name (i := 2) sc_f_is_permutation.nd rfl (by first | exact Or.inl rfl | exact Or.inr rfl)) (s_cons (s_if (t_w (w_or (t_not (t_tru (r_call D_f_is_integer (hr.mono (by first | decide | omega)) (by rfl) T.g_f_is_integer (takes_of rfl rfl rfl rfl) (a_cons (r_frz (r_var 2)) a_nil)))) (w_or (t_lt (r_var 2) r_int) (w_or (t_ge (r_var 2) (r_len (by rfl) T.n_len (a_cons (r_var 0) a_nil))) (w_or1 (t_tru (r_ix (r_var 1) (r_var 2)))))))) (s_one (s_ret r_bl)) s_nil)
    (s_one (s_store (i := 1) (by rfl) (by first | exact Or.inl rfl | exact Or.inr (Or.inl rfl)) (r_var 2) r_bl))))
    (s_one (s_ret r_bl))))), bi⟩, F.kp⟩
abbrev s_f__demand_one : Stmt := topS 16
theorem sc_f__demand_one : FnScope ["p"] ["p"] (defScope s_f__demand_one) := ⟨rfl, rfl, rfl, by decide +kernel, rfl, by decide +kernel, by decide +kernel⟩
theorem ok_f__demand_one {P : Program} {w : World} {K : PySem.W.Frag} {mg : Str → Option Value} {base : Heap} {A : Adr} {fd : FuncData} (F : Fun K "_demand_one" "_demand_one" s_f__demand_one A.f__demand_one fd) (bi : Binds K fd ["p"] []) (T : Tx K mg A) (D_f_is_permutation : Df P w K mg base A.xc 2 A.f_is_permutation 1 m_f_is_permutation) (D_f_demand : Df P w K mg base A.xc 1 A.f_demand 2 m_f_demand) : Df P w K mg base A.xc 3 A.f__demand_one 1 (m_f__demand_one) :=
  ⟨⟨fd, ["p"], rfl, fn_ok F sc_f__demand_one (by decide) fun cdv AA outer s H E hr =>
    (s_one (s_expr (r_call D_f_demand (hr.mono (by first | decide | omega)) (by rfl) T.g_f_demand (takes_of rfl rfl rfl rfl) (a_cons (r_frz (r_call D_f_is_permutation (hr.mono (by first | decide | omega)) (by rfl) T.g_f_is_permutation (takes_of rfl rfl rfl rfl) (a_cons (r_frz (r_var 0)) a_nil))) (a_cons (r_frz r_str) a_nil))))), bi⟩, F.kp⟩
abbrev s_f__demand_two : Stmt := topS 17
theorem sc_f__demand_two : FnScope ["p", "q"] ["p", "q"] (defScope s_f__demand_two) := ⟨rfl, rfl, rfl, by decide +kernel, rfl, by decide +kernel, by decide +kernel⟩
theorem ok_f__demand_two {P : Program} {w : World} {K : PySem.W.Frag} {mg : Str → Option Value} {base : Heap} {A : Adr} {fd : FuncData} (F : Fun K "_demand_two" "_demand_two" s_f__demand_two A.f__demand_two fd) (bi : Binds K fd ["p", "q"] []) (T : Tx K mg A) (D_f__demand_one : Df P w K mg base A.xc 3 A.f__demand_one 1 m_f__demand_one) (D_f_demand : Df P w K mg base A.xc 1 A.f_demand 2 m_f_demand) : Df P w K mg base A.xc 4 A.f__demand_two 2 (m_f__demand_two) :=
  ⟨⟨fd, ["p", "q"], rfl, fn_ok F sc_f__demand_two (by decide) fun cdv AA outer s H E hr =>
    (s_cons (s_expr (r_call D_f__demand_one (hr.mono (by first | decide | omega)) (by rfl) T.g_f__demand_one (takes_of rfl rfl rfl rfl) (a_cons (r_frz (r_var 0)) a_nil)))
    (s_cons (s_expr (r_call D_f__demand_one (hr.mono (by first | decide | omega)) (by rfl) T.g_f__demand_one (takes_of rfl rfl rfl rfl) (a_cons (r_frz (r_var 1)) a_nil)))
    (s_one (s_expr (r_call D_f_demand (hr.mono (by first | decide | omega)) (by rfl) T.g_f_demand (takes_of rfl rfl rfl rfl) (a_cons (r_frz (r_eqA hr (r_len (by rfl) T.n_len (a_cons (r_var 0) a_nil)) (r_len (by rfl) T.n_len (a_cons (r_var 1) a_nil)))) (a_cons (r_frz r_str) a_nil))))))), bi⟩, F.kp⟩
abbrev s_f__demand_row : Stmt := topS 18
theorem sc_f__demand_row : FnScope ["rows", "d"] ["rows", "d"] (defScope s_f__demand_row) := ⟨rfl, rfl, rfl, by decide +kernel, rfl, by decide +kernel, by decide +kernel⟩
theorem ok_f__demand_row {P : Program} {w : World} {K : PySem.W.Frag} {mg : Str → Option Value} {base : Heap} {A : Adr} {fd : FuncData} (F : Fun K "_demand_row" "_demand_row" s_f__demand_row A.f__demand_row fd) (bi : Binds K fd ["rows", "d"] []) (T : Tx K mg A) (D_f_demand : Df P w K mg base A.xc 1 A.f_demand 2 m_f_demand) (D_f_is_integer : Df P w K mg base A.xc 1 A.f_is_integer 1 m_f_is_integer) : Df P w K mg base A.xc 2 A.f__demand_row 2 (m_f__demand_row) :=
  ⟨⟨fd, ["rows", "d"], rfl, fn_ok F sc_f__demand_row (by decide) fun cdv AA outer s H E hr =>
    (s_cons (s_expr (r_call D_f_demand (hr.mono (by first | decide | omega)) (by rfl) T.g_f_demand (takes_of rfl rfl rfl rfl) (a_cons (r_frz (r_isTL (by rfl) T.n_isinstance (by rfl) T.n_tuple (by rfl) T.n_list (r_var 0))) (a_cons (r_frz r_str) a_nil))))
    (s_one (s_expr (r_call D_f_demand (hr.mono (by first | decide | omega)) (by rfl) T.g_f_demand (takes_of rfl rfl rfl rfl) (a_cons (r_frz (r_andV (r_call D_f_is_integer (hr.mono (by first | decide | omega)) (by rfl) T.g_f_is_integer (takes_of rfl rfl rfl rfl) (a_cons (r_frz (r_var 1)) a_nil)) (r_one (r_le_le r_int (r_var 1) (r_globI (by rfl) T.i_MOST_SHEETS))))) (a_cons (r_frz r_str) a_nil)))))), bi⟩, F.kp⟩
abbrev s_f_product_of : Stmt := topS 19
theorem sc_f_product_of : FnScope ["p", "q"] ["p", "q"] (defScope s_f_product_of) := ⟨rfl, rfl, rfl, by decide +kernel, rfl, by decide +kernel, by decide +kernel⟩
theorem ok_f_product_of {P : Program} {w : World} {K : PySem.W.Frag} {mg : Str → Option Value} {base : Heap} {A : Adr} {fd : FuncData} (F : Fun K "product_of" "product_of" s_f_product_of A.f_product_of fd) (bi : Binds K fd ["p", "q"] []) (T : Tx K mg A) (D_f__demand_two : Df P w K mg base A.xc 4 A.f__demand_two 2 m_f__demand_two) (D_f_then : Df P w K mg base A.xc 1 A.f_then 2 m_f_then) : Df P w K mg base A.xc 5 A.f_product_of 2 (m_f_product_of) :=
  ⟨⟨fd, ["p", "q"], rfl, fn_ok F sc_f_product_of (by decide) fun cdv AA outer s H E hr =>
    (s_cons (s_expr (r_call D_f__demand_two (hr.mono (by first | decide | omega)) (by rfl) T.g_f__demand_two (takes_of rfl rfl rfl rfl) (a_cons (r_frz (r_var 0)) (a_cons (r_frz (r_var 1)) a_nil))))
    (s_one (s_ret (r_call D_f_then (hr.mono (by first | decide | omega)) (by rfl) T.g_f_then (takes_of rfl rfl rfl rfl) (a_cons (r_frz (r_var 0)) (a_cons (r_frz (r_var 1)) a_nil)))))), bi⟩, F.kp⟩
abbrev s_f_inverse_of : Stmt := topS 20
theorem sc_f_inverse_of : FnScope ["p"] ["p"] (defScope s_f_inverse_of) := ⟨rfl, rfl, rfl, by decide +kernel, rfl, by decide +kernel, by decide +kernel⟩
theorem ok_f_inverse_of {P : Program} {w : World} {K : PySem.W.Frag} {mg : Str → Option Value} {base : Heap} {A : Adr} {fd : FuncData} (F : Fun K "inverse_of" "inverse_of" s_f_inverse_of A.f_inverse_of fd) (bi : Binds K fd ["p"] []) (T : Tx K mg A) (D_f__demand_one : Df P w K mg base A.xc 3 A.f__demand_one 1 m_f__demand_one) (D_f_turned : Df P w K mg base A.xc 1 A.f_turned 1 m_f_turned) : Df P w K mg base A.xc 4 A.f_inverse_of 1 (m_f_inverse_of) :=
  ⟨⟨fd, ["p"], rfl, fn_ok F sc_f_inverse_of (by decide) fun cdv AA outer s H E hr =>
    (s_cons (s_expr (r_call D_f__demand_one (hr.mono (by first | decide | omega)) (by rfl) T.g_f__demand_one (takes_of rfl rfl rfl rfl) (a_cons (r_frz (r_var 0)) a_nil)))
    (s_one (s_ret (r_call D_f_turned (hr.mono (by first | decide | omega)) (by rfl) T.g_f_turned (takes_of rfl rfl rfl rfl) (a_cons (r_frz (r_var 0)) a_nil))))), bi⟩, F.kp⟩
abbrev s_f_power_of : Stmt := topS 21
theorem sc_f_power_of : FnScope ["p", "k", "images", "cycle", "ahead", "x", "y"] ["p", "k"] (defScope s_f_power_of) := ⟨rfl, rfl, rfl, by decide +kernel, rfl, by decide +kernel, by decide +kernel⟩
theorem ok_f_power_of {P : Program} {w : World} {K : PySem.W.Frag} {mg : Str → Option Value} {base : Heap} {A : Adr} {fd : FuncData} (F : Fun K "power_of" "power_of" s_f_power_of A.f_power_of fd) (bi : Binds K fd ["p", "k"] []) (T : Tx K mg A) (D_f__demand_one : Df P w K mg base A.xc 3 A.f__demand_one 1 m_f__demand_one) (D_f_is_integer : Df P w K mg base A.xc 1 A.f_is_integer 1 m_f_is_integer) (D_f_demand : Df P w K mg base A.xc 1 A.f_demand 2 m_f_demand) (D_f_cycle_rows : Df P w K mg base A.xc 1 A.f_cycle_rows 1 m_f_cycle_rows) : Df P w K mg base A.xc 4 A.f_power_of 2 (m_f_power_of) :=
  ⟨⟨fd, ["p", "k"], rfl, fn_ok F sc_f_power_of (by decide) fun cdv AA outer s H E hr =>
    (s_cons (s_expr (r_call D_f__demand_one (hr.mono (by first | decide | omega)) (by rfl) T.g_f__demand_one (takes_of rfl rfl rfl rfl) (a_cons (r_frz (r_var 0)) a_nil)))
    (s_cons (s_expr (r_call D_f_demand (hr.mono (by first | decide | omega)) (by rfl) T.g_f_demand (takes_of rfl rfl rfl rfl) (a_cons (r_frz (r_call D_f_is_integer (hr.mono (by first | decide | omega)) (by rfl) T.g_f_is_integer (takes_of rfl rfl rfl rfl) (a_cons (r_frz (r_var 1)) a_nil))) (a_cons (r_frz r_str) a_nil))))
    (s_cons (s_set (i := 2) sc_f_power_of.nd rfl (by first | exact Or.inl rfl | exact Or.inr rfl) (r_rep (r_lst (a_cons (r_frz r_int) a_nil)) (r_len (by rfl) T.n_len (a_cons (r_var 0) a_nil))))
    (s_cons (s_for (passes_of rfl) rfl (i_sq (r_call D_f_cycle_rows (hr.mono (by first | decide | omega)) (by rfl) T.g_f_cycle_rows (takes_of rfl rfl rfl rfl) (a_cons (r_frz (r_var 0)) a_nil))) (g_name (i := 3) sc_f_power_of.nd rfl (by first | exact Or.inl rfl | exact Or.inr rfl)) (s_cons (s_set (i := 4) sc_f_power_of.nd rfl (by first | exact Or.inl rfl | exact Or.inr rfl) (r_mod (r_var 1) (r_len (by rfl) T.n_len (a_cons (r_var 3) a_nil))))
    (s_one (s_for (passes_of rfl) rfl (i_zip (by rfl) T.n_zip (r_var 3) (r_addL (r_sl (r_var 3) (o_1 (r_var 4)) o_0) (r_sl (r_var 3) o_0 (o_1 (r_var 4))))) (g_tup rfl (gs_cons (g_name (i := 5) sc_f_power_of.nd rfl (by first | exact Or.inl rfl | exact Or.inr rfl)) (gs_cons (g_name (i := 6) sc_f_power_of.nd rfl (by first | exact Or.inl rfl | exact Or.inr rfl)) gs_nil))) (s_one (s_store (i := 2) (by rfl) (by first | exact Or.inl rfl | exact Or.inr (Or.inl rfl)) (r_var 5) (r_var 6)))))))
    (s_one (s_ret (r_tuple (by rfl) T.n_tuple (a_cons (r_var 2) a_nil)))))))), bi⟩, F.kp⟩
abbrev s_f_product_row : Stmt := topS 22
theorem sc_f_product_row : FnScope ["perms", "d", "product", "p"] ["perms", "d"] (defScope s_f_product_row) := ⟨rfl, rfl, rfl, by decide +kernel, rfl, by decide +kernel, by decide +kernel⟩
theorem ok_f_product_row {P : Program} {w : World} {K : PySem.W.Frag} {mg : Str → Option Value} {base : Heap} {A : Adr} {fd : FuncData} (F : Fun K "product_row" "product_row" s_f_product_row A.f_product_row fd) (bi : Binds K fd ["perms", "d"] []) (T : Tx K mg A) (D_f__demand_row : Df P w K mg base A.xc 2 A.f__demand_row 2 m_f__demand_row) (D_f_is_permutation : Df P w K mg base A.xc 2 A.f_is_permutation 1 m_f_is_permutation) (D_f_demand : Df P w K mg base A.xc 1 A.f_demand 2 m_f_demand) (D_f_unit_of : Df P w K mg base A.xc 1 A.f_unit_of 1 m_f_unit_of) (D_f_then : Df P w K mg base A.xc 1 A.f_then 2 m_f_then) : Df P w K mg base A.xc 3 A.f_product_row 2 (m_f_product_row) :=
  ⟨⟨fd, ["perms", "d"], rfl, fn_ok F sc_f_product_row (by decide) fun cdv AA outer s H E hr =>
    (s_cons (s_expr (r_call D_f__demand_row (hr.mono (by first | decide | omega)) (by rfl) T.g_f__demand_row (takes_of rfl rfl rfl rfl) (a_cons (r_frz (r_var 0)) (a_cons (r_frz (r_var 1)) a_nil))))
    (s_cons (s_expr (r_call D_f_demand (hr.mono (by first | decide | omega)) (by rfl) T.g_f_demand (takes_of rfl rfl rfl rfl) (a_cons (r_frz (r_all rfl (by rfl) T.n_all (a_cons (r_lc (own := [("p", 3)]) (sl := [3]) rfl sc_f_product_row.nd (i_sq (r_var 0)) (blkOk_by (N := ["perms", "d", "product", "p"]) (sc := defScope s_f_product_row) (by decide +kernel)) (fun _ _ _ _ _ => g_name (i := 3) sc_f_product_row.nd rfl (by first | exact Or.inl rfl | exact Or.inr rfl)) (fun _ _ _ _ _ => ts_nil) (fun _ _ _ _ _ => (r_andV (r_call D_f_is_permutation (hr.mono (by first | decide | omega)) (by rfl) T.g_f_is_permutation takes0 (a_cons (r_frz (r_var 3)) a_nil)) (r_one (r_eqA hr (r_len (by rfl) T.n_len (a_cons (r_var 3) a_nil)) (r_var 1))))) (by decide)) a_nil))) (a_cons (r_frz r_str) a_nil))))
    (s_cons (s_set (i := 2) sc_f_product_row.nd rfl (by first | exact Or.inl rfl | exact Or.inr rfl) (r_call D_f_unit_of (hr.mono (by first | decide | omega)) (by rfl) T.g_f_unit_of (takes_of rfl rfl rfl rfl) (a_cons (r_frz (r_var 1)) a_nil)))
    (s_cons (s_for (passes_of rfl) rfl (i_sq (r_var 0)) (g_name (i := 3) sc_f_product_row.nd rfl (by first | exact Or.inl rfl | exact Or.inr rfl)) (s_one (s_set (i := 2) sc_f_product_row.nd rfl (by first | exact Or.inl rfl | exact Or.inr rfl) (r_call D_f_then (hr.mono (by first | decide | omega)) (by rfl) T.g_f_then (takes_of rfl rfl rfl rfl) (a_cons (r_frz (r_var 2)) (a_cons (r_frz (r_var 3)) a_nil))))))
    (s_one (s_ret (r_var 2))))))), bi⟩, F.kp⟩
abbrev s_f__law_state : Stmt := topS 24
theorem sc_f__law_state : FnScope ["script", "seed", "total", "cell"] ["script"] (defScope s_f__law_state) := ⟨rfl, rfl, rfl, by decide +kernel, rfl, by decide +kernel, by decide +kernel⟩
theorem ok_f__law_state {P : Program} {w : World} {K : PySem.W.Frag} {mg : Str → Option Value} {base : Heap} {A : Adr} {fd : FuncData} (F : Fun K "_law_state" "_law_state" s_f__law_state A.f__law_state fd) (bi : Binds K fd ["script"] []) (T : Tx K mg A)  : Df P w K mg base A.xc 1 A.f__law_state 1 (m_f__law_state) :=
  ⟨⟨fd, ["script"], rfl, fn_ok F sc_f__law_state (by decide) fun cdv AA outer s H E hr =>
    (s_cons (s_set (i := 1) sc_f__law_state.nd rfl (by first | exact Or.inl rfl | exact Or.inr rfl) r_int)
    (s_cons (s_set (i := 2) sc_f__law_state.nd rfl (by first | exact Or.inl rfl | exact Or.inr rfl) r_int)
    (s_cons (s_for (passes_of rfl) rfl (i_sq (r_sl (r_var 0) o_0 (o_1 r_int))) (g_name (i := 3) sc_f__law_state.nd rfl (by first | exact Or.inl rfl | exact Or.inr rfl)) (s_cons (s_set (i := 1) sc_f__law_state.nd rfl (by first | exact Or.inl rfl | exact Or.inr rfl) (r_addL (r_mul (r_var 1) r_int) (r_abs (by rfl) T.n_abs (a_cons (r_var 3) a_nil))))
    (s_one (s_set (i := 2) sc_f__law_state.nd rfl (by first | exact Or.inl rfl | exact Or.inr rfl) (r_mod (r_int_ (by rfl) T.n_int (a_cons (r_addL (r_mul (r_var 2) r_int) (r_var 3)) a_nil)) r_int)))))
    (s_one (s_ret (r_lst (a_cons (r_frz (r_var 1)) (a_cons (r_frz (r_var 2)) a_nil)))))))), bi⟩, F.kp⟩
abbrev s_f__law_take : Stmt := topS 25
theorem sc_f__law_take : FnScope ["state", "m", "value"] ["state", "m"] (defScope s_f__law_take) := ⟨rfl, rfl, rfl, by decide +kernel, rfl, by decide +kernel, by decide +kernel⟩
theorem ok_f__law_take {P : Program} {w : World} {K : PySem.W.Frag} {mg : Str → Option Value} {base : Heap} {A : Adr} {fd : FuncData} (F : Fun K "_law_take" "_law_take" s_f__law_take A.f__law_take fd) (bi : Binds K fd ["state", "m"] []) (T : Tx K mg A)  : Df P w K mg base A.xc 1 A.f__law_take 2 (m_f__law_take) :=
  ⟨⟨fd, ["state", "m"], rfl, fn_ok F sc_f__law_take (by decide) fun cdv AA outer s H E hr =>
    (s_cons (s_if (t_gt (r_ix (r_var 0) r_int) r_int) (s_cons (s_set (i := 2) sc_f__law_take.nd rfl (by first | exact Or.inl rfl | exact Or.inr rfl) (r_mod (r_int_ (by rfl) T.n_int (a_cons (r_ix (r_var 0) r_int) a_nil)) (r_var 1)))
    (s_cons (s_store (i := 0) (by rfl) (by first | exact Or.inl rfl | exact Or.inr (Or.inl rfl)) r_int (r_div (r_ix (r_var 0) r_int) (r_var 1)))
    (s_one (s_ret (r_var 2))))) s_nil)
    (s_cons (s_store (i := 0) (by rfl) (by first | exact Or.inl rfl | exact Or.inr (Or.inl rfl)) r_int (r_mod (r_int_ (by rfl) T.n_int (a_cons (r_addL (r_mul (r_ix (r_var 0) r_int) r_int) r_int) a_nil)) r_int))
    (s_one (s_ret (r_mod (r_int_ (by rfl) T.n_int (a_cons (r_div (r_ix (r_var 0) r_int) r_int) a_nil)) (r_var 1)))))), bi⟩, F.kp⟩
abbrev s_f__law_same : Stmt := topS 26
theorem sc_f__law_same : FnScope ["value", "due", "k"] ["value", "due"] (defScope s_f__law_same) := ⟨rfl, rfl, rfl, by decide +kernel, rfl, by decide +kernel, by decide +kernel⟩
theorem ok_f__law_same {P : Program} {w : World} {K : PySem.W.Frag} {mg : Str → Option Value} {base : Heap} {A : Adr} {fd : FuncData} (F : Fun K "_law_same" "_law_same" s_f__law_same A.f__law_same fd) (bi : Binds K fd ["value", "due"] []) (T : Tx K mg A)  : ∀ n : Nat, Df P w K mg base A.xc (0 + n + 1) A.f__law_same 2 (m_f__law_same n)
  | 0 => ⟨⟨fd, ["value", "due"], rfl, ⟨fun vs H Q E h => h.1, fun AA outer s H args us vs Q E hr he hb hv h => by
    obtain ⟨_, S, cs, _, _, z⟩ := h
    exact z.elim⟩, bi⟩, F.kp⟩
  | n + 1 => by
    have ih := ok_f__law_same (P := P) (w := w) (base := base) F bi T  n
    exact ⟨⟨fd, ["value", "due"], rfl, fn_ok F sc_f__law_same (by decide) fun cdv AA outer s H E hr =>
    (s_cons (s_if (t_tru (r_isi .tuple (by rfl) T.n_isinstance (by rfl) T.n_tuple (r_var 1))) (s_one (s_ret (r_andV (r_isi .tuple (by rfl) T.n_isinstance (by rfl) T.n_tuple (r_var 0)) (r_andV (r_eqA hr (r_len (by rfl) T.n_len (a_cons (r_var 0) a_nil)) (r_len (by rfl) T.n_len (a_cons (r_var 1) a_nil))) (r_one (r_all rfl (by rfl) T.n_all (a_cons (r_lc (own := [("k", 2)]) (sl := [2]) rfl sc_f__law_same.nd (i_rng1 (by rfl) T.n_range (r_len (by rfl) T.n_len (a_cons (r_var 1) a_nil))) (blkOk_by (N := ["value", "due", "k"]) (sc := defScope s_f__law_same) (by decide +kernel)) (fun _ _ _ _ _ => g_name (i := 2) sc_f__law_same.nd rfl (by first | exact Or.inl rfl | exact Or.inr rfl)) (fun _ _ _ _ _ => ts_nil) (fun _ _ _ _ _ => (r_call ih hr (by rfl) T.g_f__law_same takes0 (a_cons (r_frz (r_ix (r_var 0) (r_var 2))) (a_cons (r_frz (r_ix (r_var 1) (r_var 2))) a_nil)))) (by decide)) a_nil))))))) s_nil)
    (s_cons (s_if (t_isN (r_var 1) r_non) (s_one (s_ret (r_isN (r_var 0) r_non))) s_nil)
    (s_cons (s_if (t_tru (r_isi .bool (by rfl) T.n_isinstance (by rfl) T.n_bool (r_var 1))) (s_one (s_ret (r_andV (r_isi .bool (by rfl) T.n_isinstance (by rfl) T.n_bool (r_var 0)) (r_one (r_eqA hr (r_var 0) (r_var 1)))))) s_nil)
    (s_cons (s_if (t_tru (r_isi .str (by rfl) T.n_isinstance (by rfl) T.n_str (r_var 1))) (s_one (s_ret (r_andV (r_isi .str (by rfl) T.n_isinstance (by rfl) T.n_str (r_var 0)) (r_one (r_eqA hr (r_var 0) (r_var 1)))))) s_nil)
    (s_one (s_ret (r_andV (r_isi .int (by rfl) T.n_isinstance (by rfl) T.n_int (r_var 0)) (r_andV (r_notV (r_isi .bool (by rfl) T.n_isinstance (by rfl) T.n_bool (r_var 0))) (r_one (r_eqA hr (r_var 0) (r_var 1))))))))))), bi⟩, F.kp⟩
theorem tab_ok {P : Program} {w : World} {K : PySem.W.Frag} {mg : Str → Option Value} {base : Heap} {A : Adr} (D_f_product_of : Df P w K mg base A.xc 5 A.f_product_of 2 (m_f_product_of)) (D_f_product_row : Df P w K mg base A.xc 3 A.f_product_row 2 (m_f_product_row)) (D_f_inverse_of : Df P w K mg base A.xc 4 A.f_inverse_of 1 (m_f_inverse_of)) (D_f_power_of : Df P w K mg base A.xc 4 A.f_power_of 2 (m_f_power_of)) : ∀ a q, tabL A a = some q → Df P w K mg base A.xc 5 a q.1 q.2 := by
  intro a q h
  unfold tabL at h
  split at h
  · rename_i e; cases h; subst e; exact D_f_product_of.mono (by first | decide | omega)
  split at h
  · rename_i e; cases h; subst e; exact D_f_product_row.mono (by first | decide | omega)
  split at h
  · rename_i e; cases h; subst e; exact D_f_inverse_of.mono (by first | decide | omega)
  split at h
  · rename_i e; cases h; subst e; exact D_f_power_of.mono (by first | decide | omega)
  cases h
abbrev s_f__law_told : Stmt := topS 27
theorem sc_f__law_told : FnScope ["f", "given", "error"] ["f", "given"] (defScope s_f__law_told) := ⟨rfl, rfl, rfl, by decide +kernel, rfl, by decide +kernel, by decide +kernel⟩
theorem ok_f__law_told {P : Program} {w : World} {K : PySem.W.Frag} {mg : Str → Option Value} {base : Heap} {A : Adr} {fd : FuncData} (F : Fun K "_law_told" "_law_told" s_f__law_told A.f__law_told fd) (bi : Binds K fd ["f", "given"] []) (T : Tx K mg A)  (hT : ∀ a q, tabL A a = some q → Df P w K mg base A.xc 5 a q.1 q.2) : Df P w K mg base A.xc 6 A.f__law_told 2 (m_f__law_told A) :=
  ⟨⟨fd, ["f", "given"], rfl, fn_ok F sc_f__law_told (by decide) fun cdv AA outer s H E hr =>
    (s_one (s_tryM T.xf rfl rfl sc_f__law_told.nd ⟨by rfl, by decide, Or.inl T.g_Malformed⟩ (fun _ _ _ tkT poT => (s_cons (s_if (t_eqA hr (r_len (by rfl) T.n_len (a_cons (r_var 1) a_nil)) r_int) (s_one (s_ret (r_tup (a_cons (r_frz r_str) (a_cons (r_frz (r_callV (i := 0) hT (hr.mono (by first | decide | omega)) tkT (by rfl) (by first | exact Or.inl rfl | exact Or.inr (Or.inl rfl)) (a_cons (r_frz (r_ix (r_var 1) r_int)) a_nil))) a_nil))))) s_nil)
    (s_cons (s_if (t_eqA hr (r_len (by rfl) T.n_len (a_cons (r_var 1) a_nil)) r_int) (s_one (s_ret (r_tup (a_cons (r_frz r_str) (a_cons (r_frz (r_callV (i := 0) hT (hr.mono (by first | decide | omega)) tkT (by rfl) (by first | exact Or.inl rfl | exact Or.inr (Or.inl rfl)) (a_cons (r_frz (r_ix (r_var 1) r_int)) (a_cons (r_frz (r_ix (r_var 1) r_int)) a_nil)))) a_nil))))) s_nil)
    (s_cons (s_if (t_eqA hr (r_len (by rfl) T.n_len (a_cons (r_var 1) a_nil)) r_int) (s_one (s_ret (r_tup (a_cons (r_frz r_str) (a_cons (r_frz (r_callV (i := 0) hT (hr.mono (by first | decide | omega)) tkT (by rfl) (by first | exact Or.inl rfl | exact Or.inr (Or.inl rfl)) (a_cons (r_frz (r_ix (r_var 1) r_int)) (a_cons (r_frz (r_ix (r_var 1) r_int)) (a_cons (r_frz (r_ix (r_var 1) r_int)) a_nil))))) a_nil))))) s_nil)
    (s_one (s_ret (r_tup (a_cons (r_frz r_str) (a_cons (r_frz (r_callV (i := 0) hT (hr.mono (by first | decide | omega)) tkT (by rfl) (by first | exact Or.inl rfl | exact Or.inr (Or.inl rfl)) (a_cons (r_frz (r_ix (r_var 1) r_int)) (a_cons (r_frz (r_ix (r_var 1) r_int)) (a_cons (r_frz (r_ix (r_var 1) r_int)) (a_cons (r_frz (r_ix (r_var 1) r_int)) a_nil)))))) a_nil))))))))) (fun _ _ _ => (s_one (s_ret (r_tup (a_cons (r_frz r_str) (a_cons (r_frz r_str) a_nil)))))) (hds_never (i := 2) ⟨by rfl, by decide, Or.inl T.g_Refused⟩ rfl rfl))), bi⟩, F.kp⟩
abbrev s_f__law_is_told : Stmt := topS 28
theorem sc_f__law_is_told : FnScope ["pair", "due"] ["pair", "due"] (defScope s_f__law_is_told) := ⟨rfl, rfl, rfl, by decide +kernel, rfl, by decide +kernel, by decide +kernel⟩
theorem ok_f__law_is_told {P : Program} {w : World} {K : PySem.W.Frag} {mg : Str → Option Value} {base : Heap} {A : Adr} {fd : FuncData} (F : Fun K "_law_is_told" "_law_is_told" s_f__law_is_told A.f__law_is_told fd) (bi : Binds K fd ["pair", "due"] []) (T : Tx K mg A) (D_f__law_same : Df P w K mg base A.xc 5 A.f__law_same 2 (m_f__law_same 4)) : Df P w K mg base A.xc 6 A.f__law_is_told 2 (m_f__law_is_told) :=
  ⟨⟨fd, ["pair", "due"], rfl, fn_ok F sc_f__law_is_told (by decide) fun cdv AA outer s H E hr =>
    (s_one (s_ret (r_andV (r_eqA hr (r_ix (r_var 0) r_int) r_str) (r_one (r_call D_f__law_same (hr.mono (by first | decide | omega)) (by rfl) T.g_f__law_same (takes_of rfl rfl rfl rfl) (a_cons (r_frz (r_ix (r_var 0) r_int)) (a_cons (r_frz (r_var 1)) a_nil))))))), bi⟩, F.kp⟩
abbrev s_f__law_is_raised : Stmt := topS 29
theorem sc_f__law_is_raised : FnScope ["pair", "reason"] ["pair", "reason"] (defScope s_f__law_is_raised) := ⟨rfl, rfl, rfl, by decide +kernel, rfl, by decide +kernel, by decide +kernel⟩
theorem ok_f__law_is_raised {P : Program} {w : World} {K : PySem.W.Frag} {mg : Str → Option Value} {base : Heap} {A : Adr} {fd : FuncData} (F : Fun K "_law_is_raised" "_law_is_raised" s_f__law_is_raised A.f__law_is_raised fd) (bi : Binds K fd ["pair", "reason"] []) (T : Tx K mg A) (D_f__law_same : Df P w K mg base A.xc 5 A.f__law_same 2 (m_f__law_same 4)) : Df P w K mg base A.xc 6 A.f__law_is_raised 2 (m_f__law_is_raised) :=
  ⟨⟨fd, ["pair", "reason"], rfl, fn_ok F sc_f__law_is_raised (by decide) fun cdv AA outer s H E hr =>
    (s_one (s_ret (r_andV (r_eqA hr (r_ix (r_var 0) r_int) r_str) (r_one (r_call D_f__law_same (hr.mono (by first | decide | omega)) (by rfl) T.g_f__law_same (takes_of rfl rfl rfl rfl) (a_cons (r_frz (r_ix (r_var 0) r_int)) (a_cons (r_frz (r_var 1)) a_nil))))))), bi⟩, F.kp⟩
abbrev s_f__law_times : Stmt := topS 30
theorem sc_f__law_times : FnScope ["p", "q", "y"] ["p", "q"] (defScope s_f__law_times) := ⟨rfl, rfl, rfl, by decide +kernel, rfl, by decide +kernel, by decide +kernel⟩
theorem ok_f__law_times {P : Program} {w : World} {K : PySem.W.Frag} {mg : Str → Option Value} {base : Heap} {A : Adr} {fd : FuncData} (F : Fun K "_law_times" "_law_times" s_f__law_times A.f__law_times fd) (bi : Binds K fd ["p", "q"] []) (T : Tx K mg A)  : Df P w K mg base A.xc 1 A.f__law_times 2 (m_f__law_times) :=
  ⟨⟨fd, ["p", "q"], rfl, fn_ok F sc_f__law_times (by decide) fun cdv AA outer s H E hr =>
    (s_one (s_ret (r_tuple (by rfl) T.n_tuple (a_cons (r_lc (own := [("y", 2)]) (sl := [2]) rfl sc_f__law_times.nd (i_sq (r_var 0)) (blkOk_by (N := ["p", "q", "y"]) (sc := defScope s_f__law_times) (by decide +kernel)) (fun _ _ _ _ _ => g_name (i := 2) sc_f__law_times.nd rfl (by first | exact Or.inl rfl | exact Or.inr rfl)) (fun _ _ _ _ _ => ts_nil) (fun _ _ _ _ _ => (r_ix (r_var 1) (r_var 2))) (by decide)) a_nil)))), bi⟩, F.kp⟩
abbrev s_f__law_back : Stmt := topS 31
theorem sc_f__law_back : FnScope ["p", "found", "x"] ["p"] (defScope s_f__law_back) := ⟨rfl, rfl, rfl, by decide +kernel, rfl, by decide +kernel, by decide +kernel⟩
theorem ok_f__law_back {P : Program} {w : World} {K : PySem.W.Frag} {mg : Str → Option Value} {base : Heap} {A : Adr} {fd : FuncData} (F : Fun K "_law_back" "_law_back" s_f__law_back A.f__law_back fd) (bi : Binds K fd ["p"] []) (T : Tx K mg A)  : Df P w K mg base A.xc 1 A.f__law_back 1 (m_f__law_back) :=
  ⟨⟨fd, ["p"], rfl, fn_ok F sc_f__law_back (by decide) fun cdv AA outer s H E hr =>
    (s_cons (s_set (i := 1) sc_f__law_back.nd rfl (by first | exact Or.inl rfl | exact Or.inr rfl) (r_rep (r_lst (a_cons (r_frz r_int) a_nil)) (r_len (by rfl) T.n_len (a_cons (r_var 0) a_nil))))
    (s_cons (s_for (passes_of rfl) rfl (i_rng1 (by rfl) T.n_range (r_len (by rfl) T.n_len (a_cons (r_var 0) a_nil))) (g_name (i := 2) sc_f__law_back.nd rfl (by first | exact Or.inl rfl | exact Or.inr rfl)) (s_one (s_store (i := 1) (by rfl) (by first | exact Or.inl rfl | exact Or.inr (Or.inl rfl)) (r_ix (r_var 0) (r_var 2)) (r_var 2))))
    (s_one (s_ret (r_tuple (by rfl) T.n_tuple (a_cons (r_var 1) a_nil)))))), bi⟩, F.kp⟩
abbrev s_f__law_drawn : Stmt := topS 32
theorem sc_f__law_drawn : FnScope ["state", "d", "left", "found"] ["state", "d"] (defScope s_f__law_drawn) := ⟨rfl, rfl, rfl, by decide +kernel, rfl, by decide +kernel, by decide +kernel⟩
theorem ok_f__law_drawn {P : Program} {w : World} {K : PySem.W.Frag} {mg : Str → Option Value} {base : Heap} {A : Adr} {fd : FuncData} (F : Fun K "_law_drawn" "_law_drawn" s_f__law_drawn A.f__law_drawn fd) (bi : Binds K fd ["state", "d"] []) (T : Tx K mg A) (D_f__law_take : Df P w K mg base A.xc 1 A.f__law_take 2 m_f__law_take) : Df P w K mg base A.xc 2 A.f__law_drawn 2 (m_f__law_drawn) :=
  ⟨⟨fd, ["state", "d"], rfl, fn_ok F sc_f__law_drawn (by decide) fun cdv AA outer s H E hr =>
    (s_cons (s_par (i := 2) (j := 3) rfl sc_f__law_drawn.nd rfl rfl (by decide) rfl rfl (r_lstRg1 rfl (by rfl) T.n_list (by rfl) T.n_range (r_var 1)) (r_lst a_nil) (by rfl))
    (s_cons (s_while (passes_of rfl) (t_gt (r_len (by rfl) T.n_len (a_cons (r_var 2) a_nil)) r_int) (s_one (s_expr (r_app (i := 3) (by rfl) (by first | exact Or.inl rfl | exact Or.inr (Or.inl rfl)) (r_pop (i := 2) (by rfl) (by first | exact Or.inl rfl | exact Or.inr (Or.inl rfl)) (r_call D_f__law_take (hr.mono (by first | decide | omega)) (by rfl) T.g_f__law_take (takes_of rfl rfl rfl rfl) (a_cons (r_var 0) (a_cons (r_frz (r_len (by rfl) T.n_len (a_cons (r_var 2) a_nil))) a_nil))))))))
    (s_one (s_ret (r_tuple (by rfl) T.n_tuple (a_cons (r_var 3) a_nil)))))), bi⟩, F.kp⟩
abbrev s_f__law_cycles : Stmt := topS 33
theorem sc_f__law_cycles : FnScope ["p", "x", "met", "found", "cycle", "y"] ["p"] (defScope s_f__law_cycles) := ⟨rfl, rfl, rfl, by decide +kernel, rfl, by decide +kernel, by decide +kernel⟩
theorem ok_f__law_cycles {P : Program} {w : World} {K : PySem.W.Frag} {mg : Str → Option Value} {base : Heap} {A : Adr} {fd : FuncData} (F : Fun K "_law_cycles" "_law_cycles" s_f__law_cycles A.f__law_cycles fd) (bi : Binds K fd ["p"] []) (T : Tx K mg A)  : Df P w K mg base A.xc 1 A.f__law_cycles 1 (m_f__law_cycles) :=
  ⟨⟨fd, ["p"], rfl, fn_ok F sc_f__law_cycles (by decide) fun cdv AA outer s H E hr =>
    (s_cons (s_par (i := 2) (j := 3) rfl sc_f__law_cycles.nd rfl rfl (by decide) rfl rfl r_dnew (r_lst a_nil) (by rfl))
    (s_cons (s_for (passes_of rfl) rfl (i_rng1 (by rfl) T.n_range (r_len (by rfl) T.n_len (a_cons (r_var 0) a_nil))) (g_name (i := 1) sc_f__law_cycles.nd rfl (by first | exact Or.inl rfl | exact Or.inr rfl)) (s_cons (s_par (i := 4) (j := 5) rfl sc_f__law_cycles.nd rfl rfl (by decide) rfl rfl (r_tup a_nil) (r_var 1) (by rfl))
    (s_cons (s_while (passes_of rfl) (t_notin (hu_of hr) (by rfl) (by first | exact Or.inl rfl | exact Or.inr (Or.inl rfl)) (r_var 5)) (s_cons (s_dput (i := 2) (hu_of hr) (by rfl) (by first | exact Or.inl rfl | exact Or.inr (Or.inl rfl)) (r_var 5) r_bl)
    (s_cons (s_set (i := 4) sc_f__law_cycles.nd rfl (by first | exact Or.inl rfl | exact Or.inr rfl) (r_addL (r_var 4) (r_tup (a_cons (r_frz (r_var 5)) a_nil))))
    (s_one (s_set (i := 5) sc_f__law_cycles.nd rfl (by first | exact Or.inl rfl | exact Or.inr rfl) (r_ix (r_var 0) (r_var 5)))))))
    (s_one (s_if (t_gt (r_len (by rfl) T.n_len (a_cons (r_var 4) a_nil)) r_int) (s_one (s_expr (r_app (i := 3) (by rfl) (by first | exact Or.inl rfl | exact Or.inr (Or.inl rfl)) (r_var 4)))) s_nil)))))
    (s_one (s_ret (r_tuple (by rfl) T.n_tuple (a_cons (r_var 3) a_nil)))))), bi⟩, F.kp⟩
abbrev s_f__law_is_perm : Stmt := topS 34
theorem sc_f__law_is_perm : FnScope ["value", "x"] ["value"] (defScope s_f__law_is_perm) := ⟨rfl, rfl, rfl, by decide +kernel, rfl, by decide +kernel, by decide +kernel⟩
theorem ok_f__law_is_perm {P : Program} {w : World} {K : PySem.W.Frag} {mg : Str → Option Value} {base : Heap} {A : Adr} {fd : FuncData} (F : Fun K "_law_is_perm" "_law_is_perm" s_f__law_is_perm A.f__law_is_perm fd) (bi : Binds K fd ["value"] []) (T : Tx K mg A)  : Df P w K mg base A.xc 1 A.f__law_is_perm 1 (m_f__law_is_perm) :=
  ⟨⟨fd, ["value"], rfl, fn_ok F sc_f__law_is_perm (by decide) fun cdv AA outer s H E hr =>
    (s_cons (s_if (t_w (w_or (t_not (t_tru (r_isi .tuple (by rfl) T.n_isinstance (by rfl) T.n_tuple (r_var 0)))) (w_or1 (t_not (t_tru (r_all rfl (by rfl) T.n_all (a_cons (r_lc (own := [("x", 1)]) (sl := [1]) rfl sc_f__law_is_perm.nd (i_sq (r_var 0)) (blkOk_by (N := ["value", "x"]) (sc := defScope s_f__law_is_perm) (by decide +kernel)) (fun _ _ _ _ _ => g_name (i := 1) sc_f__law_is_perm.nd rfl (by first | exact Or.inl rfl | exact Or.inr rfl)) (fun _ _ _ _ _ => ts_nil) (fun _ _ _ _ _ => (r_andV (r_isi .int (by rfl) T.n_isinstance (by rfl) T.n_int (r_var 1)) (r_one (r_notV (r_isi .bool (by rfl) T.n_isinstance (by rfl) T.n_bool (r_var 1)))))) (by decide)) a_nil))))))) (s_one (s_ret r_bl)) s_nil)
    (s_one (s_ret (r_eqA hr (r_sortedA (by rfl) T.n_sorted (a_cons (r_var 0) a_nil)) (r_lstRg1 rfl (by rfl) T.n_list (by rfl) T.n_range (r_len (by rfl) T.n_len (a_cons (r_var 0) a_nil))))))), bi⟩, F.kp⟩
abbrev s_f__law_power : Stmt := topS 35
theorem sc_f__law_power : FnScope ["p", "k", "found", "cycle", "n"] ["p", "k"] (defScope s_f__law_power) := ⟨rfl, rfl, rfl, by decide +kernel, rfl, by decide +kernel, by decide +kernel⟩
theorem ok_f__law_power {P : Program} {w : World} {K : PySem.W.Frag} {mg : Str → Option Value} {base : Heap} {A : Adr} {fd : FuncData} (F : Fun K "_law_power" "_law_power" s_f__law_power A.f__law_power fd) (bi : Binds K fd ["p", "k"] []) (T : Tx K mg A) (D_f__law_cycles : Df P w K mg base A.xc 1 A.f__law_cycles 1 m_f__law_cycles) : Df P w K mg base A.xc 2 A.f__law_power 2 (m_f__law_power) :=
  ⟨⟨fd, ["p", "k"], rfl, fn_ok F sc_f__law_power (by decide) fun cdv AA outer s H E hr =>
    (s_cons (s_set (i := 2) sc_f__law_power.nd rfl (by first | exact Or.inl rfl | exact Or.inr rfl) (r_rep (r_lst (a_cons (r_frz r_int) a_nil)) (r_len (by rfl) T.n_len (a_cons (r_var 0) a_nil))))
    (s_cons (s_for (passes_of rfl) rfl (i_sq (r_call D_f__law_cycles (hr.mono (by first | decide | omega)) (by rfl) T.g_f__law_cycles (takes_of rfl rfl rfl rfl) (a_cons (r_frz (r_var 0)) a_nil))) (g_name (i := 3) sc_f__law_power.nd rfl (by first | exact Or.inl rfl | exact Or.inr rfl)) (s_one (s_for (passes_of rfl) rfl (i_rng1 (by rfl) T.n_range (r_len (by rfl) T.n_len (a_cons (r_var 3) a_nil))) (g_name (i := 4) sc_f__law_power.nd rfl (by first | exact Or.inl rfl | exact Or.inr rfl)) (s_one (s_store (i := 2) (by rfl) (by first | exact Or.inl rfl | exact Or.inr (Or.inl rfl)) (r_ix (r_var 3) (r_var 4)) (r_ix (r_var 3) (r_mod (r_int_ (by rfl) T.n_int (a_cons (r_addL (r_var 4) (r_var 1)) a_nil)) (r_len (by rfl) T.n_len (a_cons (r_var 3) a_nil)))))))))
    (s_one (s_ret (r_tuple (by rfl) T.n_tuple (a_cons (r_var 2) a_nil)))))), bi⟩, F.kp⟩
abbrev s_f__law_near : Stmt := topS 36
theorem sc_f__law_near : FnScope ["state", "p", "d", "found", "turn", "k"] ["state", "p"] (defScope s_f__law_near) := ⟨rfl, rfl, rfl, by decide +kernel, rfl, by decide +kernel, by decide +kernel⟩
theorem ok_f__law_near {P : Program} {w : World} {K : PySem.W.Frag} {mg : Str → Option Value} {base : Heap} {A : Adr} {fd : FuncData} (F : Fun K "_law_near" "_law_near" s_f__law_near A.f__law_near fd) (bi : Binds K fd ["state", "p"] []) (T : Tx K mg A) (D_f__law_take : Df P w K mg base A.xc 1 A.f__law_take 2 m_f__law_take) : Df P w K mg base A.xc 2 A.f__law_near 2 (m_f__law_near) :=
  ⟨⟨fd, ["state", "p"], rfl, fn_ok F sc_f__law_near (by decide) fun cdv AA outer s H E hr =>
    (s_cons (s_set (i := 2) sc_f__law_near.nd rfl (by first | exact Or.inl rfl | exact Or.inr rfl) (r_len (by rfl) T.n_len (a_cons (r_var 1) a_nil)))
    (s_cons (s_set (i := 3) sc_f__law_near.nd rfl (by first | exact Or.inl rfl | exact Or.inr rfl) (r_lst (a_cons (r_frz r_non) (a_cons (r_frz r_int) (a_cons (r_frz r_str) (a_cons (r_frz (r_lst a_nil)) (a_cons (r_frz (r_list (by rfl) T.n_list (a_cons (r_var 1) a_nil))) (a_cons (r_frz (r_addL (r_var 1) (r_tup (a_cons (r_frz (r_var 2)) a_nil)))) (a_cons (r_frz (r_addL (r_var 1) (r_tup (a_cons (r_frz (r_addL (r_var 2) r_int)) a_nil)))) (a_cons (r_frz (r_ife (t_gt (r_var 2) r_int) (r_addL (r_var 1) (r_tup (a_cons (r_frz r_int) a_nil))) (r_tup (a_cons (r_frz r_int) a_nil)))) (a_cons (r_frz (r_addL (r_sl (r_var 1) (o_1 r_int) o_0) (r_sl (r_var 1) o_0 (o_1 r_int)))) (a_cons (r_frz (r_sl (r_var 1) o_0 (o_1 (r_neg r_int)))) (a_cons (r_frz (r_tup (a_cons (r_frz r_bl) a_nil))) (a_cons (r_frz (r_tup (a_cons (r_frz r_bl) (a_cons (r_frz r_bl) a_nil)))) (a_cons (r_frz (r_tup (a_cons (r_frz r_int) (a_cons (r_frz r_bl) a_nil)))) (a_cons (r_frz (r_tup (a_cons (r_frz r_str) a_nil))) (a_cons (r_frz (r_tup (a_cons (r_frz r_non) a_nil))) (a_cons (r_frz (r_tup (a_cons (r_frz (r_tup (a_cons (r_frz r_int) a_nil))) a_nil))) (a_cons (r_frz (r_tup (a_cons (r_frz (r_neg r_int)) a_nil))) (a_cons (r_frz r_dnew) a_nil))))))))))))))))))))
    (s_cons (s_for (passes_of rfl) rfl (i_rng1 (by rfl) T.n_range r_int) (g_name (i := 4) sc_f__law_near.nd rfl (by first | exact Or.inl rfl | exact Or.inr rfl)) (s_cons (s_set (i := 5) sc_f__law_near.nd rfl (by first | exact Or.inl rfl | exact Or.inr rfl) (r_call D_f__law_take (hr.mono (by first | decide | omega)) (by rfl) T.g_f__law_take (takes_of rfl rfl rfl rfl) (a_cons (r_var 0) (a_cons (r_frz (r_addL (r_var 2) r_int)) a_nil))))
    (s_one (s_expr (r_app (i := 3) (by rfl) (by first | exact Or.inl rfl | exact Or.inr (Or.inl rfl)) (r_addL (r_addL (r_sl (r_var 1) o_0 (o_1 (r_var 5))) (r_tup (a_cons (r_frz (r_sub (r_call D_f__law_take (hr.mono (by first | decide | omega)) (by rfl) T.g_f__law_take (takes_of rfl rfl rfl rfl) (a_cons (r_var 0) (a_cons (r_frz (r_addL (r_var 2) r_int)) a_nil))) r_int)) a_nil))) (r_sl (r_var 1) (o_1 (r_addL (r_var 5) r_int)) o_0)))))))
    (s_one (s_ret (r_var 3)))))), bi⟩, F.kp⟩
abbrev s_f_law : Stmt := topS 37
theorem sc_f_law : FnScope ["script", "state", "d", "one", "k", "turn", "value", "bad", "p", "q", "row", "due", "fits", "many", "f", "given"] ["script"] (defScope s_f_law) := ⟨rfl, rfl, rfl, by decide +kernel, rfl, by decide +kernel, by decide +kernel⟩
theorem fnok_law {P : Program} {w : World} {K : PySem.W.Frag} {mg : Str → Option Value} {base : Heap} {A : Adr} {fd : FuncData} (F : Fun K "law" "law" s_f_law A.f_law fd) (T : Tx K mg A) (D_f__law_state : Df P w K mg base A.xc 1 A.f__law_state 1 m_f__law_state) (D_f__law_take : Df P w K mg base A.xc 1 A.f__law_take 2 m_f__law_take) (D_f__law_drawn : Df P w K mg base A.xc 2 A.f__law_drawn 2 m_f__law_drawn) (D_f_is_permutation : Df P w K mg base A.xc 2 A.f_is_permutation 1 m_f_is_permutation) (D_f__law_times : Df P w K mg base A.xc 1 A.f__law_times 2 m_f__law_times) (D_f__law_told : Df P w K mg base A.xc 6 A.f__law_told 2 (m_f__law_told A)) (D_f__law_is_told : Df P w K mg base A.xc 6 A.f__law_is_told 2 m_f__law_is_told) (D_f__law_back : Df P w K mg base A.xc 1 A.f__law_back 1 m_f__law_back) (D_f__law_power : Df P w K mg base A.xc 2 A.f__law_power 2 m_f__law_power) (D_f__law_near : Df P w K mg base A.xc 2 A.f__law_near 2 m_f__law_near) (D_f__law_is_perm : Df P w K mg base A.xc 1 A.f__law_is_perm 1 m_f__law_is_perm) (D_f__law_same : Df P w K mg base A.xc 5 A.f__law_same 2 (m_f__law_same 4)) (D_f__law_is_raised : Df P w K mg base A.xc 6 A.f__law_is_raised 2 m_f__law_is_raised) : FnOk P w K mg base (L2.CX P w) 7 A.f_law fd ["script"] (FSp K A.xc 1 (m_f_law A)) :=
  fn_ok F sc_f_law (by decide) fun cdv AA outer s H E hr =>
    (s_cons (s_set (i := 1) sc_f_law.nd rfl (by first | exact Or.inl rfl | exact Or.inr rfl) (r_call D_f__law_state (hr.mono (by first | decide | omega)) (by rfl) T.g_f__law_state (takes_of rfl rfl rfl rfl) (a_cons (r_frz (r_var 0)) a_nil)))
    (s_cons (s_set (i := 2) sc_f_law.nd rfl (by first | exact Or.inl rfl | exact Or.inr rfl) (r_ix (r_lst (a_cons (r_frz (r_call D_f__law_take (hr.mono (by first | decide | omega)) (by rfl) T.g_f__law_take (takes_of rfl rfl rfl rfl) (a_cons (r_var 1) (a_cons (r_frz r_int) a_nil)))) (a_cons (r_frz (r_call D_f__law_take (hr.mono (by first | decide | omega)) (by rfl) T.g_f__law_take (takes_of rfl rfl rfl rfl) (a_cons (r_var 1) (a_cons (r_frz r_int) a_nil)))) (a_cons (r_frz (r_sub r_int (r_call D_f__law_take (hr.mono (by first | decide | omega)) (by rfl) T.g_f__law_take (takes_of rfl rfl rfl rfl) (a_cons (r_var 1) (a_cons (r_frz r_int) a_nil))))) a_nil)))) (r_call D_f__law_take (hr.mono (by first | decide | omega)) (by rfl) T.g_f__law_take (takes_of rfl rfl rfl rfl) (a_cons (r_var 1) (a_cons (r_frz r_int) a_nil)))))
    (s_cons (s_par (i := 8) (j := 9) rfl sc_f_law.nd rfl rfl (by decide) rfl rfl (r_call D_f__law_drawn (hr.mono (by first | decide | omega)) (by rfl) T.g_f__law_drawn (takes_of rfl rfl rfl rfl) (a_cons (r_var 1) (a_cons (r_frz (r_var 2)) a_nil))) (r_call D_f__law_drawn (hr.mono (by first | decide | omega)) (by rfl) T.g_f__law_drawn (takes_of rfl rfl rfl rfl) (a_cons (r_var 1) (a_cons (r_frz (r_var 2)) a_nil))) (by rfl))
    (s_cons (s_set (i := 3) sc_f_law.nd rfl (by first | exact Or.inl rfl | exact Or.inr rfl) (r_tupRg1 rfl (by rfl) T.n_tuple (by rfl) T.n_range (r_var 2)))
    (s_cons (s_if (t_w (w_or (t_notB (r_call D_f_is_permutation (hr.mono (by first | decide | omega)) (by rfl) T.g_f_is_permutation (takes_of rfl rfl rfl rfl) (a_cons (r_frz (r_var 8)) a_nil)) r_bl) (w_or (t_not (t_tru (r_call D_f__law_is_told (hr.mono (by first | decide | omega)) (by rfl) T.g_f__law_is_told (takes_of rfl rfl rfl rfl) (a_cons (r_frz (r_call D_f__law_told (hr.mono (by first | decide | omega)) (by rfl) T.g_f__law_told (takes_of rfl rfl rfl rfl) (a_cons (r_frz (r_glob (by rfl) T.g_f_product_of)) (a_cons (r_frz (r_tup (a_cons (r_frz (r_var 8)) (a_cons (r_frz (r_var 9)) a_nil)))) a_nil)))) (a_cons (r_frz (r_call D_f__law_times (hr.mono (by first | decide | omega)) (by rfl) T.g_f__law_times (takes_of rfl rfl rfl rfl) (a_cons (r_frz (r_var 8)) (a_cons (r_frz (r_var 9)) a_nil)))) a_nil))))) (w_or1 (t_not (t_tru (r_call D_f__law_is_told (hr.mono (by first | decide | omega)) (by rfl) T.g_f__law_is_told (takes_of rfl rfl rfl rfl) (a_cons (r_frz (r_call D_f__law_told (hr.mono (by first | decide | omega)) (by rfl) T.g_f__law_told (takes_of rfl rfl rfl rfl) (a_cons (r_frz (r_glob (by rfl) T.g_f_inverse_of)) (a_cons (r_frz (r_tup (a_cons (r_frz (r_var 8)) a_nil))) a_nil)))) (a_cons (r_frz (r_call D_f__law_back (hr.mono (by first | decide | omega)) (by rfl) T.g_f__law_back (takes_of rfl rfl rfl rfl) (a_cons (r_frz (r_var 8)) a_nil))) a_nil))))))))) (s_one (s_ret r_bl)) s_nil)
    (s_cons (s_for (passes_of rfl) rfl (i_sq (r_lst (a_cons (r_frz r_int) (a_cons (r_frz r_int) (a_cons (r_frz (r_neg r_int)) (a_cons (r_frz r_int) (a_cons (r_frz (r_sub (r_call D_f__law_take (hr.mono (by first | decide | omega)) (by rfl) T.g_f__law_take (takes_of rfl rfl rfl rfl) (a_cons (r_var 1) (a_cons (r_frz r_int) a_nil))) r_int)) (a_cons (r_frz (r_addL (r_pow r_int r_int) r_int)) (a_cons (r_frz (r_sub (r_neg (r_pow r_int r_int)) (r_call D_f__law_take (hr.mono (by first | decide | omega)) (by rfl) T.g_f__law_take (takes_of rfl rfl rfl rfl) (a_cons (r_var 1) (a_cons (r_frz r_int) a_nil))))) a_nil))))))))) (g_name (i := 4) sc_f_law.nd rfl (by first | exact Or.inl rfl | exact Or.inr rfl)) (s_one (s_if (t_not (t_tru (r_call D_f__law_is_told (hr.mono (by first | decide | omega)) (by rfl) T.g_f__law_is_told (takes_of rfl rfl rfl rfl) (a_cons (r_frz (r_call D_f__law_told (hr.mono (by first | decide | omega)) (by rfl) T.g_f__law_told (takes_of rfl rfl rfl rfl) (a_cons (r_frz (r_glob (by rfl) T.g_f_power_of)) (a_cons (r_frz (r_tup (a_cons (r_frz (r_var 8)) (a_cons (r_frz (r_var 4)) a_nil)))) a_nil)))) (a_cons (r_frz (r_call D_f__law_power (hr.mono (by first | decide | omega)) (by rfl) T.g_f__law_power (takes_of rfl rfl rfl rfl) (a_cons (r_frz (r_var 8)) (a_cons (r_frz (r_var 4)) a_nil)))) a_nil))))) (s_one (s_ret r_bl)) s_nil)))
    (s_cons (s_par (i := 10) (j := 11) rfl sc_f_law.nd rfl rfl (by decide) rfl rfl (r_lst a_nil) (r_var 3) (by rfl))
    (s_cons (s_for (passes_of rfl) rfl (i_rng1 (by rfl) T.n_range (r_call D_f__law_take (hr.mono (by first | decide | omega)) (by rfl) T.g_f__law_take (takes_of rfl rfl rfl rfl) (a_cons (r_var 1) (a_cons (r_frz r_int) a_nil)))) (g_name (i := 5) sc_f_law.nd rfl (by first | exact Or.inl rfl | exact Or.inr rfl)) (s_cons (s_expr (r_app (i := 10) (by rfl) (by first | exact Or.inl rfl | exact Or.inr (Or.inl rfl)) (r_call D_f__law_drawn (hr.mono (by first | decide | omega)) (by rfl) T.g_f__law_drawn (takes_of rfl rfl rfl rfl) (a_cons (r_var 1) (a_cons (r_frz (r_var 2)) a_nil)))))
    (s_one (s_set (i := 11) sc_f_law.nd rfl (by first | exact Or.inl rfl | exact Or.inr rfl) (r_call D_f__law_times (hr.mono (by first | decide | omega)) (by rfl) T.g_f__law_times (takes_of rfl rfl rfl rfl) (a_cons (r_frz (r_var 11)) (a_cons (r_frz (r_ix (r_var 10) (r_neg r_int))) a_nil)))))))
    (s_cons (s_if (t_w (w_or (t_not (t_tru (r_call D_f__law_is_told (hr.mono (by first | decide | omega)) (by rfl) T.g_f__law_is_told (takes_of rfl rfl rfl rfl) (a_cons (r_frz (r_call D_f__law_told (hr.mono (by first | decide | omega)) (by rfl) T.g_f__law_told (takes_of rfl rfl rfl rfl) (a_cons (r_frz (r_glob (by rfl) T.g_f_product_row)) (a_cons (r_frz (r_tup (a_cons (r_frz (r_var 10)) (a_cons (r_frz (r_var 2)) a_nil)))) a_nil)))) (a_cons (r_frz (r_var 11)) a_nil))))) (w_or (t_not (t_tru (r_call D_f__law_is_told (hr.mono (by first | decide | omega)) (by rfl) T.g_f__law_is_told (takes_of rfl rfl rfl rfl) (a_cons (r_frz (r_call D_f__law_told (hr.mono (by first | decide | omega)) (by rfl) T.g_f__law_told (takes_of rfl rfl rfl rfl) (a_cons (r_frz (r_glob (by rfl) T.g_f_product_row)) (a_cons (r_frz (r_tup (a_cons (r_frz (r_tuple (by rfl) T.n_tuple (a_cons (r_var 10) a_nil))) (a_cons (r_frz (r_var 2)) a_nil)))) a_nil)))) (a_cons (r_frz (r_var 11)) a_nil))))) (w_or1 (t_not (t_tru (r_call D_f__law_is_told (hr.mono (by first | decide | omega)) (by rfl) T.g_f__law_is_told (takes_of rfl rfl rfl rfl) (a_cons (r_frz (r_call D_f__law_told (hr.mono (by first | decide | omega)) (by rfl) T.g_f__law_told (takes_of rfl rfl rfl rfl) (a_cons (r_frz (r_glob (by rfl) T.g_f_product_row)) (a_cons (r_frz (r_tup (a_cons (r_frz (r_tup a_nil)) (a_cons (r_frz (r_var 2)) a_nil)))) a_nil)))) (a_cons (r_frz (r_var 3)) a_nil))))))))) (s_one (s_ret r_bl)) s_nil)
    (s_cons (s_for (passes_of rfl) rfl (i_sq (r_call D_f__law_near (hr.mono (by first | decide | omega)) (by rfl) T.g_f__law_near (takes_of rfl rfl rfl rfl) (a_cons (r_var 1) (a_cons (r_frz (r_var 8)) a_nil)))) (g_name (i := 6) sc_f_law.nd rfl (by first | exact Or.inl rfl | exact Or.inr rfl)) (s_cons (s_set (i := 11) sc_f_law.nd rfl (by first | exact Or.inl rfl | exact Or.inr rfl) (r_call D_f__law_is_perm (hr.mono (by first | decide | omega)) (by rfl) T.g_f__law_is_perm (takes_of rfl rfl rfl rfl) (a_cons (r_frz (r_var 6)) a_nil)))
    (s_cons (s_if (t_not (t_tru (r_call D_f__law_same (hr.mono (by first | decide | omega)) (by rfl) T.g_f__law_same (takes_of rfl rfl rfl rfl) (a_cons (r_frz (r_call D_f_is_permutation (hr.mono (by first | decide | omega)) (by rfl) T.g_f_is_permutation (takes_of rfl rfl rfl rfl) (a_cons (r_frz (r_var 6)) a_nil))) (a_cons (r_frz (r_var 11)) a_nil))))) (s_one (s_ret r_bl)) s_nil)
    (s_cons (s_set (i := 12) sc_f_law.nd rfl (by first | exact Or.inl rfl | exact Or.inr rfl) (r_andV (r_var 11) (r_one (r_eqA hr (r_len (by rfl) T.n_len (a_cons (r_var 6) a_nil)) (r_var 2)))))
    (s_cons (s_for (passes_of rfl) rfl (i_sq (r_lst (a_cons (r_frz (r_tup (a_cons (r_frz (r_glob (by rfl) T.g_f_product_of)) (a_cons (r_frz (r_tup (a_cons (r_frz (r_var 8)) (a_cons (r_frz (r_var 6)) a_nil)))) a_nil)))) (a_cons (r_frz (r_tup (a_cons (r_frz (r_glob (by rfl) T.g_f_product_of)) (a_cons (r_frz (r_tup (a_cons (r_frz (r_var 6)) (a_cons (r_frz (r_var 8)) a_nil)))) a_nil)))) (a_cons (r_frz (r_tup (a_cons (r_frz (r_glob (by rfl) T.g_f_product_row)) (a_cons (r_frz (r_tup (a_cons (r_frz (r_lst (a_cons (r_frz (r_var 8)) (a_cons (r_frz (r_var 6)) a_nil)))) (a_cons (r_frz (r_var 2)) a_nil)))) a_nil)))) a_nil))))) (g_tup rfl (gs_cons (g_name (i := 14) sc_f_law.nd rfl (by first | exact Or.inl rfl | exact Or.inr rfl)) (gs_cons (g_name (i := 15) sc_f_law.nd rfl (by first | exact Or.inl rfl | exact Or.inr rfl)) gs_nil))) (s_one (s_if (t_w (w_or (t_neA hr (r_eqA hr (r_ix (r_call D_f__law_told (hr.mono (by first | decide | omega)) (by rfl) T.g_f__law_told (takes_of rfl rfl rfl rfl) (a_cons (r_frz (r_var 14)) (a_cons (r_frz (r_var 15)) a_nil))) r_int) r_str) (r_var 12)) (w_or1 (t_w (w_and (t_not (t_tru (r_var 12))) (w_and1 (t_not (t_tru (r_call D_f__law_is_raised (hr.mono (by first | decide | omega)) (by rfl) T.g_f__law_is_raised (takes_of rfl rfl rfl rfl) (a_cons (r_frz (r_call D_f__law_told (hr.mono (by first | decide | omega)) (by rfl) T.g_f__law_told (takes_of rfl rfl rfl rfl) (a_cons (r_frz (r_var 14)) (a_cons (r_frz (r_var 15)) a_nil)))) (a_cons (r_frz r_str) a_nil))))))))))) (s_one (s_ret r_bl)) s_nil)))
    (s_one (s_if (t_w (w_and (t_not (t_tru (r_var 11))) (w_and1 (t_w (w_or (t_not (t_tru (r_call D_f__law_is_raised (hr.mono (by first | decide | omega)) (by rfl) T.g_f__law_is_raised (takes_of rfl rfl rfl rfl) (a_cons (r_frz (r_call D_f__law_told (hr.mono (by first | decide | omega)) (by rfl) T.g_f__law_told (takes_of rfl rfl rfl rfl) (a_cons (r_frz (r_glob (by rfl) T.g_f_inverse_of)) (a_cons (r_frz (r_tup (a_cons (r_frz (r_var 6)) a_nil))) a_nil)))) (a_cons (r_frz r_str) a_nil))))) (w_or1 (t_not (t_tru (r_call D_f__law_is_raised (hr.mono (by first | decide | omega)) (by rfl) T.g_f__law_is_raised (takes_of rfl rfl rfl rfl) (a_cons (r_frz (r_call D_f__law_told (hr.mono (by first | decide | omega)) (by rfl) T.g_f__law_told (takes_of rfl rfl rfl rfl) (a_cons (r_frz (r_glob (by rfl) T.g_f_power_of)) (a_cons (r_frz (r_tup (a_cons (r_frz (r_var 6)) (a_cons (r_frz r_int) a_nil)))) a_nil)))) (a_cons (r_frz r_str) a_nil))))))))))) (s_one (s_ret r_bl)) s_nil)))))))
    (s_cons (s_for (passes_of rfl) rfl (i_sq (r_lst (a_cons (r_frz r_non) (a_cons (r_frz r_bl) (a_cons (r_frz r_str) (a_cons (r_frz (r_tup (a_cons (r_frz r_int) a_nil))) a_nil)))))) (g_name (i := 7) sc_f_law.nd rfl (by first | exact Or.inl rfl | exact Or.inr rfl)) (s_one (s_if (t_w (w_or (t_not (t_tru (r_call D_f__law_is_raised (hr.mono (by first | decide | omega)) (by rfl) T.g_f__law_is_raised (takes_of rfl rfl rfl rfl) (a_cons (r_frz (r_call D_f__law_told (hr.mono (by first | decide | omega)) (by rfl) T.g_f__law_told (takes_of rfl rfl rfl rfl) (a_cons (r_frz (r_glob (by rfl) T.g_f_power_of)) (a_cons (r_frz (r_tup (a_cons (r_frz (r_var 8)) (a_cons (r_frz (r_var 7)) a_nil)))) a_nil)))) (a_cons (r_frz r_str) a_nil))))) (w_or1 (t_not (t_tru (r_call D_f__law_is_raised (hr.mono (by first | decide | omega)) (by rfl) T.g_f__law_is_raised (takes_of rfl rfl rfl rfl) (a_cons (r_frz (r_call D_f__law_told (hr.mono (by first | decide | omega)) (by rfl) T.g_f__law_told (takes_of rfl rfl rfl rfl) (a_cons (r_frz (r_glob (by rfl) T.g_f_product_row)) (a_cons (r_frz (r_tup (a_cons (r_frz (r_tup a_nil)) (a_cons (r_frz (r_var 7)) a_nil)))) a_nil)))) (a_cons (r_frz r_str) a_nil)))))))) (s_one (s_ret r_bl)) s_nil)))
    (s_cons (s_for (passes_of rfl) rfl (i_sq (r_lst (a_cons (r_frz (r_tup (a_cons (r_frz (r_tup a_nil)) (a_cons (r_frz (r_neg r_int)) a_nil)))) (a_cons (r_frz (r_tup (a_cons (r_frz (r_tup a_nil)) (a_cons (r_frz r_int) a_nil)))) (a_cons (r_frz (r_tup (a_cons (r_frz r_non) (a_cons (r_frz (r_var 2)) a_nil)))) (a_cons (r_frz (r_tup (a_cons (r_frz r_int) (a_cons (r_frz (r_var 2)) a_nil)))) (a_cons (r_frz (r_tup (a_cons (r_frz r_str) (a_cons (r_frz (r_var 2)) a_nil)))) (a_cons (r_frz (r_tup (a_cons (r_frz (r_tup (a_cons (r_frz (r_var 8)) a_nil))) (a_cons (r_frz (r_addL (r_var 2) r_int)) a_nil)))) a_nil)))))))) (g_tup rfl (gs_cons (g_name (i := 6) sc_f_law.nd rfl (by first | exact Or.inl rfl | exact Or.inr rfl)) (gs_cons (g_name (i := 13) sc_f_law.nd rfl (by first | exact Or.inl rfl | exact Or.inr rfl)) gs_nil))) (s_one (s_if (t_not (t_tru (r_call D_f__law_is_raised (hr.mono (by first | decide | omega)) (by rfl) T.g_f__law_is_raised (takes_of rfl rfl rfl rfl) (a_cons (r_frz (r_call D_f__law_told (hr.mono (by first | decide | omega)) (by rfl) T.g_f__law_told (takes_of rfl rfl rfl rfl) (a_cons (r_frz (r_glob (by rfl) T.g_f_product_row)) (a_cons (r_frz (r_tup (a_cons (r_frz (r_var 6)) (a_cons (r_frz (r_var 13)) a_nil)))) a_nil)))) (a_cons (r_frz r_str) a_nil))))) (s_one (s_ret r_bl)) s_nil)))
    (s_one (s_ret r_bl))))))))))))))
end K04

set_option Elab.async false
set_option linter.all false
set_option maxRecDepth 100000
set_option autoImplicit false
namespace K04
open PySem L2 Mi
theorem exm_self {K : PySem.W.Frag} {C : Addr} (h1 : PySem.W.subIn K (.ref C) (.type "BaseException") = some true) (h2 : PySem.W.isClsIn K C = true)
    (h3 : PySem.W.typeIn K (.ref C) = some (.type "type")) (h4 : PySem.W.subIn K (.ref C) (.ref C) = some true) : PySem.W.exmOne K (.ref C) (.ref C) = some true := by
  have e1 : (PySem.W.subIn K (.ref C) (.type "BaseException") == some true) = true := by rw [h1] <;> rfl
  have h2' : (PySem.W.clsIn K C).isSome = true := h2
  have e2 : ((PySem.W.clsIn K C).isSome && PySem.W.typeIn K (.ref C) == some (.type "type")) = true := by rw [h2', h3] <;> rfl
  unfold PySem.W.exmOne
  rw [if_pos e1]
  show (if ((PySem.W.clsIn K C).isSome && PySem.W.typeIn K (.ref C) == some (.type "type")) = true then PySem.W.subIn K (.ref C) (.ref C) else none) = some true
  rw [if_pos e2]
  exact h4
theorem fn_ne {K : PySem.W.Frag} {a b : Addr} {o1 o2 : Value} {d1 d2 : Option Addr} {f1 f2 : FuncData} {s1 s2 : Array (Option Value)} (h1 : K.lookup a = some ⟨o1, d1, .func f1, s1⟩) (h2 : K.lookup b = some ⟨o2, d2, .func f2, s2⟩) (hn : f1.name ≠ f2.name) : a ≠ b := by
  intro e
  subst e
  rw [h1] at h2
  cases h2
  exact hn rfl
/-- the law's promise: True, for every script -/
def spLaw (K : PySem.W.Frag) : Sp := fun vs H Q _ => ∃ (a : Addr) (ns : List Int), vs = [.ref a] ∧ SqL K H a (ns.map V.int) ∧ ns.length ≤ 63 ∧ (∀ z ∈ ns, Builtin.Int.intBits z ≤ 1048576) ∧ Tabs K H ∧ ∀ H', Tabs K H' → Q (.bl true) H'
set_option maxHeartbeats 0 in
theorem all_mk {lp : PySem.W.OpenLaw} {w : World} {K : PySem.W.Frag} {h : Heap} {mg : Str → Option Value} {fa : Addr} (X : K.In h) (G : h.Ns mainGlobals mg) (hfa : mg "law" = some (.ref fa))
    {f0 : Addr} {oc0 kV0 dc0 pm0 cd0 ct0 : Value} {od0 an0 : Option Addr} {sl0 : Array (Option Value)}
    {f1 : Addr} {oc1 kV1 dc1 pm1 cd1 ct1 : Value} {od1 an1 : Option Addr} {sl1 : Array (Option Value)}
    {f2 : Addr} {oc2 kV2 dc2 pm2 cd2 ct2 : Value} {od2 an2 : Option Addr} {sl2 : Array (Option Value)}
    {f3 : Addr} {oc3 kV3 dc3 pm3 cd3 ct3 : Value} {od3 an3 : Option Addr} {sl3 : Array (Option Value)}
    {f4 : Addr} {oc4 kV4 dc4 pm4 cd4 ct4 : Value} {od4 an4 : Option Addr} {sl4 : Array (Option Value)}
    {f5 : Addr} {oc5 kV5 dc5 pm5 cd5 ct5 : Value} {od5 an5 : Option Addr} {sl5 : Array (Option Value)}
    {f6 : Addr} {oc6 kV6 dc6 pm6 cd6 ct6 : Value} {od6 an6 : Option Addr} {sl6 : Array (Option Value)}
    {f7 : Addr} {oc7 kV7 dc7 pm7 cd7 ct7 : Value} {od7 an7 : Option Addr} {sl7 : Array (Option Value)}
    {f8 : Addr} {oc8 kV8 dc8 pm8 cd8 ct8 : Value} {od8 an8 : Option Addr} {sl8 : Array (Option Value)}
    {f9 : Addr} {oc9 kV9 dc9 pm9 cd9 ct9 : Value} {od9 an9 : Option Addr} {sl9 : Array (Option Value)}
    {f10 : Addr} {oc10 kV10 dc10 pm10 cd10 ct10 : Value} {od10 an10 : Option Addr} {sl10 : Array (Option Value)}
    {f11 : Addr} {oc11 kV11 dc11 pm11 cd11 ct11 : Value} {od11 an11 : Option Addr} {sl11 : Array (Option Value)}
    {f12 : Addr} {oc12 kV12 dc12 pm12 cd12 ct12 : Value} {od12 an12 : Option Addr} {sl12 : Array (Option Value)}
    {f13 : Addr} {oc13 kV13 dc13 pm13 cd13 ct13 : Value} {od13 an13 : Option Addr} {sl13 : Array (Option Value)}
    {f14 : Addr} {oc14 kV14 dc14 pm14 cd14 ct14 : Value} {od14 an14 : Option Addr} {sl14 : Array (Option Value)}
    {f15 : Addr} {oc15 kV15 dc15 pm15 cd15 ct15 : Value} {od15 an15 : Option Addr} {sl15 : Array (Option Value)}
    {f16 : Addr} {oc16 kV16 dc16 pm16 cd16 ct16 : Value} {od16 an16 : Option Addr} {sl16 : Array (Option Value)}
    {f17 : Addr} {oc17 kV17 dc17 pm17 cd17 ct17 : Value} {od17 an17 : Option Addr} {sl17 : Array (Option Value)}
    {f18 : Addr} {oc18 kV18 dc18 pm18 cd18 ct18 : Value} {od18 an18 : Option Addr} {sl18 : Array (Option Value)}
    {f19 : Addr} {oc19 kV19 dc19 pm19 cd19 ct19 : Value} {od19 an19 : Option Addr} {sl19 : Array (Option Value)}
    {f20 : Addr} {oc20 kV20 dc20 pm20 cd20 ct20 : Value} {od20 an20 : Option Addr} {sl20 : Array (Option Value)}
    {f21 : Addr} {oc21 kV21 dc21 pm21 cd21 ct21 : Value} {od21 an21 : Option Addr} {sl21 : Array (Option Value)}
    {f22 : Addr} {oc22 kV22 dc22 pm22 cd22 ct22 : Value} {od22 an22 : Option Addr} {sl22 : Array (Option Value)}
    {f23 : Addr} {oc23 kV23 dc23 pm23 cd23 ct23 : Value} {od23 an23 : Option Addr} {sl23 : Array (Option Value)}
    {f24 : Addr} {oc24 kV24 dc24 pm24 cd24 ct24 : Value} {od24 an24 : Option Addr} {sl24 : Array (Option Value)}
    {f25 : Addr} {oc25 kV25 dc25 pm25 cd25 ct25 : Value} {od25 an25 : Option Addr} {sl25 : Array (Option Value)}
    {f26 : Addr} {oc26 kV26 dc26 pm26 cd26 ct26 : Value} {od26 an26 : Option Addr} {sl26 : Array (Option Value)}
    {f27 : Addr} {oc27 kV27 dc27 pm27 cd27 ct27 : Value} {od27 an27 : Option Addr} {sl27 : Array (Option Value)}
    {C_Fault : Addr}
    {C_Malformed : Addr}
    {C_Refused : Addr}
    {t_MOST_SHEETS : Tok}
    (a0 : PySem.W.nsIn K mainGlobals "demand" = some (some (.ref f0)))
    (l0 : K.lookup f0 = some ⟨oc0, od0, .func (PySem.W.fnOf "demand" "demand" (defArgs s_f_demand) (defBody s_f_demand) (defScope s_f_demand) .none kV0 dc0 pm0 an0 cd0 ct0), sl0⟩) (c0 : PySem.W.codeIn K cd0 "demand" = true) (k0 : PySem.W.keepIn K (.ref f0) = true)
    (a1 : PySem.W.nsIn K mainGlobals "is_integer" = some (some (.ref f1)))
    (l1 : K.lookup f1 = some ⟨oc1, od1, .func (PySem.W.fnOf "is_integer" "is_integer" (defArgs s_f_is_integer) (defBody s_f_is_integer) (defScope s_f_is_integer) .none kV1 dc1 pm1 an1 cd1 ct1), sl1⟩) (c1 : PySem.W.codeIn K cd1 "is_integer" = true) (k1 : PySem.W.keepIn K (.ref f1) = true)
    (a2 : PySem.W.nsIn K mainGlobals "unit_of" = some (some (.ref f2)))
    (l2 : K.lookup f2 = some ⟨oc2, od2, .func (PySem.W.fnOf "unit_of" "unit_of" (defArgs s_f_unit_of) (defBody s_f_unit_of) (defScope s_f_unit_of) .none kV2 dc2 pm2 an2 cd2 ct2), sl2⟩) (c2 : PySem.W.codeIn K cd2 "unit_of" = true) (k2 : PySem.W.keepIn K (.ref f2) = true)
    (a3 : PySem.W.nsIn K mainGlobals "then" = some (some (.ref f3)))
    (l3 : K.lookup f3 = some ⟨oc3, od3, .func (PySem.W.fnOf "then" "then" (defArgs s_f_then) (defBody s_f_then) (defScope s_f_then) .none kV3 dc3 pm3 an3 cd3 ct3), sl3⟩) (c3 : PySem.W.codeIn K cd3 "then" = true) (k3 : PySem.W.keepIn K (.ref f3) = true)
    (a4 : PySem.W.nsIn K mainGlobals "turned" = some (some (.ref f4)))
    (l4 : K.lookup f4 = some ⟨oc4, od4, .func (PySem.W.fnOf "turned" "turned" (defArgs s_f_turned) (defBody s_f_turned) (defScope s_f_turned) .none kV4 dc4 pm4 an4 cd4 ct4), sl4⟩) (c4 : PySem.W.codeIn K cd4 "turned" = true) (k4 : PySem.W.keepIn K (.ref f4) = true)
    (a5 : PySem.W.nsIn K mainGlobals "cycle_rows" = some (some (.ref f5)))
    (l5 : K.lookup f5 = some ⟨oc5, od5, .func (PySem.W.fnOf "cycle_rows" "cycle_rows" (defArgs s_f_cycle_rows) (defBody s_f_cycle_rows) (defScope s_f_cycle_rows) .none kV5 dc5 pm5 an5 cd5 ct5), sl5⟩) (c5 : PySem.W.codeIn K cd5 "cycle_rows" = true) (k5 : PySem.W.keepIn K (.ref f5) = true)
    (a6 : PySem.W.nsIn K mainGlobals "is_permutation" = some (some (.ref f6)))
    (l6 : K.lookup f6 = some ⟨oc6, od6, .func (PySem.W.fnOf "is_permutation" "is_permutation" (defArgs s_f_is_permutation) (defBody s_f_is_permutation) (defScope s_f_is_permutation) .none kV6 dc6 pm6 an6 cd6 ct6), sl6⟩) (c6 : PySem.W.codeIn K cd6 "is_permutation" = true) (k6 : PySem.W.keepIn K (.ref f6) = true)
    (a7 : PySem.W.nsIn K mainGlobals "_demand_one" = some (some (.ref f7)))
    (l7 : K.lookup f7 = some ⟨oc7, od7, .func (PySem.W.fnOf "_demand_one" "_demand_one" (defArgs s_f__demand_one) (defBody s_f__demand_one) (defScope s_f__demand_one) .none kV7 dc7 pm7 an7 cd7 ct7), sl7⟩) (c7 : PySem.W.codeIn K cd7 "_demand_one" = true) (k7 : PySem.W.keepIn K (.ref f7) = true)
    (a8 : PySem.W.nsIn K mainGlobals "_demand_two" = some (some (.ref f8)))
    (l8 : K.lookup f8 = some ⟨oc8, od8, .func (PySem.W.fnOf "_demand_two" "_demand_two" (defArgs s_f__demand_two) (defBody s_f__demand_two) (defScope s_f__demand_two) .none kV8 dc8 pm8 an8 cd8 ct8), sl8⟩) (c8 : PySem.W.codeIn K cd8 "_demand_two" = true) (k8 : PySem.W.keepIn K (.ref f8) = true)
    (a9 : PySem.W.nsIn K mainGlobals "_demand_row" = some (some (.ref f9)))
    (l9 : K.lookup f9 = some ⟨oc9, od9, .func (PySem.W.fnOf "_demand_row" "_demand_row" (defArgs s_f__demand_row) (defBody s_f__demand_row) (defScope s_f__demand_row) .none kV9 dc9 pm9 an9 cd9 ct9), sl9⟩) (c9 : PySem.W.codeIn K cd9 "_demand_row" = true) (k9 : PySem.W.keepIn K (.ref f9) = true)
    (a10 : PySem.W.nsIn K mainGlobals "product_of" = some (some (.ref f10)))
    (l10 : K.lookup f10 = some ⟨oc10, od10, .func (PySem.W.fnOf "product_of" "product_of" (defArgs s_f_product_of) (defBody s_f_product_of) (defScope s_f_product_of) .none kV10 dc10 pm10 an10 cd10 ct10), sl10⟩) (c10 : PySem.W.codeIn K cd10 "product_of" = true) (k10 : PySem.W.keepIn K (.ref f10) = true)
    (a11 : PySem.W.nsIn K mainGlobals "inverse_of" = some (some (.ref f11)))
    (l11 : K.lookup f11 = some ⟨oc11, od11, .func (PySem.W.fnOf "inverse_of" "inverse_of" (defArgs s_f_inverse_of) (defBody s_f_inverse_of) (defScope s_f_inverse_of) .none kV11 dc11 pm11 an11 cd11 ct11), sl11⟩) (c11 : PySem.W.codeIn K cd11 "inverse_of" = true) (k11 : PySem.W.keepIn K (.ref f11) = true)
    (a12 : PySem.W.nsIn K mainGlobals "power_of" = some (some (.ref f12)))
    (l12 : K.lookup f12 = some ⟨oc12, od12, .func (PySem.W.fnOf "power_of" "power_of" (defArgs s_f_power_of) (defBody s_f_power_of) (defScope s_f_power_of) .none kV12 dc12 pm12 an12 cd12 ct12), sl12⟩) (c12 : PySem.W.codeIn K cd12 "power_of" = true) (k12 : PySem.W.keepIn K (.ref f12) = true)
    (a13 : PySem.W.nsIn K mainGlobals "product_row" = some (some (.ref f13)))
    (l13 : K.lookup f13 = some ⟨oc13, od13, .func (PySem.W.fnOf "product_row" "product_row" (defArgs s_f_product_row) (defBody s_f_product_row) (defScope s_f_product_row) .none kV13 dc13 pm13 an13 cd13 ct13), sl13⟩) (c13 : PySem.W.codeIn K cd13 "product_row" = true) (k13 : PySem.W.keepIn K (.ref f13) = true)
    (a14 : PySem.W.nsIn K mainGlobals "_law_state" = some (some (.ref f14)))
    (l14 : K.lookup f14 = some ⟨oc14, od14, .func (PySem.W.fnOf "_law_state" "_law_state" (defArgs s_f__law_state) (defBody s_f__law_state) (defScope s_f__law_state) .none kV14 dc14 pm14 an14 cd14 ct14), sl14⟩) (c14 : PySem.W.codeIn K cd14 "_law_state" = true) (k14 : PySem.W.keepIn K (.ref f14) = true)
    (a15 : PySem.W.nsIn K mainGlobals "_law_take" = some (some (.ref f15)))
    (l15 : K.lookup f15 = some ⟨oc15, od15, .func (PySem.W.fnOf "_law_take" "_law_take" (defArgs s_f__law_take) (defBody s_f__law_take) (defScope s_f__law_take) .none kV15 dc15 pm15 an15 cd15 ct15), sl15⟩) (c15 : PySem.W.codeIn K cd15 "_law_take" = true) (k15 : PySem.W.keepIn K (.ref f15) = true)
    (a16 : PySem.W.nsIn K mainGlobals "_law_same" = some (some (.ref f16)))
    (l16 : K.lookup f16 = some ⟨oc16, od16, .func (PySem.W.fnOf "_law_same" "_law_same" (defArgs s_f__law_same) (defBody s_f__law_same) (defScope s_f__law_same) .none kV16 dc16 pm16 an16 cd16 ct16), sl16⟩) (c16 : PySem.W.codeIn K cd16 "_law_same" = true) (k16 : PySem.W.keepIn K (.ref f16) = true)
    (a17 : PySem.W.nsIn K mainGlobals "_law_told" = some (some (.ref f17)))
    (l17 : K.lookup f17 = some ⟨oc17, od17, .func (PySem.W.fnOf "_law_told" "_law_told" (defArgs s_f__law_told) (defBody s_f__law_told) (defScope s_f__law_told) .none kV17 dc17 pm17 an17 cd17 ct17), sl17⟩) (c17 : PySem.W.codeIn K cd17 "_law_told" = true) (k17 : PySem.W.keepIn K (.ref f17) = true)
    (a18 : PySem.W.nsIn K mainGlobals "_law_is_told" = some (some (.ref f18)))
    (l18 : K.lookup f18 = some ⟨oc18, od18, .func (PySem.W.fnOf "_law_is_told" "_law_is_told" (defArgs s_f__law_is_told) (defBody s_f__law_is_told) (defScope s_f__law_is_told) .none kV18 dc18 pm18 an18 cd18 ct18), sl18⟩) (c18 : PySem.W.codeIn K cd18 "_law_is_told" = true) (k18 : PySem.W.keepIn K (.ref f18) = true)
    (a19 : PySem.W.nsIn K mainGlobals "_law_is_raised" = some (some (.ref f19)))
    (l19 : K.lookup f19 = some ⟨oc19, od19, .func (PySem.W.fnOf "_law_is_raised" "_law_is_raised" (defArgs s_f__law_is_raised) (defBody s_f__law_is_raised) (defScope s_f__law_is_raised) .none kV19 dc19 pm19 an19 cd19 ct19), sl19⟩) (c19 : PySem.W.codeIn K cd19 "_law_is_raised" = true) (k19 : PySem.W.keepIn K (.ref f19) = true)
    (a20 : PySem.W.nsIn K mainGlobals "_law_times" = some (some (.ref f20)))
    (l20 : K.lookup f20 = some ⟨oc20, od20, .func (PySem.W.fnOf "_law_times" "_law_times" (defArgs s_f__law_times) (defBody s_f__law_times) (defScope s_f__law_times) .none kV20 dc20 pm20 an20 cd20 ct20), sl20⟩) (c20 : PySem.W.codeIn K cd20 "_law_times" = true) (k20 : PySem.W.keepIn K (.ref f20) = true)
    (a21 : PySem.W.nsIn K mainGlobals "_law_back" = some (some (.ref f21)))
    (l21 : K.lookup f21 = some ⟨oc21, od21, .func (PySem.W.fnOf "_law_back" "_law_back" (defArgs s_f__law_back) (defBody s_f__law_back) (defScope s_f__law_back) .none kV21 dc21 pm21 an21 cd21 ct21), sl21⟩) (c21 : PySem.W.codeIn K cd21 "_law_back" = true) (k21 : PySem.W.keepIn K (.ref f21) = true)
    (a22 : PySem.W.nsIn K mainGlobals "_law_drawn" = some (some (.ref f22)))
    (l22 : K.lookup f22 = some ⟨oc22, od22, .func (PySem.W.fnOf "_law_drawn" "_law_drawn" (defArgs s_f__law_drawn) (defBody s_f__law_drawn) (defScope s_f__law_drawn) .none kV22 dc22 pm22 an22 cd22 ct22), sl22⟩) (c22 : PySem.W.codeIn K cd22 "_law_drawn" = true) (k22 : PySem.W.keepIn K (.ref f22) = true)
    (a23 : PySem.W.nsIn K mainGlobals "_law_cycles" = some (some (.ref f23)))
    (l23 : K.lookup f23 = some ⟨oc23, od23, .func (PySem.W.fnOf "_law_cycles" "_law_cycles" (defArgs s_f__law_cycles) (defBody s_f__law_cycles) (defScope s_f__law_cycles) .none kV23 dc23 pm23 an23 cd23 ct23), sl23⟩) (c23 : PySem.W.codeIn K cd23 "_law_cycles" = true) (k23 : PySem.W.keepIn K (.ref f23) = true)
    (a24 : PySem.W.nsIn K mainGlobals "_law_is_perm" = some (some (.ref f24)))
    (l24 : K.lookup f24 = some ⟨oc24, od24, .func (PySem.W.fnOf "_law_is_perm" "_law_is_perm" (defArgs s_f__law_is_perm) (defBody s_f__law_is_perm) (defScope s_f__law_is_perm) .none kV24 dc24 pm24 an24 cd24 ct24), sl24⟩) (c24 : PySem.W.codeIn K cd24 "_law_is_perm" = true) (k24 : PySem.W.keepIn K (.ref f24) = true)
    (a25 : PySem.W.nsIn K mainGlobals "_law_power" = some (some (.ref f25)))
    (l25 : K.lookup f25 = some ⟨oc25, od25, .func (PySem.W.fnOf "_law_power" "_law_power" (defArgs s_f__law_power) (defBody s_f__law_power) (defScope s_f__law_power) .none kV25 dc25 pm25 an25 cd25 ct25), sl25⟩) (c25 : PySem.W.codeIn K cd25 "_law_power" = true) (k25 : PySem.W.keepIn K (.ref f25) = true)
    (a26 : PySem.W.nsIn K mainGlobals "_law_near" = some (some (.ref f26)))
    (l26 : K.lookup f26 = some ⟨oc26, od26, .func (PySem.W.fnOf "_law_near" "_law_near" (defArgs s_f__law_near) (defBody s_f__law_near) (defScope s_f__law_near) .none kV26 dc26 pm26 an26 cd26 ct26), sl26⟩) (c26 : PySem.W.codeIn K cd26 "_law_near" = true) (k26 : PySem.W.keepIn K (.ref f26) = true)
    (a27 : PySem.W.nsIn K mainGlobals "law" = some (some (.ref f27)))
    (l27 : K.lookup f27 = some ⟨oc27, od27, .func (PySem.W.fnOf "law" "law" (defArgs s_f_law) (defBody s_f_law) (defScope s_f_law) .none kV27 dc27 pm27 an27 cd27 ct27), sl27⟩) (c27 : PySem.W.codeIn K cd27 "law" = true) (k27 : PySem.W.keepIn K (.ref f27) = true)
    (g_Fault : PySem.W.nsIn K mainGlobals "Fault" = some (some (.ref C_Fault)))
    (g_Malformed : PySem.W.nsIn K mainGlobals "Malformed" = some (some (.ref C_Malformed)))
    (g_Refused : PySem.W.nsIn K mainGlobals "Refused" = some (some (.ref C_Refused)))
    (n_abs : PySem.W.nsIn K mainGlobals "abs" = some none)
    (n_all : PySem.W.nsIn K mainGlobals "all" = some none)
    (n_bool : PySem.W.nsIn K mainGlobals "bool" = some none)
    (n_enumerate : PySem.W.nsIn K mainGlobals "enumerate" = some none)
    (n_int : PySem.W.nsIn K mainGlobals "int" = some none)
    (n_isinstance : PySem.W.nsIn K mainGlobals "isinstance" = some none)
    (n_len : PySem.W.nsIn K mainGlobals "len" = some none)
    (n_list : PySem.W.nsIn K mainGlobals "list" = some none)
    (n_range : PySem.W.nsIn K mainGlobals "range" = some none)
    (n_sorted : PySem.W.nsIn K mainGlobals "sorted" = some none)
    (n_str : PySem.W.nsIn K mainGlobals "str" = some none)
    (n_tuple : PySem.W.nsIn K mainGlobals "tuple" = some none)
    (n_zip : PySem.W.nsIn K mainGlobals "zip" = some none)
    (i_MOST_SHEETS : PySem.W.nsIn K mainGlobals "MOST_SHEETS" = some (some (.int 60 t_MOST_SHEETS)))
    (exM : PySem.W.excIn K C_Malformed [.type "ValueError", .type "Exception", .type "BaseException", .type "object"] "ValueError.__new__" = true) (kpM : PySem.W.keepIn K (.ref C_Malformed) = true)
    (sbM : PySem.W.subIn K (.ref C_Malformed) (.type "BaseException") = some true) (tyM : PySem.W.typeIn K (.ref C_Malformed) = some (.type "type")) (icM : PySem.W.isClsIn K C_Malformed = true) (scM : PySem.W.subIn K (.ref C_Malformed) (.ref C_Malformed) = some true) :
    ∃ (fd : FuncData) (sp : Sp), (∀ (s : Shared) (v : Value), BindsTo s fd ⟨[v], []⟩ [("script", v)]) ∧
      (∀ (H : Hp) (a : Addr) (ns : List Int), ns.length ≤ 63 → (∀ z ∈ ns, Builtin.Int.intBits z ≤ 1048576) → Tabs K H → SqL K H a (ns.map V.int) → sp [.ref a] H (fun v H' => v = .bl true ∧ Tabs K H') fun _ _ _ => False) ∧
      ∀ base : Heap, K.In base → base.Ns mainGlobals mg → TabFns K mg base → FnOk lp.prog w K mg base CX0 7 fa fd ["script"] sp := by
  have e := hfa.symm.trans (PySem.W.mg_of X G a27)
  cases e
  have F0 := fun_mk (st := s_f_demand) l0 c0 k0
  have b0 := F0.binds (ps := ["holds", "what"]) fun _ _ _ _ _ _ us hl => match us, hl with | [_, _], _ => rfl
  have F1 := fun_mk (st := s_f_is_integer) l1 c1 k1
  have b1 := F1.binds (ps := ["value"]) fun _ _ _ _ _ _ us hl => match us, hl with | [_], _ => rfl
  have F2 := fun_mk (st := s_f_unit_of) l2 c2 k2
  have b2 := F2.binds (ps := ["d"]) fun _ _ _ _ _ _ us hl => match us, hl with | [_], _ => rfl
  have F3 := fun_mk (st := s_f_then) l3 c3 k3
  have b3 := F3.binds (ps := ["p", "q"]) fun _ _ _ _ _ _ us hl => match us, hl with | [_, _], _ => rfl
  have F4 := fun_mk (st := s_f_turned) l4 c4 k4
  have b4 := F4.binds (ps := ["p"]) fun _ _ _ _ _ _ us hl => match us, hl with | [_], _ => rfl
  have F5 := fun_mk (st := s_f_cycle_rows) l5 c5 k5
  have b5 := F5.binds (ps := ["p"]) fun _ _ _ _ _ _ us hl => match us, hl with | [_], _ => rfl
  have F6 := fun_mk (st := s_f_is_permutation) l6 c6 k6
  have b6 := F6.binds (ps := ["value"]) fun _ _ _ _ _ _ us hl => match us, hl with | [_], _ => rfl
  have F7 := fun_mk (st := s_f__demand_one) l7 c7 k7
  have b7 := F7.binds (ps := ["p"]) fun _ _ _ _ _ _ us hl => match us, hl with | [_], _ => rfl
  have F8 := fun_mk (st := s_f__demand_two) l8 c8 k8
  have b8 := F8.binds (ps := ["p", "q"]) fun _ _ _ _ _ _ us hl => match us, hl with | [_, _], _ => rfl
  have F9 := fun_mk (st := s_f__demand_row) l9 c9 k9
  have b9 := F9.binds (ps := ["rows", "d"]) fun _ _ _ _ _ _ us hl => match us, hl with | [_, _], _ => rfl
  have F10 := fun_mk (st := s_f_product_of) l10 c10 k10
  have b10 := F10.binds (ps := ["p", "q"]) fun _ _ _ _ _ _ us hl => match us, hl with | [_, _], _ => rfl
  have F11 := fun_mk (st := s_f_inverse_of) l11 c11 k11
  have b11 := F11.binds (ps := ["p"]) fun _ _ _ _ _ _ us hl => match us, hl with | [_], _ => rfl
  have F12 := fun_mk (st := s_f_power_of) l12 c12 k12
  have b12 := F12.binds (ps := ["p", "k"]) fun _ _ _ _ _ _ us hl => match us, hl with | [_, _], _ => rfl
  have F13 := fun_mk (st := s_f_product_row) l13 c13 k13
  have b13 := F13.binds (ps := ["perms", "d"]) fun _ _ _ _ _ _ us hl => match us, hl with | [_, _], _ => rfl
  have F14 := fun_mk (st := s_f__law_state) l14 c14 k14
  have b14 := F14.binds (ps := ["script"]) fun _ _ _ _ _ _ us hl => match us, hl with | [_], _ => rfl
  have F15 := fun_mk (st := s_f__law_take) l15 c15 k15
  have b15 := F15.binds (ps := ["state", "m"]) fun _ _ _ _ _ _ us hl => match us, hl with | [_, _], _ => rfl
  have F16 := fun_mk (st := s_f__law_same) l16 c16 k16
  have b16 := F16.binds (ps := ["value", "due"]) fun _ _ _ _ _ _ us hl => match us, hl with | [_, _], _ => rfl
  have F17 := fun_mk (st := s_f__law_told) l17 c17 k17
  have b17 := F17.binds (ps := ["f", "given"]) fun _ _ _ _ _ _ us hl => match us, hl with | [_, _], _ => rfl
  have F18 := fun_mk (st := s_f__law_is_told) l18 c18 k18
  have b18 := F18.binds (ps := ["pair", "due"]) fun _ _ _ _ _ _ us hl => match us, hl with | [_, _], _ => rfl
  have F19 := fun_mk (st := s_f__law_is_raised) l19 c19 k19
  have b19 := F19.binds (ps := ["pair", "reason"]) fun _ _ _ _ _ _ us hl => match us, hl with | [_, _], _ => rfl
  have F20 := fun_mk (st := s_f__law_times) l20 c20 k20
  have b20 := F20.binds (ps := ["p", "q"]) fun _ _ _ _ _ _ us hl => match us, hl with | [_, _], _ => rfl
  have F21 := fun_mk (st := s_f__law_back) l21 c21 k21
  have b21 := F21.binds (ps := ["p"]) fun _ _ _ _ _ _ us hl => match us, hl with | [_], _ => rfl
  have F22 := fun_mk (st := s_f__law_drawn) l22 c22 k22
  have b22 := F22.binds (ps := ["state", "d"]) fun _ _ _ _ _ _ us hl => match us, hl with | [_, _], _ => rfl
  have F23 := fun_mk (st := s_f__law_cycles) l23 c23 k23
  have b23 := F23.binds (ps := ["p"]) fun _ _ _ _ _ _ us hl => match us, hl with | [_], _ => rfl
  have F24 := fun_mk (st := s_f__law_is_perm) l24 c24 k24
  have b24 := F24.binds (ps := ["value"]) fun _ _ _ _ _ _ us hl => match us, hl with | [_], _ => rfl
  have F25 := fun_mk (st := s_f__law_power) l25 c25 k25
  have b25 := F25.binds (ps := ["p", "k"]) fun _ _ _ _ _ _ us hl => match us, hl with | [_, _], _ => rfl
  have F26 := fun_mk (st := s_f__law_near) l26 c26 k26
  have b26 := F26.binds (ps := ["state", "p"]) fun _ _ _ _ _ _ us hl => match us, hl with | [_, _], _ => rfl
  have F27 := fun_mk (st := s_f_law) l27 c27 k27
  have b27 := F27.binds (ps := ["script"]) fun _ _ _ _ _ _ us hl => match us, hl with | [_], _ => rfl
  let A : Adr := ⟨f0, f1, f2, f3, f4, f5, f6, f7, f8, f9, f10, f11, f12, f13, f14, f15, f16, f17, f18, f19, f20, f21, f22, f23, f24, f25, f26, fa, C_Fault, C_Malformed, C_Refused⟩
  have T : Tx K mg A := ⟨PySem.W.mg_of X G a0, PySem.W.mg_of X G a1, PySem.W.mg_of X G a2, PySem.W.mg_of X G a3, PySem.W.mg_of X G a4, PySem.W.mg_of X G a5, PySem.W.mg_of X G a6, PySem.W.mg_of X G a7, PySem.W.mg_of X G a8, PySem.W.mg_of X G a9, PySem.W.mg_of X G a10, PySem.W.mg_of X G a11, PySem.W.mg_of X G a12, PySem.W.mg_of X G a13, PySem.W.mg_of X G a14, PySem.W.mg_of X G a15, PySem.W.mg_of X G a16, PySem.W.mg_of X G a17, PySem.W.mg_of X G a18, PySem.W.mg_of X G a19, PySem.W.mg_of X G a20, PySem.W.mg_of X G a21, PySem.W.mg_of X G a22, PySem.W.mg_of X G a23, PySem.W.mg_of X G a24, PySem.W.mg_of X G a25, PySem.W.mg_of X G a26, PySem.W.mg_of X G a27, PySem.W.mg_of X G g_Fault, PySem.W.mg_of X G g_Malformed, PySem.W.mg_of X G g_Refused, PySem.W.mg_none_of X G n_abs, PySem.W.mg_none_of X G n_all, PySem.W.mg_none_of X G n_bool, PySem.W.mg_none_of X G n_enumerate, PySem.W.mg_none_of X G n_int, PySem.W.mg_none_of X G n_isinstance, PySem.W.mg_none_of X G n_len, PySem.W.mg_none_of X G n_list, PySem.W.mg_none_of X G n_range, PySem.W.mg_none_of X G n_sorted, PySem.W.mg_none_of X G n_str, PySem.W.mg_none_of X G n_tuple, PySem.W.mg_none_of X G n_zip, ⟨_, PySem.W.mg_of X G i_MOST_SHEETS⟩, exM, kpM, sbM, tyM, exm_self sbM icM tyM scM⟩
  refine ⟨PySem.W.fnOf "law" "law" (defArgs s_f_law) (defBody s_f_law) (defScope s_f_law) .none kV27 dc27 pm27 an27 cd27 ct27, spLaw K, fun s v => .of_eq rfl, fun H a ns h1 h2 h3 h4 => ⟨a, ns, rfl, h4, h1, h2, h3, fun _ t => ⟨rfl, t⟩⟩, fun base kb gb TF => ?_⟩
  have D0 := ok_f_demand (P := lp.prog) (w := w) (base := base) (A := A) F0 b0 T 
  have D1 := ok_f_is_integer (P := lp.prog) (w := w) (base := base) (A := A) F1 b1 T 
  have D2 := ok_f_unit_of (P := lp.prog) (w := w) (base := base) (A := A) F2 b2 T 
  have D3 := ok_f_then (P := lp.prog) (w := w) (base := base) (A := A) F3 b3 T 
  have D4 := ok_f_turned (P := lp.prog) (w := w) (base := base) (A := A) F4 b4 T 
  have D5 := ok_f_cycle_rows (P := lp.prog) (w := w) (base := base) (A := A) F5 b5 T 
  have D6 := ok_f_is_permutation (P := lp.prog) (w := w) (base := base) (A := A) F6 b6 T D1
  have D7 := ok_f__demand_one (P := lp.prog) (w := w) (base := base) (A := A) F7 b7 T D6 D0
  have D8 := ok_f__demand_two (P := lp.prog) (w := w) (base := base) (A := A) F8 b8 T D7 D0
  have D9 := ok_f__demand_row (P := lp.prog) (w := w) (base := base) (A := A) F9 b9 T D0 D1
  have D10 := ok_f_product_of (P := lp.prog) (w := w) (base := base) (A := A) F10 b10 T D8 D3
  have D11 := ok_f_inverse_of (P := lp.prog) (w := w) (base := base) (A := A) F11 b11 T D7 D4
  have D12 := ok_f_power_of (P := lp.prog) (w := w) (base := base) (A := A) F12 b12 T D7 D1 D0 D5
  have D13 := ok_f_product_row (P := lp.prog) (w := w) (base := base) (A := A) F13 b13 T D9 D6 D0 D2 D3
  have D14 := ok_f__law_state (P := lp.prog) (w := w) (base := base) (A := A) F14 b14 T 
  have D15 := ok_f__law_take (P := lp.prog) (w := w) (base := base) (A := A) F15 b15 T 
  have D16 := (ok_f__law_same (P := lp.prog) (w := w) (base := base) (A := A) F16 b16 T  4)
  have hT := tab_ok (P := lp.prog) (w := w) (base := base) D10 D13 D11 D12
  have D17 := ok_f__law_told (P := lp.prog) (w := w) (base := base) (A := A) F17 b17 T  hT
  have D18 := ok_f__law_is_told (P := lp.prog) (w := w) (base := base) (A := A) F18 b18 T D16
  have D19 := ok_f__law_is_raised (P := lp.prog) (w := w) (base := base) (A := A) F19 b19 T D16
  have D20 := ok_f__law_times (P := lp.prog) (w := w) (base := base) (A := A) F20 b20 T 
  have D21 := ok_f__law_back (P := lp.prog) (w := w) (base := base) (A := A) F21 b21 T 
  have D22 := ok_f__law_drawn (P := lp.prog) (w := w) (base := base) (A := A) F22 b22 T D15
  have D23 := ok_f__law_cycles (P := lp.prog) (w := w) (base := base) (A := A) F23 b23 T 
  have D24 := ok_f__law_is_perm (P := lp.prog) (w := w) (base := base) (A := A) F24 b24 T 
  have D25 := ok_f__law_power (P := lp.prog) (w := w) (base := base) (A := A) F25 b25 T D23
  have D26 := ok_f__law_near (P := lp.prog) (w := w) (base := base) (A := A) F26 b26 T D15
  have ne_1_0 : A.f_product_row ≠ A.f_product_of := fn_ne l13 l10 (show ("product_row" : Str) ≠ ("product_of" : Str) by decide)
  have ne_2_0 : A.f_inverse_of ≠ A.f_product_of := fn_ne l11 l10 (show ("inverse_of" : Str) ≠ ("product_of" : Str) by decide)
  have ne_2_1 : A.f_inverse_of ≠ A.f_product_row := fn_ne l11 l13 (show ("inverse_of" : Str) ≠ ("product_row" : Str) by decide)
  have ne_3_0 : A.f_power_of ≠ A.f_product_of := fn_ne l12 l10 (show ("power_of" : Str) ≠ ("product_of" : Str) by decide)
  have ne_3_1 : A.f_power_of ≠ A.f_product_row := fn_ne l12 l13 (show ("power_of" : Str) ≠ ("product_row" : Str) by decide)
  have ne_3_2 : A.f_power_of ≠ A.f_inverse_of := fn_ne l12 l11 (show ("power_of" : Str) ≠ ("inverse_of" : Str) by decide)
  refine fn_cx0 (fnok_law (P := lp.prog) (w := w) (base := base) (A := A) F27 T D14 D15 D22 D6 D20 D17 D18 D21 D25 D26 D24 D16 D19) ?_
  rintro vs H Q E ⟨a, ns, rfl, hS, hl, hb, hT, q⟩
  exact law_true (law_math A ⟨ne_1_0, ne_2_0, ne_2_1, ne_3_0, ne_3_1, ne_3_2⟩ ns hl hb) hT hS q

end K04
open PySem PySem.W PyProof.Rows
set_option maxHeartbeats 0 in
theorem PySem.Challenge.cw_branchsheets_k04_permutations_judged_holds : PySem.Challenge.rw_branchsheets_k04_permutations_judged.Holds := by
  w_on; o_law; k_head; (case hw => w_witness2)
  k_fill
  refine Mi.walk_ofM (l := PySem.Challenge.rw_branchsheets_k04_permutations_judged) (n := 63) (k := 7) (x := "script") (CX := fun _ => L2.CX0) rfl (by decide) rfl ⟨rfl, by decide, by decide⟩ (fun w h Y => PySem.W.kIn_of Y) (fun p => by first | rfl | decide +kernel) ?F (fun _ _ _ _ _ h => h)
  case F =>
    intro w mg fa h KX G hmg
    refine' K04.all_mk KX G hmg ?a0 ?l0 ?c0 ?k0 ?a1 ?l1 ?c1 ?k1 ?a2 ?l2 ?c2 ?k2 ?a3 ?l3 ?c3 ?k3 ?a4 ?l4 ?c4 ?k4 ?a5 ?l5 ?c5 ?k5 ?a6 ?l6 ?c6 ?k6 ?a7 ?l7 ?c7 ?k7 ?a8 ?l8 ?c8 ?k8 ?a9 ?l9 ?c9 ?k9 ?a10 ?l10 ?c10 ?k10 ?a11 ?l11 ?c11 ?k11 ?a12 ?l12 ?c12 ?k12 ?a13 ?l13 ?c13 ?k13 ?a14 ?l14 ?c14 ?k14 ?a15 ?l15 ?c15 ?k15 ?a16 ?l16 ?c16 ?k16 ?a17 ?l17 ?c17 ?k17 ?a18 ?l18 ?c18 ?k18 ?a19 ?l19 ?c19 ?k19 ?a20 ?l20 ?c20 ?k20 ?a21 ?l21 ?c21 ?k21 ?a22 ?l22 ?c22 ?k22 ?a23 ?l23 ?c23 ?k23 ?a24 ?l24 ?c24 ?k24 ?a25 ?l25 ?c25 ?k25 ?a26 ?l26 ?c26 ?k26 ?a27 ?l27 ?c27 ?k27 ?g_Fault ?g_Malformed ?g_Refused ?n_abs ?n_all ?n_bool ?n_enumerate ?n_int ?n_isinstance ?n_len ?n_list ?n_range ?n_sorted ?n_str ?n_tuple ?n_zip ?i_MOST_SHEETS ?exM ?kpM ?sbM ?tyM ?icM ?scM
    (case a0 => k_is); (case l0 => k_is); (case c0 => k_is); (case k0 => k_is); (case a1 => k_is); (case l1 => k_is); (case c1 => k_is); (case k1 => k_is)
    (case a2 => k_is); (case l2 => k_is); (case c2 => k_is); (case k2 => k_is); (case a3 => k_is); (case l3 => k_is); (case c3 => k_is); (case k3 => k_is)
    (case a4 => k_is); (case l4 => k_is); (case c4 => k_is); (case k4 => k_is); (case a5 => k_is); (case l5 => k_is); (case c5 => k_is); (case k5 => k_is)
    (case a6 => k_is); (case l6 => k_is); (case c6 => k_is); (case k6 => k_is); (case a7 => k_is); (case l7 => k_is); (case c7 => k_is); (case k7 => k_is)
    (case a8 => k_is); (case l8 => k_is); (case c8 => k_is); (case k8 => k_is); (case a9 => k_is); (case l9 => k_is); (case c9 => k_is); (case k9 => k_is)
    (case a10 => k_is); (case l10 => k_is); (case c10 => k_is); (case k10 => k_is); (case a11 => k_is); (case l11 => k_is); (case c11 => k_is); (case k11 => k_is)
    (case a12 => k_is); (case l12 => k_is); (case c12 => k_is); (case k12 => k_is); (case a13 => k_is); (case l13 => k_is); (case c13 => k_is); (case k13 => k_is)
    (case a14 => k_is); (case l14 => k_is); (case c14 => k_is); (case k14 => k_is); (case a15 => k_is); (case l15 => k_is); (case c15 => k_is); (case k15 => k_is)
    (case a16 => k_is); (case l16 => k_is); (case c16 => k_is); (case k16 => k_is); (case a17 => k_is); (case l17 => k_is); (case c17 => k_is); (case k17 => k_is)
    (case a18 => k_is); (case l18 => k_is); (case c18 => k_is); (case k18 => k_is); (case a19 => k_is); (case l19 => k_is); (case c19 => k_is); (case k19 => k_is)
    (case a20 => k_is); (case l20 => k_is); (case c20 => k_is); (case k20 => k_is); (case a21 => k_is); (case l21 => k_is); (case c21 => k_is); (case k21 => k_is)
    (case a22 => k_is); (case l22 => k_is); (case c22 => k_is); (case k22 => k_is); (case a23 => k_is); (case l23 => k_is); (case c23 => k_is); (case k23 => k_is)
    (case a24 => k_is); (case l24 => k_is); (case c24 => k_is); (case k24 => k_is); (case a25 => k_is); (case l25 => k_is); (case c25 => k_is); (case k25 => k_is)
    (case a26 => k_is); (case l26 => k_is); (case c26 => k_is); (case k26 => k_is); (case a27 => k_is); (case l27 => k_is); (case c27 => k_is); (case k27 => k_is)
    (case g_Fault => k_is); (case g_Malformed => k_is); (case g_Refused => k_is); (case n_abs => k_is); (case n_all => k_is); (case n_bool => k_is); (case n_enumerate => k_is); (case n_int => k_is)
    (case n_isinstance => k_is); (case n_len => k_is); (case n_list => k_is); (case n_range => k_is); (case n_sorted => k_is); (case n_str => k_is); (case n_tuple => k_is); (case n_zip => k_is)
    (case i_MOST_SHEETS => k_is); (case kpM => k_is); (case sbM => k_is); (case tyM => k_is); (case icM => k_is); (case scM => k_is)
    (case exM => k_exc)

