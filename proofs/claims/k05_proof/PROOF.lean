import PyProof.Rows.All
import Wide.All
import OpenK.AllK
import Wide.FinOn
import PySem.Challenge.RW_branchsheets_k05_cycles_types_orders_and
import HandS.Base
import HandS.Call
import HandS.List
import HandS.Comp
import HandS.Ends
import HandS.Dict
import HandS.Iter
import HandS.Text
import HandS.Words
import HandS.Exc
import HandS.ExcOwn
import HandS.TryMany
import HandS.IsInst
import HandS.TupAny
import HandS.SortKw
import HandS.Style
import HandS.Gcd
import HandS.Small
import HandS.FStr
import HandS.CallLocal
import HandS.WordsExc
import HandS.WordsList
import HandS.WordsDict
import HandS.Conv
import HandS.SortInts
set_option Elab.async false
set_option linter.all false
set_option maxRecDepth 100000
set_option autoImplicit false
/-! values as data; owned objects; the relation of a mirror's state to the machine's -/
namespace Mi
open PySem L2

/-- plain data, without the heap -/
inductive D where
  | non | bl (b : Bool) | int (i : Int) | str (x : Str) | ref (a : Addr) | tup (xs : List D) | lst (xs : List D)

mutual
/-- v stands for d, by the objects of S -/
def Den (K : PySem.W.Frag) (S : Hp) : D → V → Prop
  | .non, v => v = .non
  | .bl b, v => v = .bl b
  | .int i, v => v = .int i
  | .str x, v => v = .str x
  | .ref a, v => v = .ref a
  | .tup ds, v => ∃ a vs, v = .ref a ∧ SqT K S a vs ∧ DenL K S ds vs
  | .lst ds, v => ∃ a vs, v = .ref a ∧ SqL K S a vs ∧ DenL K S ds vs
def DenL (K : PySem.W.Frag) (S : Hp) : List D → List V → Prop
  | [], vs => vs = []
  | d :: ds, vs => ∃ v r, vs = v :: r ∧ Den K S d v ∧ DenL K S ds r
end

theorem sqL_same {K : PySem.W.Frag} {S S' : Hp} {a : Addr} {vs : List V} (e : Same S S') (h : SqL K S a vs) : SqL K S' a vs := e.seq h
theorem sqT_same {K : PySem.W.Frag} {S S' : Hp} {a : Addr} {vs : List V} (e : Same S S') (h : SqT K S a vs) : SqT K S' a vs := by
  rcases h with (h | ⟨o, h⟩) | h
  · exact .inl (.inl (e _ _ h))
  · exact .inl (.inr ⟨o, e _ _ h⟩)
  · exact .inr h
mutual
theorem Den.same {K : PySem.W.Frag} {S S' : Hp} (e : Same S S') : ∀ {d : D} {v : V}, Den K S d v → Den K S' d v
  | .non, _, h => h
  | .bl _, _, h => h
  | .int _, _, h => h
  | .str _, _, h => h
  | .ref _, _, h => h
  | .tup ds, v, h => by
    unfold Den at h ⊢
    obtain ⟨a, vs, r, s, l⟩ := h
    exact ⟨a, vs, r, sqT_same e s, DenL.same e l⟩
  | .lst ds, v, h => by
    unfold Den at h ⊢
    obtain ⟨a, vs, r, s, l⟩ := h
    exact ⟨a, vs, r, sqL_same e s, DenL.same e l⟩
theorem DenL.same {K : PySem.W.Frag} {S S' : Hp} (e : Same S S') : ∀ {ds : List D} {vs : List V}, DenL K S ds vs → DenL K S' ds vs
  | [], _, h => h
  | d :: ds, vs, h => by
    unfold DenL at h ⊢
    obtain ⟨v, r, e1, h1, h2⟩ := h
    exact ⟨v, r, e1, Den.same e h1, DenL.same e h2⟩
end
section
variable {K : PySem.W.Frag} {S S' H H' : Hp}
theorem DenL.length : ∀ {ds : List D} {vs : List V}, DenL K S ds vs → vs.length = ds.length
  | [], _, h => by unfold DenL at h; subst h; rfl
  | d :: ds, vs, h => by
    unfold DenL at h
    obtain ⟨v, r, rfl, _, h2⟩ := h
    simp [DenL.length h2]
theorem DenL.nil : DenL K S [] [] := by unfold DenL; rfl
theorem DenL.cons {d : D} {v : V} {ds : List D} {vs : List V} (h : Den K S d v) (t : DenL K S ds vs) : DenL K S (d :: ds) (v :: vs) := by
  unfold DenL; exact ⟨v, vs, rfl, h, t⟩
theorem DenL.get : ∀ {ds : List D} {vs : List V} {i : Nat} {d : D}, DenL K S ds vs → ds[i]? = some d → ∃ v, vs[i]? = some v ∧ Den K S d v
  | [], _, i, d, _, e => by simp at e
  | d :: ds, vs, 0, d', h, e => by
    unfold DenL at h
    obtain ⟨v, r, rfl, h1, h2⟩ := h
    simp at e; subst e
    exact ⟨v, rfl, h1⟩
  | d :: ds, vs, i + 1, d', h, e => by
    unfold DenL at h
    obtain ⟨v, r, rfl, h1, h2⟩ := h
    obtain ⟨u, e1, e2⟩ := DenL.get h2 (by simpa using e)
    exact ⟨u, by simpa using e1, e2⟩
theorem DenL.getv : ∀ {ds : List D} {vs : List V} {i : Nat} {v : V}, DenL K S ds vs → vs[i]? = some v → ∃ d, ds[i]? = some d ∧ Den K S d v
  | [], vs, i, v, h, e => by unfold DenL at h; subst h; simp at e
  | d :: ds, vs, 0, v', h, e => by
    unfold DenL at h
    obtain ⟨v, r, rfl, h1, h2⟩ := h
    simp at e; subst e
    exact ⟨d, rfl, h1⟩
  | d :: ds, vs, i + 1, v', h, e => by
    unfold DenL at h
    obtain ⟨v, r, rfl, h1, h2⟩ := h
    obtain ⟨u, e1, e2⟩ := DenL.getv h2 (by simpa using e)
    exact ⟨u, by simpa using e1, e2⟩
theorem DenL.append : ∀ {ds es : List D} {vs us : List V}, DenL K S ds vs → DenL K S es us → DenL K S (ds ++ es) (vs ++ us)
  | [], _, _, _, h, q => by unfold DenL at h; subst h; exact q
  | d :: ds, es, vs, us, h, q => by
    unfold DenL at h
    obtain ⟨v, r, rfl, h1, h2⟩ := h
    exact DenL.cons h1 (DenL.append h2 q)
theorem DenL.set : ∀ {ds : List D} {vs : List V} (i : Nat) {d : D} {v : V}, DenL K S ds vs → Den K S d v → DenL K S (ds.set i d) (vs.set i v)
  | [], _, _, _, _, h, _ => by unfold DenL at h; subst h; exact DenL.nil
  | d :: ds, vs, 0, d', v', h, q => by
    unfold DenL at h
    obtain ⟨v, r, rfl, h1, h2⟩ := h
    exact DenL.cons q h2
  | d :: ds, vs, i + 1, d', v', h, q => by
    unfold DenL at h
    obtain ⟨v, r, rfl, h1, h2⟩ := h
    exact DenL.cons h1 (DenL.set i h2 q)
theorem DenL.take : ∀ {ds : List D} {vs : List V} (n : Nat), DenL K S ds vs → DenL K S (ds.take n) (vs.take n)
  | _, _, 0, _ => by simp; exact DenL.nil
  | [], vs, n + 1, h => by unfold DenL at h; subst h; exact DenL.nil
  | d :: ds, vs, n + 1, h => by
    unfold DenL at h
    obtain ⟨v, r, rfl, h1, h2⟩ := h
    exact DenL.cons h1 (DenL.take n h2)
theorem DenL.drop : ∀ {ds : List D} {vs : List V} (n : Nat), DenL K S ds vs → DenL K S (ds.drop n) (vs.drop n)
  | _, _, 0, h => h
  | [], vs, n + 1, h => by unfold DenL at h; subst h; exact DenL.nil
  | d :: ds, vs, n + 1, h => by
    unfold DenL at h
    obtain ⟨v, r, rfl, h1, h2⟩ := h
    exact DenL.drop n h2
theorem DenL.eraseIdx : ∀ {ds : List D} {vs : List V} (n : Nat), DenL K S ds vs → DenL K S (ds.eraseIdx n) (vs.eraseIdx n)
  | [], vs, n, h => by unfold DenL at h; subst h; exact DenL.nil
  | d :: ds, vs, 0, h => by
    unfold DenL at h
    obtain ⟨v, r, rfl, h1, h2⟩ := h
    exact h2
  | d :: ds, vs, n + 1, h => by
    unfold DenL at h
    obtain ⟨v, r, rfl, h1, h2⟩ := h
    exact DenL.cons h1 (DenL.eraseIdx n h2)
theorem DenL.reverse : ∀ {ds : List D} {vs : List V}, DenL K S ds vs → DenL K S ds.reverse vs.reverse
  | [], vs, h => by unfold DenL at h; subst h; exact DenL.nil
  | d :: ds, vs, h => by
    unfold DenL at h
    obtain ⟨v, r, rfl, h1, h2⟩ := h
    simp only [List.reverse_cons]
    exact DenL.append (DenL.reverse h2) (DenL.cons h1 DenL.nil)
theorem DenL.ints : ∀ {ns : List Int} {vs : List V}, DenL K S (ns.map D.int) vs → vs = ns.map V.int
  | [], vs, h => by simpa [DenL] using h
  | n :: ns, vs, h => by
    simp only [List.map_cons] at h
    unfold DenL at h
    obtain ⟨v, r, rfl, h1, h2⟩ := h
    unfold Den at h1
    rw [h1, DenL.ints h2]; rfl
theorem DenL.of_ints : ∀ {ns : List Int}, DenL K S (ns.map D.int) (ns.map V.int)
  | [] => DenL.nil
  | n :: ns => DenL.cons (by unfold Den; rfl) DenL.of_ints
theorem DenL.bls : ∀ {ns : List Bool} {vs : List V}, DenL K S (ns.map D.bl) vs → vs = ns.map V.bl
  | [], vs, h => by simpa [DenL] using h
  | n :: ns, vs, h => by
    simp only [List.map_cons] at h
    unfold DenL at h
    obtain ⟨v, r, rfl, h1, h2⟩ := h
    unfold Den at h1
    rw [h1, DenL.bls h2]; rfl
end

/-! ### owned objects -/
inductive Mo where
  | lst (xs : List D) | dic (kvs : List (Key × D))
def KDen (K : PySem.W.Frag) (S : Hp) : List (Key × D) → List (Key × V) → Prop
  | [], vs => vs = []
  | p :: ds, vs => ∃ v r, vs = (p.1, v) :: r ∧ Den K S p.2 v ∧ KDen K S ds r
def MoOk (K : PySem.W.Frag) (S : Hp) : Mo → HO → Prop
  | .lst xs, o => ∃ vs, o = .lst vs ∧ DenL K S xs vs
  | .dic kvs, o => ∃ vs, o = .dK vs ∧ KDen K S kvs vs
theorem KDen.same {K : PySem.W.Frag} {S S' : Hp} (e : Same S S') : ∀ {ds : List (Key × D)} {vs : List (Key × V)}, KDen K S ds vs → KDen K S' ds vs
  | [], _, h => h
  | p :: ds, vs, h => by
    obtain ⟨v, r, e1, h1, h2⟩ := h
    exact ⟨v, r, e1, h1.same e, KDen.same e h2⟩
theorem MoOk.same {K : PySem.W.Frag} {S S' : Hp} (e : Same S S') {m : Mo} {o : HO} (h : MoOk K S m o) : MoOk K S' m o := by
  cases m with
  | lst xs => obtain ⟨vs, r, l⟩ := h; exact ⟨vs, r, l.same e⟩
  | dic kvs => obtain ⟨vs, r, l⟩ := h; exact ⟨vs, r, l.same e⟩
theorem MoOk.mut {K : PySem.W.Frag} {S : Hp} {m : Mo} {o : HO} (h : MoOk K S m o) : Mut (some o) := by
  cases m with
  | lst xs => obtain ⟨vs, rfl, l⟩ := h; trivial
  | dic kvs => obtain ⟨vs, rfl, l⟩ := h; trivial

inductive Cell where
  | no | val (d : D) | own (bor : Bool) (o : Mo)
abbrev Rho := List Cell
abbrev Sg := L2.St

def CellOk (K : PySem.W.Frag) (S H : Hp) (v : Option (Option V)) : Cell → Prop
  | .no => True
  | .val d => ∃ u, v = some (some u) ∧ Den K S d u
  | .own _ o => ∃ a ho, v = some (some (.ref a)) ∧ H a = some ho ∧ S a = none ∧ MoOk K S o ho
def Own (σ : Sg) (ρ : Rho) (a : Addr) : Prop := ∃ (i : Nat) (b : Bool) (o : Mo), ρ[i]? = some (.own b o) ∧ σ[i]? = some (some (.ref a))
structure Rel (K : PySem.W.Frag) (S H : Hp) (σ : Sg) (ρ : Rho) : Prop where
  sub : Same S H
  len : σ.length = ρ.length
  cell : ∀ (i : Nat) (c : Cell), ρ[i]? = some c → CellOk K S H σ[i]? c
  dist : ∀ (i j : Nat) (b b' : Bool) (o o' : Mo), ρ[i]? = some (.own b o) → ρ[j]? = some (.own b' o') → σ[i]? = σ[j]? → i = j
def OwnF (σ : Sg) (ρ : Rho) (a : Addr) : Prop := ∃ (i : Nat) (o : Mo), ρ[i]? = some (.own false o) ∧ σ[i]? = some (some (.ref a))
/-- what a piece of code has done -/
structure Stp (S H : Hp) (σ : Sg) (ρ : Rho) (S' H' : Hp) (σ' : Sg) (ρ' : Rho) : Prop where
  ex : Same S S'
  fr : ∀ b o, H b = some o → ¬ Own σ ρ b → H' b = some o
  th : ∀ b, H' b = none → H b = none
  nw : ∀ b o, S' b = some o → S b = some o ∨ H b = none ∨ Own σ ρ b
  ow : ∀ b, Own σ' ρ' b → Own σ ρ b ∨ H b = none
  owf : ∀ b, OwnF σ' ρ' b → OwnF σ ρ b ∨ H b = none
  bo : ∀ (i : Nat) o, ρ[i]? = some (.own true o) → σ'[i]? = σ[i]? ∧ ∃ o', ρ'[i]? = some (.own true o')
  ln : ρ'.length = ρ.length
section
variable {K : PySem.W.Frag} {S S' S1 S2 H H' H1 H2 : Hp} {σ σ' σ1 σ2 : Sg} {ρ ρ' ρ1 ρ2 : Rho}
theorem OwnF.own {a : Addr} (h : OwnF σ ρ a) : Own σ ρ a := let ⟨i, o, e⟩ := h; ⟨i, false, o, e⟩
theorem Stp.refl : Stp S H σ ρ S H σ ρ := ⟨Same.refl _, fun _ _ h _ => h, fun _ h => h, fun _ _ h => .inl h, fun _ h => .inl h, fun _ h => .inl h, fun i o h => ⟨rfl, o, h⟩, rfl⟩
theorem Stp.trans (a : Stp S H σ ρ S1 H1 σ1 ρ1) (b : Stp S1 H1 σ1 ρ1 S2 H2 σ2 ρ2) : Stp S H σ ρ S2 H2 σ2 ρ2 where
  ex := a.ex.trans b.ex
  fr := fun c o h n => b.fr c o (a.fr c o h n) fun z => by
    rcases a.ow c z with z | z
    · exact n z
    · rw [h] at z; cases z
  th := fun c h => a.th c (b.th c h)
  nw := fun c o h => by
    rcases b.nw c o h with z | z | z
    · exact a.nw c o z
    · exact .inr (.inl (a.th c z))
    · rcases a.ow c z with z | z
      · exact .inr (.inr z)
      · exact .inr (.inl z)
  ow := fun c h => by
    rcases b.ow c h with z | z
    · exact a.ow c z
    · exact .inr (a.th c z)
  owf := fun c h => by
    rcases b.owf c h with z | z
    · exact a.owf c z
    · exact .inr (a.th c z)
  bo := fun i o h => by
    obtain ⟨e1, o1, h1⟩ := a.bo i o h
    obtain ⟨e2, o2, h2⟩ := b.bo i o1 h1
    exact ⟨e2.trans e1, o2, h2⟩
  ln := b.ln.trans a.ln
theorem Rel.own_ne (R : Rel K S H σ ρ) {a : Addr} {o : HO} (h : S a = some o) : ¬ Own σ ρ a := fun ⟨i, b, m, e, f⟩ => by
  obtain ⟨a', ho, e1, _, n, _⟩ := R.cell i _ e
  rw [f] at e1; cases e1
  rw [h] at n; cases n
theorem Rel.own_some (R : Rel K S H σ ρ) {a : Addr} (h : Own σ ρ a) : ∃ o, H a = some o ∧ Mut (some o) := by
  obtain ⟨i, b, m, e, f⟩ := h
  obtain ⟨a', ho, e1, e2, n, k⟩ := R.cell i _ e
  rw [f] at e1; cases e1
  exact ⟨ho, e2, k.mut⟩
/-- things have come; what was there stays -/
structure Grow (S H S' H' : Hp) : Prop where
  h : Same H H'
  s : Same S S'
  sub : Same S' H'
  nw : ∀ b o, S' b = some o → S b = some o ∨ H b = none

theorem Grow.refl (h : Same S H) : Grow S H S H := ⟨Same.refl _, Same.refl _, h, fun _ _ h => .inl h⟩
theorem Grow.trans (a : Grow S H S1 H1) (b : Grow S1 H1 S2 H2) : Grow S H S2 H2 := ⟨a.h.trans b.h, a.s.trans b.s, b.sub, fun c o h => by
  rcases b.nw c o h with z | z
  · exact a.nw c o z
  · exact .inr (L2.Same.free a.h z)⟩
theorem Rel.laid (R : Rel K S H σ ρ) (g : Grow S H S' H') : Rel K S' H' σ ρ where
  sub := g.sub
  len := R.len
  cell := fun i c e => by
    have q := R.cell i c e
    cases c with
    | no => trivial
    | val d => obtain ⟨u, e1, e2⟩ := q; exact ⟨u, e1, e2.same g.s⟩
    | own b o =>
      obtain ⟨a, ho, e1, e2, e3, e4⟩ := q
      refine ⟨a, ho, e1, g.h _ _ e2, ?_, e4.same g.s⟩
      cases z : S' a with
      | none => rfl
      | some u =>
        rcases g.nw a u z with y | y
        · rw [e3] at y; cases y
        · rw [e2] at y; cases y
  dist := R.dist
theorem Stp.laid (g : Grow S H S' H') : Stp S H σ ρ S' H' σ ρ :=
  ⟨g.s, fun b o h _ => g.h b o h, fun b h => L2.Same.free g.h h, fun b o h => (g.nw b o h).elim .inl fun z => .inr (.inl z), fun _ h => .inl h, fun _ h => .inl h, fun i o h => ⟨rfl, o, h⟩, rfl⟩
theorem same_upd {a : Addr} {o : HO} (h : H a = none) : Same H (upd H a o) := fun b x e => by
  rw [upd_ne (ne_of_none e h)]
  exact e
/-- a new object, stable -/
theorem Grow.stable (hs : Same S H) {a : Addr} {o : HO} (h : H a = none) : Grow S H (upd S a o) (upd H a o) where
  h := same_upd h
  s := same_upd (L2.Same.free hs h)
  sub := fun b u e => by
    by_cases z : b = a
    · subst z; rw [upd_same] at e ⊢; exact e
    · rw [upd_ne z] at e ⊢; exact hs b u e
  nw := fun b u e => by
    by_cases z : b = a
    · subst z; exact .inr h
    · rw [upd_ne z] at e; exact .inl e
/-- a new object, not stable -/
theorem Grow.loose (hs : Same S H) {a : Addr} {o : HO} (h : H a = none) : Grow S H S (upd H a o) where
  h := same_upd h
  s := Same.refl _
  sub := hs.trans (same_upd h)
  nw := fun b u e => .inl e

/-! ### what an expression gives -/
inductive EV where
  | d (d : D) | new (o : Mo) | slot (i : Nat)
def EvOk (K : PySem.W.Frag) (σ0 : Sg) (ρ0 : Rho) (H0 S H : Hp) (σ : Sg) (ρ : Rho) (v : V) : EV → Prop
  | .d d => Den K S d v
  | .new o => ∃ a ho, v = .ref a ∧ H a = some ho ∧ S a = none ∧ ¬ Own σ ρ a ∧ MoOk K S o ho ∧ (H0 a = none ∨ OwnF σ0 ρ0 a)
  | .slot i => σ[i]? = some (some v)
/-- .. of a rule that lays objects at most -/
def EvG (K : PySem.W.Frag) (H S' H' : Hp) (v : V) : EV → Prop
  | .d d => Den K S' d v
  | .new o => ∃ a ho, v = .ref a ∧ H a = none ∧ H' a = some ho ∧ S' a = none ∧ MoOk K S' o ho
  | .slot _ => False
theorem EvOk.step {σ0 : Sg} {ρ0 : Rho} {H0 : Hp} {v : V} {ev : EV} (h : EvOk K σ0 ρ0 H0 S1 H1 σ ρ1 v ev) (s : Stp S1 H1 σ ρ1 S2 H2 σ ρ2) : EvOk K σ0 ρ0 H0 S2 H2 σ ρ2 v ev := by
  cases ev with
  | d d => exact Den.same s.ex h
  | slot i => exact h
  | new o =>
    obtain ⟨a, ho, e, e1, e2, e3, e4, e5⟩ := h
    refine ⟨a, ho, e, s.fr _ _ e1 e3, ?_, fun z => ?_, e4.same s.ex, e5⟩
    · cases z : S2 a with
      | none => rfl
      | some u =>
        rcases s.nw a u z with y | y | y
        · rw [e2] at y; cases y
        · rw [e1] at y; cases y
        · exact (e3 y).elim
    · rcases s.ow a z with y | y
      · exact e3 y
      · rw [e1] at y; cases y
theorem EvOk.back {σ0 : Sg} {ρ0 : Rho} {S0 H0 : Hp} {v : V} {ev : EV} (s : Stp S0 H0 σ0 ρ0 S1 H1 σ1 ρ1) (h : EvOk K σ1 ρ1 H1 S2 H2 σ2 ρ2 v ev) : EvOk K σ0 ρ0 H0 S2 H2 σ2 ρ2 v ev := by
  cases ev with
  | d d => exact h
  | slot i => exact h
  | new o =>
    obtain ⟨a, ho, e, e1, e2, e3, e4, e5⟩ := h
    refine ⟨a, ho, e, e1, e2, e3, e4, ?_⟩
    rcases e5 with z | z
    · exact .inl (s.th _ z)
    · exact (s.owf a z).symm
theorem EvG.ok (R : Rel K S H σ ρ) {v : V} {ev : EV} (h : EvG K H S' H' v ev) : EvOk K σ ρ H S' H' σ ρ v ev := by
  cases ev with
  | d d => exact h
  | slot i => exact h.elim
  | new o =>
    obtain ⟨a, ho, e, e1, e2, e3, e4⟩ := h
    refine ⟨a, ho, e, e2, e3, fun z => ?_, e4, .inl e1⟩
    obtain ⟨o, z, _⟩ := R.own_some z
    rw [e1] at z; cases z
/-- readable just now -/
def Seen (K : PySem.W.Frag) (S H : Hp) : D → V → Prop
  | .lst ds, v => ∃ a vs, v = .ref a ∧ SqL K H a vs ∧ DenL K S ds vs
  | d, v => Den K S d v
theorem Den.seen (hs : Same S H) : ∀ {d : D} {v : V}, Den K S d v → Seen K S H d v
  | .non, _, h => h
  | .bl _, _, h => h
  | .int _, _, h => h
  | .str _, _, h => h
  | .ref _, _, h => h
  | .tup _, _, h => h
  | .lst ds, v, h => by
    unfold Den at h
    obtain ⟨a, vs, r, s, l⟩ := h
    exact ⟨a, vs, r, sqL_same hs s, l⟩
/-- its content -/
def Mo.rd : Mo → Option D
  | .lst xs => some (.lst xs)
  | .dic _ => none
def Cell.rd : Cell → Option D
  | .no => none
  | .val d => some d
  | .own _ o => o.rd
def rd (ρ : Rho) : EV → Option D
  | .d d => some d
  | .new o => o.rd
  | .slot i => (ρ[i]?).bind Cell.rd
theorem rd_seen (R : Rel K S H σ ρ) {σ0 : Sg} {ρ0 : Rho} {H0 : Hp} {v : V} {ev : EV} {d : D} (h : EvOk K σ0 ρ0 H0 S H σ ρ v ev) (e : rd ρ ev = some d) : Seen K S H d v := by
  have mo : ∀ {a : Addr} {ho : HO} {o : Mo}, v = .ref a → H a = some ho → MoOk K S o ho → o.rd = some d → Seen K S H d v := fun {a ho o} e1 e2 e3 e4 => by
    cases o with
    | lst xs =>
      obtain ⟨vs, rfl, l⟩ := e3
      simp only [Mo.rd, Option.some.injEq] at e4
      subst e4
      exact ⟨a, vs, e1, SqL.of e2, l⟩
    | dic kvs => simp [Mo.rd] at e4
  cases ev with
  | d d' =>
    simp only [rd, Option.some.injEq] at e
    subst e
    exact Den.seen R.sub h
  | new o =>
    obtain ⟨a, ho, e1, e2, _, _, e3, _⟩ := h
    exact mo e1 e2 e3 e
  | slot i =>
    have hv : σ[i]? = some (some v) := h
    simp only [rd] at e
    cases q : ρ[i]? with
    | none => rw [q] at e; cases e
    | some c =>
      rw [q] at e
      have ce : c.rd = some d := e
      have k := R.cell i c q
      cases c with
      | no => cases ce
      | val d' =>
        obtain ⟨u, e1, e2⟩ := k
        rw [hv] at e1; cases e1
        simp only [Cell.rd, Option.some.injEq] at ce
        subst ce
        exact Den.seen R.sub e2
      | own b o =>
        obtain ⟨a, ho, e1, e2, _, e4⟩ := k
        rw [hv] at e1; cases e1
        exact mo rfl e2 e4 ce
end
end Mi

set_option Elab.async false
set_option linter.all false
set_option maxRecDepth 100000
set_option autoImplicit false
namespace Mi
open PySem L2

/-! ### results of a mirror -/
inductive Exn where
  | mal | refd (d : D) | nt (d : D)
structure XC where
  mal : Addr
  refd : Addr
  nt : Addr
def XOk (K : PySem.W.Frag) (xc : XC) (S H : Hp) : Exn → Value → Option Addr → Prop
  | .mal, c, dx => c = .ref xc.mal ∧ dx = none
  | .refd d, c, dx => c = .ref xc.refd ∧ ∃ a v, dx = some a ∧ H a = some (.xd [(("reason" : Str), v)]) ∧ Den K S d v
  | .nt d, c, dx => c = .ref xc.nt ∧ ∃ a v, dx = some a ∧ H a = some (.xd [(("at" : Str), v)]) ∧ Den K S d v
inductive R (α : Type) where
  | ok (a : α) (ρ : Rho) | exn (x : Exn) (ρ : Rho) | stuck
def R.bind {α β : Type} (r : R α) (f : α → Rho → R β) : R β := match r with
  | .ok a ρ => f a ρ
  | .exn x ρ => .exn x ρ
  | .stuck => .stuck
def R.of {α : Type} (o : Option α) (ρ : Rho) : R α := match o with
  | some a => .ok a ρ
  | none => .stuck
def ROk {α : Type} (P : α → Rho → Prop) (X : Exn → Rho → Prop) : R α → Prop
  | .ok a ρ => P a ρ
  | .exn x ρ => X x ρ
  | .stuck => False
theorem ROk.bind {α β : Type} {P : β → Rho → Prop} {X : Exn → Rho → Prop} {r : R α} {f : α → Rho → R β} (h : ROk P X (r.bind f)) : ROk (fun a ρ => ROk P X (f a ρ)) X r := by
  cases r <;> exact h
theorem ROk.mono {α : Type} {P P' : α → Rho → Prop} {X X' : Exn → Rho → Prop} {r : R α} (h : ROk P X r) (hP : ∀ a ρ, P a ρ → P' a ρ) (hX : ∀ x ρ, X x ρ → X' x ρ) : ROk P' X' r := by
  cases r with
  | ok a ρ => exact hP a ρ h
  | exn x ρ => exact hX x ρ h
  | stuck => exact h
theorem ROk.of {α : Type} {P : α → Rho → Prop} {X : Exn → Rho → Prop} {o : Option α} {ρ : Rho} (h : ROk P X (R.of o ρ)) : ∃ a, o = some a ∧ P a ρ := by
  cases o with
  | none => exact h.elim
  | some a => exact ⟨a, rfl, h⟩
inductive Out where
  | nx (ρ : Rho) | rt (e : EV) (ρ : Rho) | bk (ρ : Rho) | ct (ρ : Rho) | exn (x : Exn) (ρ : Rho) | stuck

/-! ### what is wanted behind -/
section
variable (K : PySem.W.Frag) (xc : XC) (W : WX)
def XPost (S H : Hp) (σ : Sg) (ρ : Rho) (x : Exn) (ρ' : Rho) : Prop := ∀ S' H' σ' c dx, Stp S H σ ρ S' H' σ' ρ' → Rel K S' H' σ' ρ' → XOk K xc S' H' x c dx → W c dx σ' H'
def EPost (S H : Hp) (σ : Sg) (ρ : Rho) (Q : VK) (ev : EV) (ρ' : Rho) : Prop := ∀ S' H' v, Stp S H σ ρ S' H' σ ρ' → Rel K S' H' σ ρ' → EvOk K σ ρ H S' H' σ ρ' v ev → Q v H'
def TPost (S H : Hp) (σ : Sg) (ρ : Rho) (Q : Bool → Hp → Prop) (b : Bool) (ρ' : Rho) : Prop := ∀ S' H', Stp S H σ ρ S' H' σ ρ' → Rel K S' H' σ ρ' → Q b H'
def EvsOk (σ0 : Sg) (ρ0 : Rho) (H0 S H : Hp) (σ : Sg) (ρ : Rho) : List V → List EV → Prop
  | [], [] => True
  | v :: vs, e :: es => EvOk K σ0 ρ0 H0 S H σ ρ v e ∧ EvsOk σ0 ρ0 H0 S H σ ρ vs es
  | _, _ => False
def APost (S H : Hp) (σ : Sg) (ρ : Rho) (Q : List V → Hp → Prop) (evs : List EV) (ρ' : Rho) : Prop := ∀ S' H' vs, Stp S H σ ρ S' H' σ ρ' → Rel K S' H' σ ρ' → EvsOk K σ ρ H S' H' σ ρ' vs evs → Q vs H'
def SPost (D : Ends) (S H : Hp) (σ : Sg) (ρ : Rho) : Out → Prop
  | .nx ρ' => ∀ S' H' σ', Stp S H σ ρ S' H' σ' ρ' → Rel K S' H' σ' ρ' → D.nx σ' H'
  | .bk ρ' => ∀ S' H' σ', Stp S H σ ρ S' H' σ' ρ' → Rel K S' H' σ' ρ' → D.bk σ' H'
  | .ct ρ' => ∀ S' H' σ', Stp S H σ ρ S' H' σ' ρ' → Rel K S' H' σ' ρ' → D.ct σ' H'
  | .rt ev ρ' => ∀ S' H' σ' v, Stp S H σ ρ S' H' σ' ρ' → Rel K S' H' σ' ρ' → EvOk K σ ρ H S' H' σ' ρ' v ev → D.rt v H'
  | .exn x ρ' => XPost K xc W S H σ ρ x ρ'
  | .stuck => False
def JE (t : TE) (m : Rho → R EV) : Prop := ∀ S H σ ρ Q, Rel K S H σ ρ → ROk (EPost K S H σ ρ Q) (XPost K xc W S H σ ρ) (m ρ) → t σ H Q
def JT (t : TT) (m : Rho → R Bool) : Prop := ∀ S H σ ρ Q, Rel K S H σ ρ → ROk (TPost K S H σ ρ Q) (XPost K xc W S H σ ρ) (m ρ) → t σ H Q
def JA (t : TA) (m : Rho → R (List EV)) : Prop := ∀ S H σ ρ Q, Rel K S H σ ρ → ROk (APost K S H σ ρ Q) (XPost K xc W S H σ ρ) (m ρ) → t σ H Q
def JS (t : TS) (m : Rho → Out) : Prop := ∀ S H σ ρ D, Rel K S H σ ρ → SPost K xc W D S H σ ρ (m ρ) → t D σ H
/-- a target -/
def JG (g : TG) (sl : List Nat) (m : D → Rho → Option Rho) : Prop := ∀ S H σ ρ v d ρ' Q, Rel K S H σ ρ → Den K S d v → m d ρ = some ρ' →
  (∀ σ', Stp S H σ ρ S H σ' ρ' → Rel K S H σ' ρ' → (σ'.length = σ.length ∧ ∀ j : Nat, j ∉ sl → σ'[j]? = σ[j]?) → Q σ' H) → g v σ H Q
/-- what is walked: the items, the sources stable -/
def ItOk (S : Hp) (ds : List D) (J : It) : Prop := ∀ S1 H1, Same S S1 → Same S1 H1 → ∀ i : Nat,
  (i < ds.length → J.go i H1 ∧ ∀ x H2, J.yld i H1 x H2 → ∃ S2, Grow S1 H1 S2 H2 ∧ ∃ d, ds[i]? = some d ∧ Den K S2 d x) ∧ (ds.length ≤ i → J.stop i H1)
def IPost (S H : Hp) (σ : Sg) (ρ : Rho) (Rq : It → Hp → Prop) (ds : List D) (ρ' : Rho) : Prop := ∀ S' H' J, Stp S H σ ρ S' H' σ ρ' → Rel K S' H' σ ρ' → ItOk K S' ds J → Rq J H'
def JI (t : TI) (m : Rho → R (List D)) : Prop := ∀ S H σ ρ Q, Rel K S H σ ρ → ROk (IPost K S H σ ρ Q) (XPost K xc W S H σ ρ) (m ρ) → t σ H Q
end
section
variable (X : Cx) (xc : XC) (W : WX)
def RE (e : Expr) (m : Rho → R EV) : Prop := ∃ t, PE X e t ∧ JE X.K xc W t m
def RT (e : Expr) (m : Rho → R Bool) : Prop := ∃ t, PT X e t ∧ JT X.K xc W t m
def RW (e : Expr) (m : Rho → R Bool) : Prop := ∃ t, PW X e t ∧ JT X.K xc W t m
def RA (es : List Expr) (m : Rho → R (List EV)) : Prop := ∃ t, PA X es t ∧ JA X.K xc W t m
def RS (s : Stmt) (m : Rho → Out) : Prop := ∃ t, PS X s t ∧ JS X.K xc W t m
def RSs (s : List Stmt) (m : Rho → Out) : Prop := ∃ t, PSs X s t ∧ JS X.K xc W t m
def RG (e : Expr) (sl : List Nat) (m : D → Rho → Option Rho) : Prop := ∃ g, PG X e g ∧ JG X.K g sl m
def RI (tg e : Expr) (m : Rho → R (List D)) : Prop := ∃ t, PI X tg e t ∧ JI X.K xc W t m
end

section
variable {K : PySem.W.Frag} {xc : XC} {W : WX} {S S1 S' H H1 H' H0 : Hp} {σ σ1 σ' σ0 : Sg} {ρ ρ1 ρ' ρ0 : Rho}
theorem XPost.step {x : Exn} {ρ2 : Rho} (h : XPost K xc W S H σ ρ x ρ2) (s : Stp S H σ ρ S1 H1 σ1 ρ1) : XPost K xc W S1 H1 σ1 ρ1 x ρ2 :=
  fun S' H' σ' c dx s2 => h S' H' σ' c dx (s.trans s2)
theorem SPost.step {D : Ends} {o : Out} (h : SPost K xc W D S H σ ρ o) (s : Stp S H σ ρ S1 H1 σ1 ρ1) : SPost K xc W D S1 H1 σ1 ρ1 o := by
  cases o with
  | nx ρ2 => exact fun S' H' σ' s2 => h S' H' σ' (s.trans s2)
  | bk ρ2 => exact fun S' H' σ' s2 => h S' H' σ' (s.trans s2)
  | ct ρ2 => exact fun S' H' σ' s2 => h S' H' σ' (s.trans s2)
  | rt e ρ2 => exact fun S' H' σ' v s2 r k => h S' H' σ' v (s.trans s2) r (EvOk.back s k)
  | exn x ρ2 => exact XPost.step h s
  | stuck => exact h
theorem EvsOk.step {vs : List V} {es : List EV} (h : EvsOk K σ0 ρ0 H0 S H σ ρ vs es) (s : Stp S H σ ρ S1 H1 σ ρ1) : EvsOk K σ0 ρ0 H0 S1 H1 σ ρ1 vs es := by
  induction vs generalizing es with
  | nil => cases es with
    | nil => trivial
    | cons e es => exact h.elim
  | cons v vs ih => cases es with
    | nil => exact h.elim
    | cons e es => exact ⟨h.1.step s, ih h.2⟩
theorem EvsOk.back {S0 : Hp} {σ2 : Sg} {ρ2 : Rho} {H2 S2 : Hp} {vs : List V} {es : List EV} (s : Stp S0 H0 σ0 ρ0 S1 H1 σ1 ρ1) (h : EvsOk K σ1 ρ1 H1 S2 H2 σ2 ρ2 vs es) : EvsOk K σ0 ρ0 H0 S2 H2 σ2 ρ2 vs es := by
  induction vs generalizing es with
  | nil => cases es with
    | nil => trivial
    | cons e es => exact h.elim
  | cons v vs ih => cases es with
    | nil => exact h.elim
    | cons e es => exact ⟨EvOk.back s h.1, ih h.2⟩

/-! ### names, constants -/
def mVar (i : Nat) (ρ : Rho) : R EV := match ρ[i]? with
  | some (.val d) => .ok (.d d) ρ
  | some (.own _ _) => .ok (.slot i) ρ
  | _ => .stuck
theorem je_var (i : Nat) : JE K xc W (tVar i) (mVar i) := by
  intro S H σ ρ Q R h
  unfold mVar at h
  cases q : ρ[i]? with
  | none => rw [q] at h; exact h.elim
  | some c =>
    rw [q] at h
    have k := R.cell i c q
    cases c with
    | no => exact h.elim
    | val d =>
      obtain ⟨u, e1, e2⟩ := k
      exact ⟨u, e1, h S H u .refl R e2⟩
    | own b o =>
      obtain ⟨a, ho, e1, _⟩ := k
      exact ⟨_, e1, h S H _ .refl R e1⟩
def mC (d : D) (ρ : Rho) : R EV := .ok (.d d) ρ
theorem je_c {d : D} {v : V} (hd : ∀ S, Den K S d v) : JE K xc W (tC v) (mC d) := fun S H σ ρ Q R h => h S H v .refl R (hd S)

/-! ### two operands -/
def mOp (f : D → D → Option EV) (ma mb : Rho → R EV) (ρ : Rho) : R EV :=
  (ma ρ).bind fun ea ρ1 => (mb ρ1).bind fun eb ρ2 => R.of ((rd ρ2 ea).bind fun x => (rd ρ2 eb).bind fun y => f x y) ρ2
def OpM (K : PySem.W.Frag) (r : R2) (f : D → D → Option EV) : Prop := ∀ S H x y dx dy ev Q, Same S H → Seen K S H dx x → Seen K S H dy y → f dx dy = some ev →
  (∀ S' H' v, Grow S H S' H' → EvG K H S' H' v ev → Q v H') → r x y H Q
theorem je_op {r : R2} {f : D → D → Option EV} {ta tb : TE} {ma mb : Rho → R EV} (hr : OpM K r f) (ha : JE K xc W ta ma) (hb : JE K xc W tb mb) : JE K xc W (tOp r ta tb) (mOp f ma mb) := by
  intro S H σ ρ Q R h
  refine ha S H σ ρ _ R (ROk.mono (ROk.bind h) (fun ea ρ1 h1 => ?_) fun _ _ z => z)
  intro S1 H1 x s1 R1 e1
  refine hb S1 H1 σ ρ1 _ R1 (ROk.mono (ROk.bind h1) (fun eb ρ2 h2 => ?_) fun _ _ z => z.step s1)
  intro S2 H2 y s2 R2 e2
  obtain ⟨ev, q, hq⟩ := ROk.of h2
  simp only [Option.bind_eq_some_iff] at q
  obtain ⟨dx, q1, dy, q2, q3⟩ := q
  exact hr S2 H2 x y dx dy ev Q R2.sub (rd_seen R2 (e1.step s2) q1) (rd_seen R2 e2 q2) q3 fun S3 H3 v g k =>
    hq S3 H3 v ((s1.trans s2).trans (.laid g)) (R2.laid g) (EvOk.back (s1.trans s2) (k.ok R2))

/-! ### one operand -/
def mUn (f : D → Option EV) (ma : Rho → R EV) (ρ : Rho) : R EV := (ma ρ).bind fun ea ρ1 => R.of ((rd ρ1 ea).bind fun x => f x) ρ1
def UnM (K : PySem.W.Frag) (r : V → Hp → VK → Prop) (f : D → Option EV) : Prop := ∀ S H x dx ev Q, Same S H → Seen K S H dx x → f dx = some ev →
  (∀ S' H' v, Grow S H S' H' → EvG K H S' H' v ev → Q v H') → r x H Q
theorem je_un {r : V → Hp → VK → Prop} {f : D → Option EV} {ta : TE} {ma : Rho → R EV} (hr : UnM K r f) (ha : JE K xc W ta ma) : JE K xc W (tUn r ta) (mUn f ma) := by
  intro S H σ ρ Q R h
  refine ha S H σ ρ _ R (ROk.mono (ROk.bind h) (fun ea ρ1 h1 => ?_) fun _ _ z => z)
  intro S1 H1 x s1 R1 e1
  obtain ⟨ev, q, hq⟩ := ROk.of h1
  simp only [Option.bind_eq_some_iff] at q
  obtain ⟨dx, q1, q3⟩ := q
  exact hr S1 H1 x dx ev Q R1.sub (rd_seen R1 e1 q1) q3 fun S3 H3 v g k =>
    hq S3 H3 v (s1.trans (.laid g)) (R1.laid g) (EvOk.back s1 (k.ok R1))

/-! ### arguments -/
def mNil (ρ : Rho) : R (List EV) := .ok [] ρ
def mCons (ma : Rho → R EV) (mr : Rho → R (List EV)) (ρ : Rho) : R (List EV) := (ma ρ).bind fun e ρ1 => (mr ρ1).bind fun es ρ2 => .ok (e :: es) ρ2
theorem ja_nil : JA K xc W tNil mNil := fun S H σ ρ Q R h => h S H [] .refl R trivial
theorem ja_cons {ta : TE} {tr : TA} {ma : Rho → R EV} {mr : Rho → R (List EV)} (ha : JE K xc W ta ma) (hr : JA K xc W tr mr) : JA K xc W (tCons ta tr) (mCons ma mr) := by
  intro S H σ ρ Q R h
  refine ha S H σ ρ _ R (ROk.mono (ROk.bind h) (fun ea ρ1 h1 => ?_) fun _ _ z => z)
  intro S1 H1 x s1 R1 e1
  refine hr S1 H1 σ ρ1 _ R1 (ROk.mono (ROk.bind h1) (fun eb ρ2 h2 => ?_) fun _ _ z => z.step s1)
  intro S2 H2 ys s2 R2 e2
  exact h2 S2 H2 (x :: ys) (s1.trans s2) R2 ⟨e1.step s2, EvsOk.back s1 e2⟩
def rds (ρ : Rho) : List EV → Option (List D)
  | [] => some []
  | e :: es => (rd ρ e).bind fun d => (rds ρ es).bind fun ds => some (d :: ds)
def SeenL (K : PySem.W.Frag) (S H : Hp) : List D → List V → Prop
  | [], [] => True
  | d :: ds, v :: vs => Seen K S H d v ∧ SeenL K S H ds vs
  | _, _ => False
theorem rds_seen (R : Rel K S H σ ρ) : ∀ {vs : List V} {es : List EV} {ds : List D}, EvsOk K σ0 ρ0 H0 S H σ ρ vs es → rds ρ es = some ds → SeenL K S H ds vs
  | [], [], ds, _, e => by simp only [rds, Option.some.injEq] at e; subst e; trivial
  | v :: vs, e :: es, ds, h, q => by
    simp only [rds, Option.bind_eq_some_iff] at q
    obtain ⟨d, q1, ds', q2, q3⟩ := q
    cases q3
    exact ⟨rd_seen R h.1 q1, rds_seen R h.2 q2⟩
  | [], _ :: _, _, h, _ => h.elim
  | _ :: _, [], _, h, _ => h.elim
/-- a built-in by values -/
def mCB (f : List D → Option EV) (ma : Rho → R (List EV)) (ρ : Rho) : R EV := (ma ρ).bind fun es ρ1 => R.of ((rds ρ1 es).bind fun ds => f ds) ρ1
def CaM (K : PySem.W.Frag) (r : List V → Hp → VK → Prop) (f : List D → Option EV) : Prop := ∀ S H xs ds ev Q, Same S H → SeenL K S H ds xs → f ds = some ev →
  (∀ S' H' v, Grow S H S' H' → EvG K H S' H' v ev → Q v H') → r xs H Q
theorem je_cb {r : List V → Hp → VK → Prop} {f : List D → Option EV} {ta : TA} {ma : Rho → R (List EV)} (hr : CaM K r f) (ha : JA K xc W ta ma) : JE K xc W (tCB r ta) (mCB f ma) := by
  intro S H σ ρ Q R h
  refine ha S H σ ρ _ R (ROk.mono (ROk.bind h) (fun ea ρ1 h1 => ?_) fun _ _ z => z)
  intro S1 H1 x s1 R1 e1
  obtain ⟨ev, q, hq⟩ := ROk.of h1
  simp only [Option.bind_eq_some_iff] at q
  obtain ⟨dx, q1, q3⟩ := q
  exact hr S1 H1 x dx ev Q R1.sub (rds_seen R1 e1 q1) q3 fun S3 H3 v g k =>
    hq S3 H3 v (s1.trans (.laid g)) (R1.laid g) (EvOk.back s1 (k.ok R1))

/-! ### freezing -/
def frz : EV → Rho → Option (D × Rho)
  | .d d, ρ => some (d, ρ)
  | .new (.lst xs), ρ => some (.lst xs, ρ)
  | .new _, _ => none
  | .slot i, ρ => match ρ[i]? with
    | some (.val d) => some (d, ρ)
    | some (.own false (.lst xs)) => some (.lst xs, ρ.set i (.val (.lst xs)))
    | _ => none
theorem get_set {α : Type} {l : List α} {i j : Nat} {x : α} : (l.set i x)[j]? = if i = j then (if j < l.length then some x else none) else l[j]? := by
  rw [List.getElem?_set]
  split
  · rename_i e; subst e; rfl
  · rfl
theorem frz_ok {S0 : Hp} {v : V} {ev : EV} {d : D} {ρ2 : Rho} (s : Stp S0 H0 σ0 ρ0 S H σ ρ) (R : Rel K S H σ ρ) (h : EvOk K σ0 ρ0 H0 S H σ ρ v ev) (e : frz ev ρ = some (d, ρ2)) :
    ∃ S2, Stp S0 H0 σ0 ρ0 S2 H σ ρ2 ∧ Rel K S2 H σ ρ2 ∧ Den K S2 d v ∧ Same S S2 := by
  cases ev with
  | d d' => simp only [frz, Option.some.injEq, Prod.mk.injEq] at e; obtain ⟨rfl, rfl⟩ := e; exact ⟨S, s, R, h, Same.refl _⟩
  | new o =>
    cases o with
    | dic _ => simp [frz] at e
    | lst xs =>
      simp only [frz, Option.some.injEq, Prod.mk.injEq] at e; obtain ⟨rfl, rfl⟩ := e
      obtain ⟨a, ho, e1, e2, e3, e4, ⟨vs, rfl, l⟩, e6⟩ := h
      have sm : Same S (upd S a (.lst vs)) := same_upd e3
      have at_ : ∀ b u, upd S a (.lst vs) b = some u → S b = some u ∨ b = a := fun b u q => by
        by_cases z : b = a
        · exact .inr z
        · rw [upd_ne z] at q; exact .inl q
      refine ⟨upd S a (.lst vs), ⟨s.ex.trans sm, s.fr, s.th, fun b u q => ?_, s.ow, s.owf, s.bo, s.ln⟩, ⟨fun b u q => ?_, R.len, fun i c q => ?_, R.dist⟩, ?_, sm⟩
      · rcases at_ b u q with z | rfl
        · exact s.nw b u z
        · rcases e6 with z | z
          · exact .inr (.inl z)
          · exact .inr (.inr z.own)
      · by_cases z : b = a
        · subst z; rw [upd_same] at q; rw [← q]; exact e2
        · rw [upd_ne z] at q; exact R.sub b u q
      · have k := R.cell i c q
        cases c with
        | no => trivial
        | val d' => obtain ⟨u, k1, k2⟩ := k; exact ⟨u, k1, k2.same sm⟩
        | own b o =>
          obtain ⟨a', ho', k1, k2, k3, k4⟩ := k
          refine ⟨a', ho', k1, k2, ?_, k4.same sm⟩
          have ne : a' ≠ a := fun z => e4 ⟨i, b, o, q, by rw [← z]; exact k1⟩
          rw [upd_ne ne]; exact k3
      · unfold Den
        exact ⟨a, vs, e1, SqL.of upd_same, l.same sm⟩
  | slot i =>
    have hv : σ[i]? = some (some v) := h
    simp only [frz] at e
    cases q : ρ[i]? with
    | none => rw [q] at e; cases e
    | some c =>
      rw [q] at e
      have k := R.cell i c q
      cases c with
      | no => cases e
      | val d' =>
        simp only [Option.some.injEq, Prod.mk.injEq] at e; obtain ⟨rfl, rfl⟩ := e
        obtain ⟨u, k1, k2⟩ := k
        rw [hv] at k1; cases k1
        exact ⟨S, s, R, k2, Same.refl _⟩
      | own b o =>
        cases b with
        | true => cases o <;> cases e
        | false =>
          cases o with
          | dic _ => cases e
          | lst xs =>
            simp only [Option.some.injEq, Prod.mk.injEq] at e; obtain ⟨rfl, rfl⟩ := e
            obtain ⟨a, ho, k1, k2, k3, ⟨vs, rfl, l⟩⟩ := k
            rw [hv] at k1; cases k1
            have sm : Same S (upd S a (.lst vs)) := same_upd k3
            have hi : i < ρ.length := (List.getElem?_eq_some_iff.mp q).1
            have oa : Own σ ρ a := ⟨i, false, _, q, hv⟩
            have back : ∀ b, Own σ (ρ.set i (.val (.lst xs))) b → Own σ ρ b := fun b ⟨j, bb, o, z1, z2⟩ => by
              rw [get_set] at z1
              split at z1
              · split at z1 <;> cases z1
              · exact ⟨j, bb, o, z1, z2⟩
            have backF : ∀ b, OwnF σ (ρ.set i (.val (.lst xs))) b → OwnF σ ρ b := fun b ⟨j, o, z1, z2⟩ => by
              rw [get_set] at z1
              split at z1
              · split at z1 <;> cases z1
              · exact ⟨j, o, z1, z2⟩
            refine ⟨upd S a (.lst vs), ⟨s.ex.trans sm, s.fr, s.th, fun b u z => ?_, fun b z => s.ow b (back b z), fun b z => s.owf b (backF b z), fun j o z => ?_, by rw [List.length_set]; exact s.ln⟩, ⟨fun b u z => ?_, by rw [List.length_set]; exact R.len, fun j c z => ?_, fun j1 j2 b1 b2 o1 o2 z1 z2 z3 => ?_⟩, ?_, sm⟩
            · by_cases ba : b = a
              · subst ba
                rcases s.ow b oa with y | y
                · exact .inr (.inr y)
                · exact .inr (.inl y)
              · rw [upd_ne ba] at z; exact s.nw b u z
            · obtain ⟨y1, o1, y2⟩ := s.bo j o z
              refine ⟨y1, o1, ?_⟩
              have ne : i ≠ j := fun w => by subst w; rw [q] at y2; cases y2
              rw [get_set, if_neg ne]; exact y2
            · by_cases ba : b = a
              · subst ba; rw [upd_same] at z; rw [← z]; exact k2
              · rw [upd_ne ba] at z; exact R.sub b u z
            · by_cases ji : i = j
              · subst ji
                rw [get_set, if_pos rfl, if_pos hi] at z
                cases z
                exact ⟨_, hv, by unfold Den; exact ⟨a, vs, rfl, SqL.of upd_same, l.same sm⟩⟩
              · rw [get_set, if_neg ji] at z
                have k := R.cell j c z
                cases c with
                | no => trivial
                | val d' => obtain ⟨u, y1, y2⟩ := k; exact ⟨u, y1, y2.same sm⟩
                | own b o =>
                  obtain ⟨a', ho', y1, y2, y3, y4⟩ := k
                  refine ⟨a', ho', y1, y2, ?_, y4.same sm⟩
                  have ne : a' ≠ a := fun w => ji (R.dist i j _ _ _ _ q z (by rw [hv, y1, w]))
                  rw [upd_ne ne]; exact y3
            · rw [get_set] at z1 z2
              split at z1
              · split at z1 <;> cases z1
              · split at z2
                · split at z2 <;> cases z2
                · exact R.dist j1 j2 _ _ _ _ z1 z2 z3
            · unfold Den
              exact ⟨a, vs, rfl, SqL.of upd_same, l.same sm⟩
def mFrz (m : Rho → R EV) (ρ : Rho) : R EV := (m ρ).bind fun ev ρ1 => match frz ev ρ1 with
  | some p => .ok (.d p.1) p.2
  | none => .stuck
theorem je_frz {t : TE} {m : Rho → R EV} (ha : JE K xc W t m) : JE K xc W t (mFrz m) := by
  intro S H σ ρ Q R h
  refine ha S H σ ρ _ R (ROk.mono (ROk.bind h) (fun ea ρ1 h1 => ?_) fun _ _ z => z)
  intro S1 H1 x s1 R1 e1
  cases q : frz ea ρ1 with
  | none => rw [q] at h1; exact h1.elim
  | some p =>
    rw [q] at h1
    obtain ⟨S2, s2, R2, k, _⟩ := frz_ok s1 R1 e1 q
    exact h1 S2 H1 x s2 R2 k
end
end Mi

set_option Elab.async false
set_option linter.all false
set_option maxRecDepth 100000
set_option autoImplicit false
namespace Mi
open PySem L2
section
variable {K : PySem.W.Frag} {xc : XC} {W : WX} {S S1 S' H H1 H' H0 : Hp} {σ σ1 σ' σ0 : Sg} {ρ ρ1 ρ' ρ0 : Rho}

/-! ### displays -/
def dsOf : List EV → Option (List D)
  | [] => some []
  | .d d :: r => (dsOf r).bind fun ds => some (d :: ds)
  | _ :: _ => none
theorem dsOf_den : ∀ {vs : List V} {es : List EV} {ds : List D}, EvsOk K σ0 ρ0 H0 S H σ ρ vs es → dsOf es = some ds → DenL K S ds vs
  | [], [], ds, _, e => by simp only [dsOf, Option.some.injEq] at e; subst e; exact DenL.nil
  | v :: vs, .d d :: es, ds, h, q => by
    simp only [dsOf, Option.bind_eq_some_iff] at q
    obtain ⟨ds', q2, q3⟩ := q
    cases q3
    exact DenL.cons h.1 (dsOf_den h.2 q2)
  | v :: vs, .new _ :: es, ds, h, q => by simp [dsOf] at q
  | v :: vs, .slot _ :: es, ds, h, q => by simp [dsOf] at q
  | [], _ :: _, _, h, _ => h.elim
  | _ :: _, [], _, h, _ => h.elim
/-- a length that no line of the model stops -/
def szOk (n : Nat) : Bool := decide (n ≤ 1000000)
theorem szOk.le {n : Nat} (h : szOk n = true) : n < sizeLine := Nat.lt_of_le_of_lt (of_decide_eq_true h) (by rw [sizeLine_eq]; decide)
def mTup (ma : Rho → R (List EV)) (ρ : Rho) : R EV := (ma ρ).bind fun es ρ1 => R.of ((dsOf es).bind fun ds => if szOk ds.length then some (.d (.tup ds)) else none) ρ1
def mLst (ma : Rho → R (List EV)) (ρ : Rho) : R EV := (ma ρ).bind fun es ρ1 => R.of ((dsOf es).bind fun ds => if szOk ds.length then some (.new (.lst ds)) else none) ρ1
theorem some_ite {α : Type} {c : Bool} {x y : α} (h : (if c = true then some x else none) = some y) : c = true ∧ x = y := by
  cases c
  · simp at h
  · simp at h; exact ⟨rfl, h⟩
theorem je_tup {ta : TA} {ma : Rho → R (List EV)} (ha : JA K xc W ta ma) : JE K xc W (tTup ta) (mTup ma) := by
  intro S H σ ρ Q R h
  refine ha S H σ ρ _ R (ROk.mono (ROk.bind h) (fun ea ρ1 h1 => ?_) fun _ _ z => z)
  intro S1 H1 vs s1 R1 e1
  obtain ⟨ev, q, hq⟩ := ROk.of h1
  simp only [Option.bind_eq_some_iff] at q
  obtain ⟨ds, q1, q2⟩ := q
  obtain ⟨q3, q4⟩ := some_ite q2
  subst q4
  have l := dsOf_den e1 q1
  refine ⟨by rw [l.length]; exact Nat.le_of_lt (szOk.le q3), fun p hp => ?_⟩
  have g : Grow S1 H1 (upd S1 p (.tup vs)) (upd H1 p (.tup vs)) := Grow.stable R1.sub hp
  exact hq _ _ _ (s1.trans (.laid g)) (R1.laid g) (by show Den K _ (.tup ds) _; unfold Den; exact ⟨p, vs, rfl, SqT.of upd_same, l.same g.s⟩)
theorem je_lst {ta : TA} {ma : Rho → R (List EV)} (ha : JA K xc W ta ma) : JE K xc W (tLst ta) (mLst ma) := by
  intro S H σ ρ Q R h
  refine ha S H σ ρ _ R (ROk.mono (ROk.bind h) (fun ea ρ1 h1 => ?_) fun _ _ z => z)
  intro S1 H1 vs s1 R1 e1
  obtain ⟨ev, q, hq⟩ := ROk.of h1
  simp only [Option.bind_eq_some_iff] at q
  obtain ⟨ds, q1, q2⟩ := q
  obtain ⟨q3, q4⟩ := some_ite q2
  subst q4
  have l := dsOf_den e1 q1
  refine ⟨by rw [l.length]; exact Nat.le_of_lt (szOk.le q3), fun p hp => ?_⟩
  have g : Grow S1 H1 S1 (upd H1 p (.lst vs)) := Grow.loose R1.sub hp
  have k : EvG K H1 S1 (upd H1 p (.lst vs)) (.ref p) (.new (.lst ds)) := ⟨p, _, rfl, hp, upd_same, L2.Same.free R1.sub hp, ⟨vs, rfl, l⟩⟩
  exact hq _ _ _ (s1.trans (.laid g)) (R1.laid g) (EvOk.back s1 (k.ok R1))

/-! ### tests, ways -/
def mTst (m : Rho → R EV) (ρ : Rho) : R Bool := (m ρ).bind fun ev ρ1 => match ev with
  | .d (.bl b) => .ok b ρ1
  | _ => .stuck
theorem jt_test {t : TE} {m : Rho → R EV} (ha : JE K xc W t m) : JT K xc W (tB t) (mTst m) := by
  intro S H σ ρ Q R h
  refine ha S H σ ρ _ R (ROk.mono (ROk.bind h) (fun ev ρ1 h1 => ?_) fun _ _ z => z)
  intro S1 H1 x s1 R1 e1
  match ev, h1, e1 with
  | .d (.bl b), h1, e1 =>
    have e : x = .bl b := by have z : Den K S1 (.bl b) x := e1; unfold Den at z; exact z
    exact ⟨b, e, h1 S1 H1 s1 R1⟩
  | .d .non, h1, _ => exact h1.elim
  | .d (.int _), h1, _ => exact h1.elim
  | .d (.str _), h1, _ => exact h1.elim
  | .d (.ref _), h1, _ => exact h1.elim
  | .d (.tup _), h1, _ => exact h1.elim
  | .d (.lst _), h1, _ => exact h1.elim
  | .new _, h1, _ => exact h1.elim
  | .slot _, h1, _ => exact h1.elim
theorem jt_test' {t : TE} {m : Rho → R EV} (ha : JE K xc W t m) : JT K xc W (tTest t) (mTst m) := jt_test ha
def mAndT (m n : Rho → R Bool) (ρ : Rho) : R Bool := (m ρ).bind fun b ρ1 => match b with | true => n ρ1 | false => .ok false ρ1
def mOrT (m n : Rho → R Bool) (ρ : Rho) : R Bool := (m ρ).bind fun b ρ1 => match b with | true => .ok true ρ1 | false => n ρ1
def mNotT (m : Rho → R Bool) (ρ : Rho) : R Bool := (m ρ).bind fun b ρ1 => .ok (!b) ρ1
theorem TPost.step {Q : Bool → Hp → Prop} {b : Bool} {ρ2 : Rho} (h : TPost K S H σ ρ Q b ρ2) (s : Stp S H σ ρ S1 H1 σ ρ1) : TPost K S1 H1 σ ρ1 Q b ρ2 := fun S' H' s2 => h S' H' (s.trans s2)
theorem jt_and {t u : TT} {m n : Rho → R Bool} (ha : JT K xc W t m) (hb : JT K xc W u n) : JT K xc W (tAnd t u) (mAndT m n) := by
  intro S H σ ρ Q R h
  refine ha S H σ ρ _ R (ROk.mono (ROk.bind h) (fun b ρ1 h1 => ?_) fun _ _ z => z)
  intro S1 H1 s1 R1
  cases b with
  | false => rw [if_neg Bool.false_ne_true]; exact h1 S1 H1 s1 R1
  | true => rw [if_pos rfl]; exact hb S1 H1 σ ρ1 _ R1 (ROk.mono h1 (fun _ _ z => z.step s1) fun _ _ z => z.step s1)
theorem jt_or {t u : TT} {m n : Rho → R Bool} (ha : JT K xc W t m) (hb : JT K xc W u n) : JT K xc W (tOr t u) (mOrT m n) := by
  intro S H σ ρ Q R h
  refine ha S H σ ρ _ R (ROk.mono (ROk.bind h) (fun b ρ1 h1 => ?_) fun _ _ z => z)
  intro S1 H1 s1 R1
  cases b with
  | true => rw [if_pos rfl]; exact h1 S1 H1 s1 R1
  | false => rw [if_neg Bool.false_ne_true]; exact hb S1 H1 σ ρ1 _ R1 (ROk.mono h1 (fun _ _ z => z.step s1) fun _ _ z => z.step s1)
theorem jt_not {t : TT} {m : Rho → R Bool} (ha : JT K xc W t m) : JT K xc W (tNot t) (mNotT m) := by
  intro S H σ ρ Q R h
  refine ha S H σ ρ _ R (ROk.mono (ROk.bind h) (fun b ρ1 h1 => ?_) fun _ _ z => z)
  exact fun S1 H1 s1 R1 => h1 S1 H1 s1 R1
theorem EPost.step {Q : VK} {e : EV} {ρ2 : Rho} (h : EPost K S H σ ρ Q e ρ2) (s : Stp S H σ ρ S1 H1 σ ρ1) : EPost K S1 H1 σ ρ1 Q e ρ2 := fun S' H' v s2 r k => h S' H' v (s.trans s2) r (EvOk.back s k)
/-- .. as values -/
def mAndV (m n : Rho → R EV) (ρ : Rho) : R EV := (mTst m ρ).bind fun b ρ1 => match b with | true => n ρ1 | false => .ok (.d (.bl false)) ρ1
def mOrV (m n : Rho → R EV) (ρ : Rho) : R EV := (mTst m ρ).bind fun b ρ1 => match b with | true => .ok (.d (.bl true)) ρ1 | false => n ρ1
def mNotV (m : Rho → R EV) (ρ : Rho) : R EV := (mTst m ρ).bind fun b ρ1 => .ok (.d (.bl (!b))) ρ1
theorem je_andV {ta tb : TE} {m n : Rho → R EV} (ha : JE K xc W ta m) (hb : JE K xc W tb n) : JE K xc W (tAndV ta tb) (mAndV m n) := by
  intro S H σ ρ Q R h
  refine jt_test ha S H σ ρ (fun c H1 => if c = true then tb σ H1 Q else Q (.bl false) H1) R (ROk.mono (ROk.bind h) (fun b ρ1 h1 => ?_) fun _ _ z => z)
  intro S1 H1 s1 R1
  cases b with
  | false => rw [if_neg Bool.false_ne_true]; exact h1 S1 H1 _ s1 R1 (by show Den K _ _ _; unfold Den; rfl)
  | true => rw [if_pos rfl]; exact hb S1 H1 σ ρ1 _ R1 (ROk.mono h1 (fun _ _ z => z.step s1) fun _ _ z => z.step s1)
theorem je_orV {ta tb : TE} {m n : Rho → R EV} (ha : JE K xc W ta m) (hb : JE K xc W tb n) : JE K xc W (tOrV ta tb) (mOrV m n) := by
  intro S H σ ρ Q R h
  refine jt_test ha S H σ ρ (fun c H1 => if c = true then Q (.bl true) H1 else tb σ H1 Q) R (ROk.mono (ROk.bind h) (fun b ρ1 h1 => ?_) fun _ _ z => z)
  intro S1 H1 s1 R1
  cases b with
  | true => rw [if_pos rfl]; exact h1 S1 H1 _ s1 R1 (by show Den K _ _ _; unfold Den; rfl)
  | false => rw [if_neg Bool.false_ne_true]; exact hb S1 H1 σ ρ1 _ R1 (ROk.mono h1 (fun _ _ z => z.step s1) fun _ _ z => z.step s1)
theorem je_notV {ta : TE} {m : Rho → R EV} (ha : JE K xc W ta m) : JE K xc W (tNotV ta) (mNotV m) := by
  intro S H σ ρ Q R h
  refine jt_test ha S H σ ρ (fun c H1 => Q (.bl (!c)) H1) R (ROk.mono (ROk.bind h) (fun b ρ1 h1 => ?_) fun _ _ z => z)
  exact fun S1 H1 s1 R1 => h1 S1 H1 _ s1 R1 (by show Den K _ _ _; unfold Den; rfl)
def mIfE (c : Rho → R Bool) (m n : Rho → R EV) (ρ : Rho) : R EV := (c ρ).bind fun b ρ1 => match b with | true => m ρ1 | false => n ρ1
theorem je_if {t : TT} {ta tb : TE} {c : Rho → R Bool} {m n : Rho → R EV} (hc : JT K xc W t c) (ha : JE K xc W ta m) (hb : JE K xc W tb n) : JE K xc W (tIf t ta tb) (mIfE c m n) := by
  intro S H σ ρ Q R h
  refine hc S H σ ρ _ R (ROk.mono (ROk.bind h) (fun b ρ1 h1 => ?_) fun _ _ z => z)
  intro S1 H1 s1 R1
  cases b with
  | true => rw [if_pos rfl]; exact ha S1 H1 σ ρ1 _ R1 (ROk.mono h1 (fun _ _ z => z.step s1) fun _ _ z => z.step s1)
  | false => rw [if_neg Bool.false_ne_true]; exact hb S1 H1 σ ρ1 _ R1 (ROk.mono h1 (fun _ _ z => z.step s1) fun _ _ z => z.step s1)
/-- truth of any value -/
def truD : D → Option Bool
  | .non => some false
  | .bl b => some b
  | .int i => some (i != 0)
  | .tup ds => some (!ds.isEmpty)
  | .lst ds => some (!ds.isEmpty)
  | _ => none
def mTru (m : Rho → R EV) (ρ : Rho) : R Bool := (m ρ).bind fun ev ρ1 => R.of ((rd ρ1 ev).bind truD) ρ1

/-! ### statements -/
def mSeq (m n : Rho → Out) (ρ : Rho) : Out := match m ρ with
  | .nx ρ1 => n ρ1
  | o => o
theorem js_seq {t u : TS} {m n : Rho → Out} (ha : JS K xc W t m) (hb : JS K xc W u n) : JS K xc W (tSeq t u) (mSeq m n) := by
  intro S H σ ρ D R h
  refine ha S H σ ρ { D with nx := u D } R ?_
  unfold mSeq at h
  cases q : m ρ with
  | nx ρ1 =>
    rw [q] at h
    exact fun S1 H1 σ1 s1 R1 => hb S1 H1 σ1 ρ1 D R1 (h.step s1)
  | rt e ρ1 => rw [q] at h; exact h
  | bk ρ1 => rw [q] at h; exact h
  | ct ρ1 => rw [q] at h; exact h
  | exn x ρ1 => rw [q] at h; exact h
  | stuck => rw [q] at h; exact h
def mNext (ρ : Rho) : Out := .nx ρ
theorem js_next : JS K xc W tNext mNext := fun S H σ ρ D R h => h S H σ .refl R
def mCont (ρ : Rho) : Out := .ct ρ
theorem js_cont : JS K xc W tCont mCont := fun S H σ ρ D R h => h S H σ .refl R
def mBrk (ρ : Rho) : Out := .bk ρ
theorem js_brk : JS K xc W tBreak mBrk := fun S H σ ρ D R h => h S H σ .refl R
def R.out {α : Type} (r : R α) (f : α → Rho → Out) : Out := match r with
  | .ok a ρ => f a ρ
  | .exn x ρ => .exn x ρ
  | .stuck => .stuck
theorem SPost.out {α : Type} {D : Ends} {r : R α} {f : α → Rho → Out} (h : SPost K xc W D S H σ ρ (r.out f)) : ROk (fun a ρ1 => SPost K xc W D S H σ ρ (f a ρ1)) (XPost K xc W S H σ ρ) r := by
  cases r <;> exact h
def mIfS (c : Rho → R Bool) (m n : Rho → Out) (ρ : Rho) : Out := (c ρ).out fun b ρ1 => match b with | true => m ρ1 | false => n ρ1
theorem js_if {t : TT} {ta tb : TS} {c : Rho → R Bool} {m n : Rho → Out} (hc : JT K xc W t c) (ha : JS K xc W ta m) (hb : JS K xc W tb n) : JS K xc W (tIfS t ta tb) (mIfS c m n) := by
  intro S H σ ρ D R h
  refine hc S H σ ρ _ R (ROk.mono (SPost.out h) (fun b ρ1 h1 => ?_) fun _ _ z => z)
  intro S1 H1 s1 R1
  cases b with
  | true => rw [if_pos rfl]; exact ha S1 H1 σ ρ1 D R1 (h1.step s1)
  | false => rw [if_neg Bool.false_ne_true]; exact hb S1 H1 σ ρ1 D R1 (h1.step s1)
def mDrop (m : Rho → R EV) (ρ : Rho) : Out := (m ρ).out fun _ ρ1 => .nx ρ1
theorem js_drop {t : TE} {m : Rho → R EV} (ha : JE K xc W t m) : JS K xc W (tDrop t) (mDrop m) := by
  intro S H σ ρ D R h
  refine ha S H σ ρ _ R (ROk.mono (SPost.out h) (fun ev ρ1 h1 => ?_) fun _ _ z => z)
  exact fun S1 H1 v s1 R1 _ => h1 S1 H1 σ s1 R1

/-- an owned object handed out of its slot -/
def giveOut (ev : EV) (ρ : Rho) : Option (EV × Rho) := match ev with
  | .slot i => match ρ[i]? with
    | some (.val d) => some (.d d, ρ)
    | some (.own false o) => some (.new o, ρ.set i .no)
    | _ => none
  | e => some (e, ρ)
theorem give_ok {S0 : Hp} {v : V} {ev ev2 : EV} {ρ2 : Rho} (s : Stp S0 H0 σ0 ρ0 S H σ ρ) (R : Rel K S H σ ρ) (h : EvOk K σ0 ρ0 H0 S H σ ρ v ev) (e : giveOut ev ρ = some (ev2, ρ2)) :
    Stp S0 H0 σ0 ρ0 S H σ ρ2 ∧ Rel K S H σ ρ2 ∧ EvOk K σ0 ρ0 H0 S H σ ρ2 v ev2 ∧ ∀ i, ev2 ≠ .slot i := by
  cases ev with
  | d d => simp only [giveOut, Option.some.injEq, Prod.mk.injEq] at e; obtain ⟨rfl, rfl⟩ := e; exact ⟨s, R, h, fun i z => nomatch z⟩
  | new o => simp only [giveOut, Option.some.injEq, Prod.mk.injEq] at e; obtain ⟨rfl, rfl⟩ := e; exact ⟨s, R, h, fun i z => nomatch z⟩
  | slot i =>
    have hv : σ[i]? = some (some v) := h
    simp only [giveOut] at e
    cases q : ρ[i]? with
    | none => rw [q] at e; cases e
    | some c =>
      rw [q] at e
      have k := R.cell i c q
      cases c with
      | no => cases e
      | val d' =>
        simp only [Option.some.injEq, Prod.mk.injEq] at e; obtain ⟨rfl, rfl⟩ := e
        obtain ⟨u, k1, k2⟩ := k
        rw [hv] at k1; cases k1
        exact ⟨s, R, k2, fun i z => nomatch z⟩
      | own b o =>
        cases b with
        | true => cases e
        | false =>
          simp only [Option.some.injEq, Prod.mk.injEq] at e; obtain ⟨rfl, rfl⟩ := e
          obtain ⟨a, ho, k1, k2, k3, k4⟩ := k
          rw [hv] at k1; cases k1
          have hi : i < ρ.length := (List.getElem?_eq_some_iff.mp q).1
          have back : ∀ b, Own σ (ρ.set i .no) b → Own σ ρ b ∧ b ≠ a := fun b ⟨j, bb, o, z1, z2⟩ => by
            rw [get_set] at z1
            split at z1
            · split at z1 <;> cases z1
            · rename_i ne
              exact ⟨⟨j, bb, o, z1, z2⟩, fun w => ne (R.dist i j _ _ _ _ q z1 (by rw [hv, z2, w]))⟩
          have backF : ∀ b, OwnF σ (ρ.set i .no) b → OwnF σ ρ b := fun b ⟨j, o, z1, z2⟩ => by
            rw [get_set] at z1
            split at z1
            · split at z1 <;> cases z1
            · exact ⟨j, o, z1, z2⟩
          refine ⟨⟨s.ex, s.fr, s.th, s.nw, fun b z => s.ow b (back b z).1, fun b z => s.owf b (backF b z), fun j o z => ?_, by rw [List.length_set]; exact s.ln⟩, ⟨R.sub, by rw [List.length_set]; exact R.len, fun j c z => ?_, fun j1 j2 b1 b2 o1 o2 z1 z2 z3 => ?_⟩, ⟨a, ho, rfl, k2, k3, fun z => (back a z).2 rfl, k4, (s.owf a ⟨i, o, q, hv⟩).symm⟩, fun i z => nomatch z⟩
          · obtain ⟨y1, o1, y2⟩ := s.bo j o z
            refine ⟨y1, o1, ?_⟩
            have ne : i ≠ j := fun w => by subst w; rw [q] at y2; cases y2
            rw [get_set, if_neg ne]; exact y2
          · rw [get_set] at z
            split at z
            · split at z
              · cases z; trivial
              · cases z
            · exact R.cell j c z
          · rw [get_set] at z1 z2
            split at z1
            · split at z1 <;> cases z1
            · split at z2
              · split at z2 <;> cases z2
              · exact R.dist j1 j2 _ _ _ _ z1 z2 z3
def mRet (m : Rho → R EV) (ρ : Rho) : Out := (m ρ).out fun ev ρ1 => match giveOut ev ρ1 with
  | some p => .rt p.1 p.2
  | none => .stuck
theorem js_ret {t : TE} {m : Rho → R EV} (ha : JE K xc W t m) : JS K xc W (tRet t) (mRet m) := by
  intro S H σ ρ D R h
  refine ha S H σ ρ _ R (ROk.mono (SPost.out h) (fun ev ρ1 h1 => ?_) fun _ _ z => z)
  intro S1 H1 v s1 R1 e1
  cases q : giveOut ev ρ1 with
  | none => rw [q] at h1; exact h1.elim
  | some p =>
    rw [q] at h1
    obtain ⟨s2, R2, k, _⟩ := give_ok s1 R1 e1 (ev2 := p.1) (ρ2 := p.2) (by rw [q])
    exact h1 S1 H1 σ v s2 R2 k
def mRetN (ρ : Rho) : Out := .rt (.d .non) ρ
theorem js_retN : JS K xc W tRetN mRetN := fun S H σ ρ D R h => h S H σ .non .refl R (by show Den K S .non .non; unfold Den; rfl)

/-- a slot gets a value that is data or a new object -/
def putC (i : Nat) (ev : EV) (ρ : Rho) : Option Rho := match ρ[i]? with
  | none => none
  | some (.own true _) => none
  | some _ => match ev with
    | .d d => some (ρ.set i (.val d))
    | .new o => some (ρ.set i (.own false o))
    | .slot _ => none
theorem put_ok {S0 : Hp} {v : V} {ev : EV} {i : Nat} {ρ2 : Rho} (s : Stp S0 H0 σ0 ρ0 S H σ ρ) (R : Rel K S H σ ρ) (h : EvOk K σ0 ρ0 H0 S H σ ρ v ev) (e : putC i ev ρ = some ρ2) :
    Stp S0 H0 σ0 ρ0 S H (σ.set i (some v)) ρ2 ∧ Rel K S H (σ.set i (some v)) ρ2 := by
  unfold putC at e
  cases q : ρ[i]? with
  | none => rw [q] at e; cases e
  | some c0 =>
    rw [q] at e
    have hi : i < ρ.length := (List.getElem?_eq_some_iff.mp q).1
    have hi' : i < σ.length := by rw [R.len]; exact hi
    have nb : ∀ o, c0 ≠ .own true o := fun o z => by subst z; cases e
    have sv : (σ.set i (some v))[i]? = some (some v) := by rw [get_set, if_pos rfl, if_pos hi']
    have so : ∀ j, i ≠ j → (σ.set i (some v))[j]? = σ[j]? := fun j ne => by rw [get_set, if_neg ne]
    have core : ∀ (c : Cell), ρ2 = ρ.set i c → CellOk K S H (some (some v)) c → (∀ b o, c = .own b o → b = false ∧ ∃ a, v = .ref a ∧ ¬ Own σ ρ a ∧ (H0 a = none ∨ OwnF σ0 ρ0 a)) →
        Stp S0 H0 σ0 ρ0 S H (σ.set i (some v)) ρ2 ∧ Rel K S H (σ.set i (some v)) ρ2 := fun c e2 kc ko => by
      subst e2
      have own : ∀ b, Own (σ.set i (some v)) (ρ.set i c) b → Own σ ρ b ∨ (H0 b = none ∨ OwnF σ0 ρ0 b) := fun b ⟨j, bb, o, z1, z2⟩ => by
        by_cases ji : i = j
        · subst ji
          rw [get_set, if_pos rfl, if_pos hi] at z1
          obtain ⟨_, a, w1, w2, w3⟩ := ko bb o (Option.some.inj z1)
          rw [sv, w1] at z2
          cases z2
          exact .inr w3
        · rw [get_set, if_neg ji] at z1
          rw [so j ji] at z2
          exact .inl ⟨j, bb, o, z1, z2⟩
      have ownF : ∀ b, OwnF (σ.set i (some v)) (ρ.set i c) b → OwnF σ ρ b ∨ (H0 b = none ∨ OwnF σ0 ρ0 b) := fun b ⟨j, o, z1, z2⟩ => by
        by_cases ji : i = j
        · subst ji
          rw [get_set, if_pos rfl, if_pos hi] at z1
          obtain ⟨_, a, w1, w2, w3⟩ := ko _ o (Option.some.inj z1)
          rw [sv, w1] at z2
          cases z2
          exact .inr w3
        · rw [get_set, if_neg ji] at z1
          rw [so j ji] at z2
          exact .inl ⟨j, o, z1, z2⟩
      refine ⟨⟨s.ex, s.fr, s.th, s.nw, fun b z => ?_, fun b z => ?_, fun j o z => ?_, by rw [List.length_set]; exact s.ln⟩, ⟨R.sub, by rw [List.length_set, List.length_set]; exact R.len, fun j cj z => ?_, fun j1 j2 b1 b2 o1 o2 z1 z2 z3 => ?_⟩⟩
      · rcases own b z with y | y | y
        · exact s.ow b y
        · exact .inr y
        · exact .inl y.own
      · rcases ownF b z with y | y | y
        · exact s.owf b y
        · exact .inr y
        · exact .inl y
      · obtain ⟨y1, o1, y2⟩ := s.bo j o z
        have ne : i ≠ j := fun w => by subst w; rw [q] at y2; exact nb o1 (Option.some.inj y2)
        exact ⟨(so j ne).trans y1, o1, by rw [get_set, if_neg ne]; exact y2⟩
      · by_cases ji : i = j
        · subst ji
          rw [get_set, if_pos rfl, if_pos hi] at z
          cases z
          rw [sv]; exact kc
        · rw [get_set, if_neg ji] at z
          rw [so j ji]; exact R.cell j cj z
      · by_cases e1 : i = j1
        · by_cases e2 : i = j2
          · rw [← e1, ← e2]
          · subst e1
            rw [get_set, if_pos rfl, if_pos hi] at z1
            rw [get_set, if_neg e2] at z2
            obtain ⟨_, a, w1, w2, w3⟩ := ko _ _ (Option.some.inj z1)
            rw [sv, so j2 e2, w1] at z3
            exact (w2 ⟨j2, b2, o2, z2, z3.symm⟩).elim
        · by_cases e2 : i = j2
          · subst e2
            rw [get_set, if_pos rfl, if_pos hi] at z2
            rw [get_set, if_neg e1] at z1
            obtain ⟨_, a, w1, w2, w3⟩ := ko _ _ (Option.some.inj z2)
            rw [sv, so j1 e1, w1] at z3
            exact (w2 ⟨j1, b1, o1, z1, z3⟩).elim
          · rw [get_set, if_neg e1] at z1
            rw [get_set, if_neg e2] at z2
            rw [so j1 e1, so j2 e2] at z3
            exact R.dist j1 j2 _ _ _ _ z1 z2 z3
    cases ev with
    | d d =>
      have e4 : ρ.set i (.val d) = ρ2 := by
        cases c0 with
        | no => simpa using e
        | val _ => simpa using e
        | own b o => cases b with
          | true => exact (nb o rfl).elim
          | false => simpa using e
      exact core _ e4.symm ⟨v, rfl, h⟩ fun b o z => nomatch z
    | new o =>
      have e4 : ρ.set i (.own false o) = ρ2 := by
        cases c0 with
        | no => simpa using e
        | val _ => simpa using e
        | own b o => cases b with
          | true => exact (nb o rfl).elim
          | false => simpa using e
      obtain ⟨a, ho, k1, k2, k3, k4, k5, k6⟩ := h
      exact core _ e4.symm ⟨a, ho, by rw [k1], k2, k3, k5⟩ fun b o z => by
        cases z; exact ⟨rfl, a, k1, k4, k6⟩
    | slot j =>
      cases c0 with
      | no => simp at e
      | val _ => simp at e
      | own b o => cases b <;> simp at e
/-- x = e -/
def setC (i : Nat) (ev : EV) (ρ : Rho) : Option Rho := (giveOut ev ρ).bind fun p => putC i p.1 p.2
theorem set_ok {S0 : Hp} {v : V} {ev : EV} {i : Nat} {ρ2 : Rho} (s : Stp S0 H0 σ0 ρ0 S H σ ρ) (R : Rel K S H σ ρ) (h : EvOk K σ0 ρ0 H0 S H σ ρ v ev) (e : setC i ev ρ = some ρ2) :
    Stp S0 H0 σ0 ρ0 S H (σ.set i (some v)) ρ2 ∧ Rel K S H (σ.set i (some v)) ρ2 := by
  simp only [setC, Option.bind_eq_some_iff] at e
  obtain ⟨p, e1, e2⟩ := e
  obtain ⟨s2, R2, k, _⟩ := give_ok s R h (ev2 := p.1) (ρ2 := p.2) e1
  exact put_ok s2 R2 k e2
def Out.of (o : Option Rho) : Out := match o with
  | some ρ => .nx ρ
  | none => .stuck
def mSet (i : Nat) (m : Rho → R EV) (ρ : Rho) : Out := (m ρ).out fun ev ρ1 => Out.of (setC i ev ρ1)
theorem js_set {i : Nat} {t : TE} {m : Rho → R EV} (ha : JE K xc W t m) : JS K xc W (tAsg t (gName i)) (mSet i m) := by
  intro S H σ ρ D R h
  refine ha S H σ ρ _ R (ROk.mono (SPost.out h) (fun ev ρ1 h1 => ?_) fun _ _ z => z)
  intro S1 H1 v s1 R1 e1
  cases q : setC i ev ρ1 with
  | none => rw [q] at h1; exact h1.elim
  | some ρ2 =>
    rw [q] at h1
    obtain ⟨s2, R2⟩ := set_ok s1 R1 e1 q
    exact h1 S1 H1 _ s2 R2
/-- a target that is a name -/
def gtN (i : Nat) (d : D) (ρ : Rho) : Option Rho := putC i (.d d) ρ
theorem jg_name (i : Nat) : JG K (gName i) [i] (gtN i) := fun S H σ ρ v d ρ' Q R hd e h => by
  obtain ⟨s2, R2⟩ := put_ok (ev := .d d) .refl R hd e
  exact h _ s2 R2 ⟨by simp, fun j hj => by
    rw [get_set, if_neg fun z => hj (by simp [z])]⟩

/-! ### loops -/
def forL (mt : D → Rho → Option Rho) (b : Rho → Out) : List D → Rho → Out
  | [], ρ => .nx ρ
  | d :: ds, ρ => match mt d ρ with
    | none => .stuck
    | some ρ1 => match b ρ1 with
      | .nx ρ2 => forL mt b ds ρ2
      | .ct ρ2 => forL mt b ds ρ2
      | .bk ρ2 => .nx ρ2
      | o => o
def mFor (mi : Rho → R (List D)) (mt : D → Rho → Option Rho) (b : Rho → Out) (ρ : Rho) : Out := (mi ρ).out fun ds ρ1 => forL mt b ds ρ1
theorem js_for {wi : TI} {g : TG} {tb : TS} {mi : Rho → R (List D)} {sl : List Nat} {mt : D → Rho → Option Rho} {b : Rho → Out} (hi : JI K xc W wi mi) (hg : JG K g sl mt) (hb : JS K xc W tb b) :
    JS K xc W (tFor wi g tb) (mFor mi mt b) := by
  intro S H σ ρ D R h
  refine hi S H σ ρ _ R (ROk.mono (SPost.out h) (fun ds ρ1 h1 => ?_) fun _ _ z => z)
  intro S1 H1 J s1 R1 ok
  refine ⟨fun i m σ' H' => ∃ S' ρ', Same S1 S' ∧ Stp S1 H1 σ ρ1 S' H' σ' ρ' ∧ Rel K S' H' σ' ρ' ∧ m = ds.length - i ∧ i ≤ ds.length ∧ SPost K xc W D S' H' σ' ρ' (forL mt b (ds.drop i) ρ'),
    ⟨ds.length, S1, ρ1, Same.refl _, .refl, R1, rfl, Nat.zero_le _, by simpa using h1.step s1⟩, ?_⟩
  rintro i m σ' H' ⟨S', ρ', sm, s2, R2, rfl, hi2, h2⟩
  obtain ⟨go, stop⟩ := ok S' H' sm R2.sub i
  by_cases c : i < ds.length
  · obtain ⟨g1, y⟩ := go c
    refine .inr ⟨g1, fun σ3 H3 => ∃ S3 ρ3, Same S1 S3 ∧ Stp S1 H1 σ ρ1 S3 H3 σ3 ρ3 ∧ Rel K S3 H3 σ3 ρ3 ∧ SPost K xc W D S3 H3 σ3 ρ3 (forL mt b (ds.drop (i + 1)) ρ3), ?_, ?_⟩
    · rintro σ3 H3 ⟨S3, ρ3, a1, a2, a3, a4⟩
      exact ⟨ds.length - (i + 1), by omega, S3, ρ3, a1, a2, a3, rfl, c, a4⟩
    · intro x H3 yx
      obtain ⟨S3, gr, d, ed, hd⟩ := y x H3 yx
      have dr : ds.drop i = d :: ds.drop (i + 1) := by
        rw [List.drop_eq_getElem_cons c]
        congr 1
        rw [List.getElem?_eq_getElem c] at ed
        exact Option.some.inj ed
      rw [dr] at h2
      simp only [forL] at h2
      have R3 := R2.laid gr
      have s3 : Stp S1 H1 σ ρ1 S3 H3 σ' ρ' := s2.trans (.laid gr)
      have h3 := h2.step (.laid gr : Stp S' H' σ' ρ' S3 H3 σ' ρ')
      cases q : mt d ρ' with
      | none => rw [q] at h3; exact h3.elim
      | some ρ4 =>
        simp only [q] at h3
        refine hg S3 H3 σ' ρ' x d ρ4 _ R3 hd q fun σ4 s4 R4 _ => ?_
        have h4 := h3.step s4
        have s5 := s3.trans s4
        refine hb S3 H3 σ4 ρ4 _ R4 ?_
        cases qb : b ρ4 with
        | nx ρ5 =>
          simp only [qb] at h4
          exact fun S6 H6 σ6 s6 R6 => ⟨S6, ρ5, (sm.trans gr.s).trans s6.ex, s5.trans s6, R6, h4.step s6⟩
        | ct ρ5 =>
          simp only [qb] at h4
          exact fun S6 H6 σ6 s6 R6 => ⟨S6, ρ5, (sm.trans gr.s).trans s6.ex, s5.trans s6, R6, h4.step s6⟩
        | bk ρ5 => simp only [qb] at h4; exact h4
        | rt e ρ5 => simp only [qb] at h4; exact h4
        | exn x ρ5 => simp only [qb] at h4; exact h4
        | stuck => simp only [qb] at h4; exact h4
  · have c' : ds.length ≤ i := Nat.le_of_not_lt c
    refine .inl ⟨stop c', ?_⟩
    rw [List.drop_eq_nil_of_le c'] at h2
    exact h2 S' H' σ' .refl R2
def whileM (c : Rho → R Bool) (b : Rho → Out) : Nat → Rho → Out
  | 0, _ => .stuck
  | n + 1, ρ => (c ρ).out fun k ρ1 => match k with
    | false => .nx ρ1
    | true => match b ρ1 with
      | .nx ρ2 => whileM c b n ρ2
      | .ct ρ2 => whileM c b n ρ2
      | .bk ρ2 => .nx ρ2
      | o => o
open Classical in
noncomputable def mWhile (c : Rho → R Bool) (b : Rho → Out) (ρ : Rho) : Out := if h : ∃ n, whileM c b n ρ ≠ .stuck then whileM c b (Classical.choose h) ρ else .stuck
theorem js_while {tc : TT} {tb : TS} {c : Rho → R Bool} {b : Rho → Out} (hc : JT K xc W tc c) (hb : JS K xc W tb b) : JS K xc W (tWhile tc tb) (mWhile c b) := by
  intro S H σ ρ D R h
  have fuel : ∃ n, SPost K xc W D S H σ ρ (whileM c b n ρ) := by
    unfold mWhile at h
    split at h
    · exact ⟨_, h⟩
    · exact h.elim
  obtain ⟨n, h⟩ := fuel
  refine ⟨fun m σ' H' => ∃ S' ρ', Rel K S' H' σ' ρ' ∧ SPost K xc W D S' H' σ' ρ' (whileM c b m ρ'), ⟨n, S, ρ, R, h⟩, ?_⟩
  rintro m σ' H' ⟨S', ρ', R', h'⟩
  cases m with
  | zero => exact h'.elim
  | succ m =>
    refine hc S' H' σ' ρ' _ R' (ROk.mono (SPost.out h') (fun k ρ1 h1 => ?_) fun _ _ z => z)
    intro S1 H1 s1 R1
    cases k with
    | false => rw [if_neg Bool.false_ne_true]; exact h1 S1 H1 σ' s1 R1
    | true =>
      rw [if_pos rfl]
      refine ⟨fun σ3 H3 => ∃ S3 ρ3, Rel K S3 H3 σ3 ρ3 ∧ SPost K xc W D S3 H3 σ3 ρ3 (whileM c b m ρ3), fun σ3 H3 z => ⟨m, Nat.lt_succ_self m, z⟩, ?_⟩
      have h2 := h1.step s1
      refine hb S1 H1 σ' ρ1 _ R1 ?_
      cases qb : b ρ1 with
      | nx ρ5 => 
        simp only [qb] at h2
        exact fun S6 H6 σ6 s6 R6 => ⟨S6, ρ5, R6, h2.step s6⟩
      | ct ρ5 => 
        simp only [qb] at h2
        exact fun S6 H6 σ6 s6 R6 => ⟨S6, ρ5, R6, h2.step s6⟩
      | bk ρ5 => simp only [qb] at h2; exact h2
      | rt e ρ5 => simp only [qb] at h2; exact h2
      | exn x ρ5 => simp only [qb] at h2; exact h2
      | stuck => simp only [qb] at h2; exact h2
theorem whileM_mono {c : Rho → R Bool} {b : Rho → Out} : ∀ {n m : Nat} {ρ : Rho}, n ≤ m → whileM c b n ρ ≠ .stuck → whileM c b m ρ = whileM c b n ρ
  | 0, m, ρ, _, h => (h rfl).elim
  | n + 1, 0, ρ, h, _ => absurd h (by omega)
  | n + 1, m + 1, ρ, hn, h => by
    have hn' : n ≤ m := by omega
    simp only [whileM] at h ⊢
    cases q : c ρ with
    | stuck => rfl
    | exn x ρ1 => rfl
    | ok k ρ1 =>
      rw [q] at h
      cases k with
      | false => rfl
      | true =>
        simp only [R.out] at h ⊢
        cases qb : b ρ1 with
        | nx ρ2 => simp only [qb] at h ⊢; exact whileM_mono hn' h
        | ct ρ2 => simp only [qb] at h ⊢; exact whileM_mono hn' h
        | bk ρ2 => rfl
        | rt e ρ2 => rfl
        | exn x ρ2 => rfl
        | stuck => rfl
theorem mWhile_eq {c : Rho → R Bool} {b : Rho → Out} {n : Nat} {ρ : Rho} {o : Out} (h : whileM c b n ρ = o) (hs : o ≠ .stuck) : mWhile c b ρ = o := by
  have ex : ∃ n, whileM c b n ρ ≠ .stuck := ⟨n, by rw [h]; exact hs⟩
  unfold mWhile
  rw [dif_pos ex]
  have h2 := Classical.choose_spec ex
  rcases Nat.le_total n (Classical.choose ex) with z | z
  · rw [whileM_mono z (by rw [h]; exact hs), h]
  · rw [← h, whileM_mono z h2]
end
end Mi

set_option Elab.async false
set_option linter.all false
set_option maxRecDepth 100000
set_option autoImplicit false
namespace Mi
open PySem L2
/-! ### the readings that a mirror gives -/
section
variable (K : PySem.W.Frag) (xc : XC) (W : WX)
def cE (m : Rho → R EV) : TE := fun σ H Q => ∃ S ρ, Rel K S H σ ρ ∧ ROk (EPost K S H σ ρ Q) (XPost K xc W S H σ ρ) (m ρ)
def cT (m : Rho → R Bool) : TT := fun σ H Q => ∃ S ρ, Rel K S H σ ρ ∧ ROk (TPost K S H σ ρ Q) (XPost K xc W S H σ ρ) (m ρ)
def cA (m : Rho → R (List EV)) : TA := fun σ H Q => ∃ S ρ, Rel K S H σ ρ ∧ ROk (APost K S H σ ρ Q) (XPost K xc W S H σ ρ) (m ρ)
def cI (m : Rho → R (List D)) : TI := fun σ H Q => ∃ S ρ, Rel K S H σ ρ ∧ ROk (IPost K S H σ ρ Q) (XPost K xc W S H σ ρ) (m ρ)
def cS (m : Rho → Out) : TS := fun D σ H => ∃ S ρ, Rel K S H σ ρ ∧ SPost K xc W D S H σ ρ (m ρ)
def cG (sl : List Nat) (m : D → Rho → Option Rho) : TG := fun v σ H Q => ∃ S ρ d ρ', Rel K S H σ ρ ∧ Den K S d v ∧ m d ρ = some ρ' ∧ ∀ σ', Stp S H σ ρ S H σ' ρ' → Rel K S H σ' ρ' → (σ'.length = σ.length ∧ ∀ j : Nat, j ∉ sl → σ'[j]? = σ[j]?) → Q σ' H
end
section
variable {K : PySem.W.Frag} {xc : XC} {W : WX}
theorem je_cE {m : Rho → R EV} : JE K xc W (cE K xc W m) m := fun S H σ ρ Q R h => ⟨S, ρ, R, h⟩
theorem jt_cT {m : Rho → R Bool} : JT K xc W (cT K xc W m) m := fun S H σ ρ Q R h => ⟨S, ρ, R, h⟩
theorem ja_cA {m : Rho → R (List EV)} : JA K xc W (cA K xc W m) m := fun S H σ ρ Q R h => ⟨S, ρ, R, h⟩
theorem ji_cI {m : Rho → R (List D)} : JI K xc W (cI K xc W m) m := fun S H σ ρ Q R h => ⟨S, ρ, R, h⟩
theorem js_cS {m : Rho → Out} : JS K xc W (cS K xc W m) m := fun S H σ ρ D R h => ⟨S, ρ, R, h⟩
theorem jg_cG {sl : List Nat} {m : D → Rho → Option Rho} : JG K (cG K sl m) sl m := fun S H σ ρ v d ρ' Q R hd e h => ⟨S, ρ, d, ρ', R, hd, e, h⟩
end
abbrev ME (X : Cx) (xc : XC) (W : WX) (e : Expr) (m : Rho → R EV) : Prop := PE X e (cE X.K xc W m)
abbrev MT (X : Cx) (xc : XC) (W : WX) (e : Expr) (m : Rho → R Bool) : Prop := PT X e (cT X.K xc W m)
abbrev MW (X : Cx) (xc : XC) (W : WX) (e : Expr) (m : Rho → R Bool) : Prop := PW X e (cT X.K xc W m)
abbrev MA (X : Cx) (xc : XC) (W : WX) (es : List Expr) (m : Rho → R (List EV)) : Prop := PA X es (cA X.K xc W m)
abbrev MI (X : Cx) (xc : XC) (W : WX) (tg e : Expr) (m : Rho → R (List D)) : Prop := PI X tg e (cI X.K xc W m)
abbrev MS (X : Cx) (xc : XC) (W : WX) (s : Stmt) (m : Rho → Out) : Prop := PS X s (cS X.K xc W m)
abbrev MSs (X : Cx) (xc : XC) (W : WX) (s : List Stmt) (m : Rho → Out) : Prop := PSs X s (cS X.K xc W m)
abbrev MG (X : Cx) (e : Expr) (sl : List Nat) (m : D → Rho → Option Rho) : Prop := PG X e (cG X.K sl m)
section
variable {X : Cx} {xc : XC} {W : WX}
theorem mkE {e : Expr} {t : TE} {m : Rho → R EV} (h : PE X e t) (j : JE X.K xc W t m) : ME X xc W e m := ⟨fun pins s σ H Q I ⟨S, ρ, R, k⟩ => h.run pins s σ H Q I (j S H σ ρ Q R k)⟩
theorem mkT {e : Expr} {t : TT} {m : Rho → R Bool} (h : PT X e t) (j : JT X.K xc W t m) : MT X xc W e m := ⟨fun pins s σ H Q I ⟨S, ρ, R, k⟩ => h.run pins s σ H Q I (j S H σ ρ Q R k)⟩
theorem mkW {e : Expr} {t : TT} {m : Rho → R Bool} (h : PW X e t) (j : JT X.K xc W t m) : MW X xc W e m := ⟨fun wh pins s σ H Q I ⟨S, ρ, R, k⟩ => h.run wh pins s σ H Q I (j S H σ ρ Q R k)⟩
theorem mkA {e : List Expr} {t : TA} {m : Rho → R (List EV)} (h : PA X e t) (j : JA X.K xc W t m) : MA X xc W e m := ⟨fun pos pins s σ H Q I ⟨S, ρ, R, k⟩ => h.run pos pins s σ H Q I (j S H σ ρ Q R k)⟩
theorem mkI {tg e : Expr} {t : TI} {m : Rho → R (List D)} (h : PI X tg e t) (j : JI X.K xc W t m) : MI X xc W tg e m := ⟨fun pins s σ H Q I ⟨S, ρ, R, k⟩ => h.run pins s σ H Q I (j S H σ ρ Q R k)⟩
theorem mkS {st : Stmt} {t : TS} {m : Rho → Out} (h : PS X st t) (j : JS X.K xc W t m) : MS X xc W st m := ⟨fun pins s σ H D I ⟨S, ρ, R, k⟩ => h.run pins s σ H D I (j S H σ ρ D R k)⟩
theorem mkSs {st : List Stmt} {t : TS} {m : Rho → Out} (h : PSs X st t) (j : JS X.K xc W t m) : MSs X xc W st m := ⟨fun pins s σ H D I ⟨S, ρ, R, k⟩ => h.run pins s σ H D I (j S H σ ρ D R k)⟩
theorem mkG {e : Expr} {sl : List Nat} {g : TG} {m : D → Rho → Option Rho} (h : PG X e g) (j : JG X.K g sl m) : MG X e sl m := ⟨fun pins s σ H v u Q I r ⟨S, ρ, d, ρ', R, hd, e, k⟩ => h.run pins s σ H v u Q I r (j S H σ ρ v d ρ' Q R hd e k)⟩
end
end Mi

set_option Elab.async false
set_option linter.all false
set_option maxRecDepth 100000
set_option autoImplicit false
namespace Mi
open PySem L2
section
variable {X : Cx} {xc : XC} {W : WX}
/-! ### names, constants -/
theorem r_var (i : Nat) {x : Str} {pos : Pos} (hN : X.N[i]? = some x := by rfl) (hv : Vis X.env.scope x := by first | exact Or.inl rfl | exact Or.inr (Or.inl rfl) | exact Or.inr (Or.inr rfl)) (hd : (x == ("__debug__" : Str)) = false := by decide)
    (hcd : (x == ("__classdict__" : Str)) = false := by decide) : ME X xc W (.Name x pos) (mVar i) := mkE (pe_var hN hv hd hcd) (je_var i)
theorem r_int {i j pos} : ME X xc W (.Constant (.int i) j pos) (mC (.int i)) := mkE pe_int (je_c fun S => by unfold Den; rfl)
theorem r_bl {b j pos} : ME X xc W (.Constant (.bool b) j pos) (mC (.bl b)) := mkE pe_bl (je_c fun S => by unfold Den; rfl)
theorem r_non {j pos} : ME X xc W (.Constant .none j pos) (mC .non) := mkE pe_non (je_c fun S => by unfold Den; rfl)
theorem r_str {x j pos} : ME X xc W (.Constant (.str x) j pos) (mC (.str x)) := mkE pe_str (je_c fun S => by unfold Den; rfl)
theorem r_glob {x : Str} {a : Addr} {pos : Pos} (hg : Gl X x) (hm : X.mg x = some (.ref a)) (hd : (x == ("__debug__" : Str)) = false := by decide) : ME X xc W (.Name x pos) (mC (.ref a)) :=
  mkE (pe_glob (v := .ref a) hg hm rfl hd) (je_c fun S => by unfold Den; rfl)

/-! ### operators -/
theorem opr_or {f : Value → Value → Sem Value} {r r' : R2} (h : OpR X f r) (h' : OpR X f r') : OpR X f (fun x y H Q => r x y H Q ∨ r' x y H Q) := by
  intro pins s σ H x y v u Q I rx ry q
  rcases q with q | q
  · exact h pins s σ H x y v u Q I rx ry q
  · exact h' pins s σ H x y v u Q I rx ry q
theorem callr_or {f : Value} {r r' : List V → Hp → VK → Prop} (h : CallR X f r) (h' : CallR X f r') : CallR X f (fun x H Q => r x H Q ∨ r' x H Q) := by
  intro pins s σ H x v Q I rx q
  rcases q with q | q
  · exact h pins s σ H x v Q I rx q
  · exact h' pins s σ H x v Q I rx q
theorem r_op {a b : Expr} {op : Operator} {pos : Pos} {r : R2} {f : D → D → Option EV} {ma mb : Rho → R EV} (ho : OpR X (binaryOp op) r) (hm : OpM X.K r f) (ha : ME X xc W a ma) (hb : ME X xc W b mb) :
    ME X xc W (.BinOp a op b pos) (mOp f ma mb) := mkE (pe_op ho ha hb) (je_op hm je_cE je_cE)
theorem r_un {a : Expr} {op : UnaryOp} {pos : Pos} {r : V → Hp → VK → Prop} {f : D → Option EV} {ma : Rho → R EV} (ho : UnR X (unaryOp op) r) (hm : UnM X.K r f) (ha : ME X xc W a ma) :
    ME X xc W (.UnaryOp op a pos) (mUn f ma) := mkE (pe_un ho ha) (je_un hm je_cE)
theorem r_cmp {a b : Expr} {op : CmpOp} {pos : Pos} {r : R2} {f : D → D → Option EV} {ma mb : Rho → R EV} (ho : OpR X (compareOp op) r) (hm : OpM X.K r f) (ha : ME X xc W a ma) (hb : ME X xc W b mb) (hmk : behindInMarks op b = false) :
    ME X xc W (.Compare a [op] [b] pos) (mOp f ma mb) := mkE (pe_cmpR ho ha hb hmk) (je_op hm je_cE je_cE)
theorem t_cmp {a b : Expr} {op : CmpOp} {pos : Pos} {r : R2} {f : D → D → Option EV} {ma mb : Rho → R EV} (ho : OpR X (compareOp op) r) (hm : OpM X.K r f) (ha : ME X xc W a ma) (hb : ME X xc W b mb) (hmk : behindInMarks op b = false) :
    MT X xc W (.Compare a [op] [b] pos) (mTst (mOp f ma mb)) := mkT (pt_cmpR ho ha hb hmk) (jt_test' (je_op hm je_cE je_cE))
end
/-- of data the value is told -/
theorem den_int {K : PySem.W.Frag} {S : Hp} {i : Int} {v : V} (h : Den K S (.int i) v) : v = .int i := by unfold Den at h; exact h
theorem den_bl {K : PySem.W.Frag} {S : Hp} {i : Bool} {v : V} (h : Den K S (.bl i) v) : v = .bl i := by unfold Den at h; exact h
theorem den_str {K : PySem.W.Frag} {S : Hp} {i : Str} {v : V} (h : Den K S (.str i) v) : v = .str i := by unfold Den at h; exact h
theorem den_non {K : PySem.W.Frag} {S : Hp} {v : V} (h : Den K S .non v) : v = .non := by unfold Den at h; exact h
theorem den_ref {K : PySem.W.Frag} {S : Hp} {a : Addr} {v : V} (h : Den K S (.ref a) v) : v = .ref a := by unfold Den at h; exact h
theorem of_int {K : PySem.W.Frag} {S : Hp} {i : Int} : Den K S (.int i) (.int i) := by unfold Den; rfl
theorem of_bl {K : PySem.W.Frag} {S : Hp} {i : Bool} : Den K S (.bl i) (.bl i) := by unfold Den; rfl
theorem of_str {K : PySem.W.Frag} {S : Hp} {i : Str} : Den K S (.str i) (.str i) := by unfold Den; rfl
theorem den_tup {K : PySem.W.Frag} {S : Hp} {ds : List D} {v : V} (h : Den K S (.tup ds) v) : ∃ a vs, v = .ref a ∧ SqT K S a vs ∧ DenL K S ds vs := by unfold Den at h; exact h
theorem of_tup {K : PySem.W.Frag} {S : Hp} {ds : List D} {a : Addr} {vs : List V} (h : SqT K S a vs) (l : DenL K S ds vs) : Den K S (.tup ds) (.ref a) := by unfold Den; exact ⟨a, vs, rfl, h, l⟩
theorem of_lst {K : PySem.W.Frag} {S : Hp} {ds : List D} {a : Addr} {vs : List V} (h : SqL K S a vs) (l : DenL K S ds vs) : Den K S (.lst ds) (.ref a) := by unfold Den; exact ⟨a, vs, rfl, h, l⟩
theorem den_lst {K : PySem.W.Frag} {S : Hp} {ds : List D} {v : V} (h : Den K S (.lst ds) v) : ∃ a vs, v = .ref a ∧ SqL K S a vs ∧ DenL K S ds vs := by unfold Den at h; exact h
theorem evg {K : PySem.W.Frag} {H S' H' : Hp} {v : V} {d : D} (h : Den K S' d v) : EvG K H S' H' v (.d d) := h
section
variable {K : PySem.W.Frag} {S H : Hp}
theorem seen_int {i : Int} {v : V} (h : Seen K S H (.int i) v) : v = .int i := den_int (show Den K S (.int i) v from h)
theorem seen_bl {i : Bool} {v : V} (h : Seen K S H (.bl i) v) : v = .bl i := den_bl (show Den K S (.bl i) v from h)
theorem seen_str {i : Str} {v : V} (h : Seen K S H (.str i) v) : v = .str i := den_str (show Den K S (.str i) v from h)
theorem seen_non {v : V} (h : Seen K S H .non v) : v = .non := den_non (show Den K S .non v from h)
theorem seen_ref {a : Addr} {v : V} (h : Seen K S H (.ref a) v) : v = .ref a := den_ref (show Den K S (.ref a) v from h)
theorem seen_tup {ds : List D} {v : V} (h : Seen K S H (.tup ds) v) : ∃ a vs, v = .ref a ∧ SqT K S a vs ∧ DenL K S ds vs := den_tup (show Den K S (.tup ds) v from h)
theorem seen_lst {ds : List D} {v : V} (h : Seen K S H (.lst ds) v) : ∃ a vs, v = .ref a ∧ SqL K H a vs ∧ DenL K S ds vs := h
end
/-! two ints -/
def dI2 (g : Int → Int → D) : D → D → Option EV
  | .int i, .int j => some (.d (g i j))
  | _, _ => none
def dI2c (c : Int → Int → Bool) (g : Int → Int → D) : D → D → Option EV
  | .int i, .int j => if c i j then some (.d (g i j)) else none
  | _, _ => none
theorem opm_I0 {K : PySem.W.Frag} {g : Int → Int → V} {gd : Int → Int → D} (h : ∀ i j S, Den K S (gd i j) (g i j)) : OpM K (rI0 g) (dI2 gd) := by
  intro S H x y dx dy ev Q hs sx sy e q
  cases dx <;> cases dy <;> simp only [dI2, reduceCtorEq] at e
  cases e
  exact ⟨_, _, seen_int sx, seen_int sy, q S H _ (.refl hs) (evg (h _ _ _))⟩
theorem opm_I {K : PySem.W.Frag} {C : Int → Int → Prop} {c : Int → Int → Bool} {g : Int → Int → V} {gd : Int → Int → D} (hc : ∀ i j, c i j = true → C i j) (h : ∀ i j S, Den K S (gd i j) (g i j)) : OpM K (rI C g) (dI2c c gd) := by
  intro S H x y dx dy ev Q hs sx sy e q
  cases dx <;> cases dy <;> simp only [dI2c, reduceCtorEq] at e
  obtain ⟨e1, e2⟩ := some_ite e
  subst e2
  exact ⟨_, _, seen_int sx, seen_int sy, hc _ _ e1, q S H _ (.refl hs) (evg (h _ _ _))⟩
def dSub := dI2 fun i j => .int (i - j)
def dLt := dI2 fun i j => .bl (decide (i < j))
def dLe := dI2 fun i j => .bl (decide (i ≤ j))
def dGt := dI2 fun i j => .bl (decide (j < i))
def dGe := dI2 fun i j => .bl (decide (j ≤ i))
def dAnd := dI2 fun i j => .int (Builtin.bitAnd i j)
def mulOk (i j : Int) : Bool := (decide (-(2 ^ 64) < i) && decide (i < 2 ^ 64)) || (decide (-(2 ^ 64) < j) && decide (j < 2 ^ 64))
def dMul := dI2c mulOk fun i j => .int (i * j)
def divOk (i j : Int) : Bool := decide (0 < j) && decide (j < 1073741824)
def dDiv := dI2c divOk fun i j => .int (i / j)
def dMod := dI2c (fun _ j => decide (0 < j)) fun i j => .int (i % j)
section
variable {X : Cx} {xc : XC} {W : WX} {a b : Expr} {pos : Pos} {ma mb : Rho → R EV}
theorem r_sub (ha : ME X xc W a ma) (hb : ME X xc W b mb) : ME X xc W (.BinOp a .Sub b pos) (mOp dSub ma mb) := r_op op_sub (opm_I0 fun _ _ _ => of_int) ha hb
theorem r_and_ (ha : ME X xc W a ma) (hb : ME X xc W b mb) : ME X xc W (.BinOp a .BitAnd b pos) (mOp dAnd ma mb) := r_op op_and (opm_I0 fun _ _ _ => of_int) ha hb
theorem r_mul (ha : ME X xc W a ma) (hb : ME X xc W b mb) : ME X xc W (.BinOp a .Mult b pos) (mOp dMul ma mb) := r_op op_mul (opm_I (fun i j h => by
  simp only [mulOk, Bool.or_eq_true, Bool.and_eq_true, decide_eq_true_eq] at h; exact h) fun _ _ _ => of_int) ha hb
theorem r_div (ha : ME X xc W a ma) (hb : ME X xc W b mb) : ME X xc W (.BinOp a .FloorDiv b pos) (mOp dDiv ma mb) := r_op op_fdiv (opm_I (fun i j h => by
  simp only [divOk, Bool.and_eq_true, decide_eq_true_eq] at h; exact h) fun _ _ _ => of_int) ha hb
theorem r_mod (ha : ME X xc W a ma) (hb : ME X xc W b mb) : ME X xc W (.BinOp a .Mod b pos) (mOp dMod ma mb) := r_op op_mod (opm_I (fun i j h => of_decide_eq_true h) fun _ _ _ => of_int) ha hb
theorem r_lt (ha : ME X xc W a ma) (hb : ME X xc W b mb) : ME X xc W (.Compare a [.Lt] [b] pos) (mOp dLt ma mb) := r_cmp op_lt (opm_I0 fun _ _ _ => of_bl) ha hb (nomark _)
theorem t_lt (ha : ME X xc W a ma) (hb : ME X xc W b mb) : MT X xc W (.Compare a [.Lt] [b] pos) (mTst (mOp dLt ma mb)) := t_cmp op_lt (opm_I0 fun _ _ _ => of_bl) ha hb (nomark _)
theorem r_le (ha : ME X xc W a ma) (hb : ME X xc W b mb) : ME X xc W (.Compare a [.LtE] [b] pos) (mOp dLe ma mb) := r_cmp op_le (opm_I0 fun _ _ _ => of_bl) ha hb (nomark _)
theorem t_le (ha : ME X xc W a ma) (hb : ME X xc W b mb) : MT X xc W (.Compare a [.LtE] [b] pos) (mTst (mOp dLe ma mb)) := t_cmp op_le (opm_I0 fun _ _ _ => of_bl) ha hb (nomark _)
theorem r_gt (ha : ME X xc W a ma) (hb : ME X xc W b mb) : ME X xc W (.Compare a [.Gt] [b] pos) (mOp dGt ma mb) := r_cmp op_gt (opm_I0 fun _ _ _ => of_bl) ha hb (nomark _)
theorem t_gt (ha : ME X xc W a ma) (hb : ME X xc W b mb) : MT X xc W (.Compare a [.Gt] [b] pos) (mTst (mOp dGt ma mb)) := t_cmp op_gt (opm_I0 fun _ _ _ => of_bl) ha hb (nomark _)
theorem r_ge (ha : ME X xc W a ma) (hb : ME X xc W b mb) : ME X xc W (.Compare a [.GtE] [b] pos) (mOp dGe ma mb) := r_cmp op_ge (opm_I0 fun _ _ _ => of_bl) ha hb (nomark _)
theorem t_ge (ha : ME X xc W a ma) (hb : ME X xc W b mb) : MT X xc W (.Compare a [.GtE] [b] pos) (mTst (mOp dGe ma mb)) := t_cmp op_ge (opm_I0 fun _ _ _ => of_bl) ha hb (nomark _)
end
/-! == of scalars, is None, + -/
def eqD : D → D → Option Bool
  | .non, .non => some true | .non, .int _ => some false | .int _, .non => some false | .non, .bl _ => some false | .bl _, .non => some false | .non, .str _ => some false | .str _, .non => some false
  | .int i, .int j => some (decide (i = j)) | .bl i, .bl j => some (decide (i = j)) | .str i, .str j => some (decide (i = j))
  | .int _, .str _ => some false | .str _, .int _ => some false | .bl _, .str _ => some false | .str _, .bl _ => some false
  | _, _ => none
def dEq (x y : D) : Option EV := (eqD x y).map fun b => .d (.bl b)
def dNe (x y : D) : Option EV := (eqD x y).map fun b => .d (.bl (!b))
theorem eqD_scal {K : PySem.W.Frag} {S H : Hp} {dx dy : D} {x y : V} {b : Bool} (sx : Seen K S H dx x) (sy : Seen K S H dy y) (e : eqD dx dy = some b) : scal x y = true ∧ decide (x = y) = b := by
  cases dx <;> cases dy <;> simp only [eqD, reduceCtorEq, Option.some.injEq] at e <;>
    first
    | (cases e)
    | skip
  all_goals first
    | (rw [seen_non sx, seen_non sy]; exact ⟨rfl, by simp⟩)
    | (rw [seen_non sx, seen_int sy]; exact ⟨rfl, by simp⟩)
    | (rw [seen_int sx, seen_non sy]; exact ⟨rfl, by simp⟩)
    | (rw [seen_non sx, seen_bl sy]; exact ⟨rfl, by simp⟩)
    | (rw [seen_bl sx, seen_non sy]; exact ⟨rfl, by simp⟩)
    | (rw [seen_non sx, seen_str sy]; exact ⟨rfl, by simp⟩)
    | (rw [seen_str sx, seen_non sy]; exact ⟨rfl, by simp⟩)
    | (rw [seen_int sx, seen_int sy]; exact ⟨rfl, by simp⟩)
    | (rw [seen_bl sx, seen_bl sy]; exact ⟨rfl, by simp⟩)
    | (rw [seen_str sx, seen_str sy]; exact ⟨rfl, by simp⟩)
    | (rw [seen_int sx, seen_str sy]; exact ⟨rfl, by simp⟩)
    | (rw [seen_str sx, seen_int sy]; exact ⟨rfl, by simp⟩)
    | (rw [seen_bl sx, seen_str sy]; exact ⟨rfl, by simp⟩)
    | (rw [seen_str sx, seen_bl sy]; exact ⟨rfl, by simp⟩)
theorem opm_eq {K : PySem.W.Frag} : OpM K rEq dEq := by
  intro S H x y dx dy ev Q hs sx sy e q
  simp only [dEq, Option.map_eq_some_iff] at e
  obtain ⟨b, e1, e2⟩ := e
  subst e2
  obtain ⟨h1, h2⟩ := eqD_scal sx sy e1
  exact ⟨h1, q S H _ (.refl hs) (evg (by rw [h2]; exact of_bl))⟩
theorem opm_ne {K : PySem.W.Frag} : OpM K rNe dNe := by
  intro S H x y dx dy ev Q hs sx sy e q
  simp only [dNe, Option.map_eq_some_iff] at e
  obtain ⟨b, e1, e2⟩ := e
  subst e2
  obtain ⟨h1, h2⟩ := eqD_scal sx sy e1
  exact ⟨h1, q S H _ (.refl hs) (evg (by rw [h2]; exact of_bl))⟩
def isN : D → Bool
  | .non => true
  | _ => false
theorem isN_v {K : PySem.W.Frag} {S H : Hp} {d : D} {v : V} (h : Seen K S H d v) : decide (v = .non) = isN d := by
  cases d with
  | non => rw [seen_non h]; simp [isN]
  | bl b => rw [seen_bl h]; simp [isN]
  | int b => rw [seen_int h]; simp [isN]
  | str b => rw [seen_str h]; simp [isN]
  | ref b => rw [seen_ref h]; simp [isN]
  | tup b => obtain ⟨a, vs, e, _⟩ := seen_tup h; rw [e]; simp [isN]
  | lst b => obtain ⟨a, vs, e, _⟩ := seen_lst h; rw [e]; simp [isN]
def dIsN (x y : D) : Option EV := match y with
  | .non => some (.d (.bl (isN x)))
  | _ => none
def dNotN (x y : D) : Option EV := match y with
  | .non => some (.d (.bl (!isN x)))
  | _ => none
section
variable {X : Cx} {xc : XC} {W : WX} {a b : Expr} {pos : Pos} {ma mb : Rho → R EV}
theorem r_eq (ha : ME X xc W a ma) (hb : ME X xc W b mb) : ME X xc W (.Compare a [.Eq] [b] pos) (mOp dEq ma mb) := r_cmp op_eq opm_eq ha hb (nomark _)
theorem t_eq (ha : ME X xc W a ma) (hb : ME X xc W b mb) : MT X xc W (.Compare a [.Eq] [b] pos) (mTst (mOp dEq ma mb)) := t_cmp op_eq opm_eq ha hb (nomark _)
theorem r_ne (ha : ME X xc W a ma) (hb : ME X xc W b mb) : ME X xc W (.Compare a [.NotEq] [b] pos) (mOp dNe ma mb) := r_cmp op_ne opm_ne ha hb (nomark _)
theorem t_ne (ha : ME X xc W a ma) (hb : ME X xc W b mb) : MT X xc W (.Compare a [.NotEq] [b] pos) (mTst (mOp dNe ma mb)) := t_cmp op_ne opm_ne ha hb (nomark _)
theorem opm_isN {K : PySem.W.Frag} : OpM K (fun x y H Q => y = .non ∧ Q (.bl (decide (x = .non))) H) dIsN := by
  intro S H x y dx dy ev Q hs sx sy e q
  cases dy <;> simp only [dIsN, reduceCtorEq, Option.some.injEq] at e
  subst e
  exact ⟨seen_non sy, q S H _ (.refl hs) (evg (by rw [isN_v sx]; exact of_bl))⟩
theorem opm_notN {K : PySem.W.Frag} : OpM K (fun x y H Q => y = .non ∧ Q (.bl (!decide (x = .non))) H) dNotN := by
  intro S H x y dx dy ev Q hs sx sy e q
  cases dy <;> simp only [dNotN, reduceCtorEq, Option.some.injEq] at e
  subst e
  exact ⟨seen_non sy, q S H _ (.refl hs) (evg (by rw [isN_v sx]; exact of_bl))⟩
theorem r_isN (ha : ME X xc W a ma) (hb : ME X xc W b mb) : ME X xc W (.Compare a [.Is] [b] pos) (mOp dIsN ma mb) := r_cmp op_isN opm_isN ha hb (nomark _)
theorem t_isN (ha : ME X xc W a ma) (hb : ME X xc W b mb) : MT X xc W (.Compare a [.Is] [b] pos) (mTst (mOp dIsN ma mb)) := t_cmp op_isN opm_isN ha hb (nomark _)
theorem r_notN (ha : ME X xc W a ma) (hb : ME X xc W b mb) : ME X xc W (.Compare a [.IsNot] [b] pos) (mOp dNotN ma mb) := r_cmp op_notN opm_notN ha hb (nomark _)
theorem t_notN (ha : ME X xc W a ma) (hb : ME X xc W b mb) : MT X xc W (.Compare a [.IsNot] [b] pos) (mTst (mOp dNotN ma mb)) := t_cmp op_notN opm_notN ha hb (nomark _)
end
/-- a + b: ints, tuples -/
def dAdd : D → D → Option EV
  | .int i, .int j => some (.d (.int (i + j)))
  | .tup xs, .tup ys => if szOk (xs.length + ys.length) then some (.d (.tup (xs ++ ys))) else none
  | _, _ => none
theorem opm_add {K : PySem.W.Frag} : OpM K (fun x y H Q => rI0 (fun i j => .int (i + j)) x y H Q ∨ rCatA K x y H Q) dAdd := by
  intro S H x y dx dy ev Q hs sx sy e q
  cases dx <;> cases dy <;> simp only [dAdd, reduceCtorEq] at e
  · cases e
    exact .inl ⟨_, _, seen_int sx, seen_int sy, q S H _ (.refl hs) (evg of_int)⟩
  · obtain ⟨e1, e2⟩ := some_ite e
    subst e2
    obtain ⟨a, vs, r1, t1, l1⟩ := seen_tup sx
    obtain ⟨b, us, r2, t2, l2⟩ := seen_tup sy
    refine .inr ⟨a, b, vs, us, r1, r2, sqT_same hs t1, sqT_same hs t2, by rw [l1.length, l2.length]; exact Nat.le_of_lt (szOk.le e1), fun z => ?_, fun z1 z2 => ?_, fun z1 z2 p hp => ?_⟩
    · refine q S H _ (.refl hs) (evg (of_tup t2 ?_))
      have l := l1.append l2
      rw [z, List.nil_append] at l
      exact l
    · refine q S H _ (.refl hs) (evg (of_tup t1 ?_))
      have l := l1.append l2
      rw [z2, List.append_nil] at l
      exact l
    · have g : Grow S H (upd S p (.tup (vs ++ us))) (upd H p (.tup (vs ++ us))) := Grow.stable hs hp
      exact q _ _ _ g (evg (of_tup (SqT.of upd_same) ((l1.append l2).same g.s)))
def dNeg : D → Option EV
  | .int i => some (.d (.int (-i)))
  | _ => none
theorem unm_neg {K : PySem.W.Frag} : UnM K (rU fun i => .int (-i)) dNeg := by
  intro S H x dx ev Q hs sx e q
  cases dx <;> simp only [dNeg, reduceCtorEq] at e
  cases e
  exact ⟨_, seen_int sx, q S H _ (.refl hs) (evg of_int)⟩
section
variable {X : Cx} {xc : XC} {W : WX} {a b : Expr} {pos : Pos} {ma mb : Rho → R EV}
theorem r_add (ha : ME X xc W a ma) (hb : ME X xc W b mb) : ME X xc W (.BinOp a .Add b pos) (mOp dAdd ma mb) := r_op (opr_or op_add op_catA) opm_add ha hb
theorem r_neg (ha : ME X xc W a ma) : ME X xc W (.UnaryOp .USub a pos) (mUn dNeg ma) := r_un un_neg unm_neg ha
end
/-- a[i] -/
def dIx : D → D → Option EV
  | .tup xs, .int i => (atI xs i).map .d
  | .lst xs, .int i => (atI xs i).map .d
  | _, _ => none
theorem atI_den {K : PySem.W.Frag} {S : Hp} {ds : List D} {vs : List V} {i : Int} {d : D} (l : DenL K S ds vs) (e : atI ds i = some d) : ∃ v, atI vs i = some v ∧ Den K S d v := by
  unfold atI at e ⊢
  rw [l.length]
  cases q : ixN ds.length i with
  | none => rw [q] at e; cases e
  | some j =>
    rw [q] at e
    exact l.get e
theorem opm_ix {K : PySem.W.Frag} : OpM K (rIx K) dIx := by
  intro S H x y dx dy ev Q hs sx sy e q
  cases dx <;> cases dy <;> simp only [dIx, reduceCtorEq, Option.map_eq_some_iff] at e
  · obtain ⟨d, e1, rfl⟩ := e
    obtain ⟨a, vs, r1, t1, l1⟩ := seen_tup sx
    obtain ⟨v, e2, hv⟩ := atI_den l1 e1
    exact .inr (.inl ⟨a, vs, _, v, r1, seen_int sy, sqT_same hs t1, e2, q S H _ (.refl hs) (evg hv)⟩)
  · obtain ⟨d, e1, rfl⟩ := e
    obtain ⟨a, vs, r1, t1, l1⟩ := seen_lst sx
    obtain ⟨v, e2, hv⟩ := atI_den l1 e1
    exact .inl ⟨a, vs, _, v, r1, seen_int sy, t1, e2, q S H _ (.refl hs) (evg hv)⟩
section
variable {X : Cx} {xc : XC} {W : WX} {a b c : Expr} {pos : Pos} {ma mb : Rho → R EV} {es : List Expr} {rest : List Expr}
theorem r_ix (ha : ME X xc W a ma) (hb : ME X xc W b mb) (hs : PlainIx b := by exact fun _ _ => rfl) : ME X xc W (.Subscript a b pos) (mOp dIx ma mb) := mkE (pe_ix ix_seq ha hb hs) (je_op opm_ix je_cE je_cE)
/-! ### arguments, displays -/
theorem a_nil : MA X xc W [] mNil := mkA pa_nil ja_nil
theorem a_cons {mr : Rho → R (List EV)} (ha : ME X xc W a ma) (hr : MA X xc W es mr) (hs : starEach (a :: es) X.env = (false, eval a X.env) :: starEach es X.env := by rfl) : MA X xc W (a :: es) (mCons ma mr) := mkA (pa_cons ha hr hs) (ja_cons je_cE ja_cA)
theorem r_frz (ha : ME X xc W a ma) : ME X xc W a (mFrz ma) := mkE ha (je_frz je_cE)
theorem r_tup {x1} {m : Rho → R (List EV)} (h : MA X xc W es m) : ME X xc W (.Tuple es x1 pos) (mTup m) := mkE (pe_tup h) (je_tup ja_cA)
theorem r_lst {m : Rho → R (List EV)} (h : MA X xc W es m) : ME X xc W (.List es pos) (mLst m) := mkE (pe_lst h) (je_lst ja_cA)
/-! ### tests -/
variable {mt mu : Rho → R Bool}
theorem je_truth {K : PySem.W.Frag} {t : TE} {m : Rho → R EV} (ha : JE K xc W t m) : JT K xc W (fun σ H Q => t σ H fun x H' => ∃ k, TruV K x H' k ∧ Q k H') (mTru m) := by
  intro S H σ ρ Q R h
  refine ha S H σ ρ _ R (ROk.mono (ROk.bind h) (fun ev ρ1 h1 => ?_) fun _ _ z => z)
  intro S1 H1 x s1 R1 e1
  obtain ⟨k, q, hq⟩ := ROk.of h1
  simp only [Option.bind_eq_some_iff] at q
  obtain ⟨d, q1, q2⟩ := q
  have sn := rd_seen R1 e1 q1
  refine ⟨k, ?_, hq S1 H1 s1 R1⟩
  have emp : ∀ {ds : List D} {vs : List V} {S : Hp}, DenL K S ds vs → (!ds.isEmpty) = !vs.isEmpty := fun {ds vs S} l => by
    have := l.length
    cases ds <;> cases vs <;> simp at this ⊢
  cases d with
  | non => rw [seen_non sn]; simp only [truD, Option.some.injEq] at q2; exact q2.symm
  | bl b => rw [seen_bl sn]; simp only [truD, Option.some.injEq] at q2; exact q2.symm
  | int i => rw [seen_int sn]; simp only [truD, Option.some.injEq] at q2; exact q2.symm
  | str s => simp [truD] at q2
  | ref s => simp [truD] at q2
  | tup ds =>
    obtain ⟨a, vs, r, t1, l⟩ := seen_tup sn
    rw [r]
    simp only [truD, Option.some.injEq] at q2
    exact .inr (.inl ⟨vs, sqT_same R1.sub t1, by rw [← q2]; exact emp l⟩)
  | lst ds =>
    obtain ⟨a, vs, r, t1, l⟩ := seen_lst sn
    rw [r]
    simp only [truD, Option.some.injEq] at q2
    exact .inl ⟨vs, t1, by rw [← q2]; exact emp l⟩
theorem t_tru (ha : ME X xc W a ma) (he : ∀ whole, isTrue a X.env whole = (do let v ← whole; standAt a.pos; holding [v] (truthy v)) := by exact fun _ => rfl) : MT X xc W a (mTru ma) := mkT (pt_truth ha he) (je_truth je_cE)
theorem t_not (ha : MT X xc W a mt) : MT X xc W (.UnaryOp .Not a pos) (mNotT mt) := mkT (pt_not ha) (jt_not jt_cT)
theorem w_and1 (ha : MT X xc W a mt) : MW X xc W (.BoolOp .And [a] pos) mt := mkW (pw_and1 ha) jt_cT
theorem w_or1 (ha : MT X xc W a mt) : MW X xc W (.BoolOp .Or [a] pos) mt := mkW (pw_or1 ha) jt_cT
theorem w_and (ha : MT X xc W a mt) (hb : MW X xc W (.BoolOp .And (b :: rest) pos) mu) : MW X xc W (.BoolOp .And (a :: b :: rest) pos) (mAndT mt mu) := mkW (pw_and ha hb) (jt_and jt_cT jt_cT)
theorem w_or (ha : MT X xc W a mt) (hb : MW X xc W (.BoolOp .Or (b :: rest) pos) mu) : MW X xc W (.BoolOp .Or (a :: b :: rest) pos) (mOrT mt mu) := mkW (pw_or ha hb) (jt_or jt_cT jt_cT)
theorem t_w (h : MW X xc W a mt) : MT X xc W a mt := h.pt
theorem r_one {op} (h : ME X xc W a ma) : ME X xc W (.BoolOp op [a] pos) ma := mkE (pe_one h) je_cE
theorem r_andV (ha : ME X xc W a ma) (hb : ME X xc W (.BoolOp .And (b :: rest) pos) mb) : ME X xc W (.BoolOp .And (a :: b :: rest) pos) (mAndV ma mb) := mkE (pe_and ha hb) (je_andV je_cE je_cE)
theorem r_orV (ha : ME X xc W a ma) (hb : ME X xc W (.BoolOp .Or (b :: rest) pos) mb) : ME X xc W (.BoolOp .Or (a :: b :: rest) pos) (mOrV ma mb) := mkE (pe_or ha hb) (je_orV je_cE je_cE)
theorem r_notV (ha : ME X xc W a ma) : ME X xc W (.UnaryOp .Not a pos) (mNotV ma) := mkE (pe_not ha) (je_notV je_cE)
theorem r_ife (hc : MT X xc W c mt) (ha : ME X xc W a ma) (hb : ME X xc W b mb) : ME X xc W (.IfExp c a b pos) (mIfE mt ma mb) := mkE (pe_ifExp hc ha hb) (je_if jt_cT je_cE je_cE)
/-! ### statements -/
variable {st : Stmt} {sts ss : List Stmt} {m n : Rho → Out}
theorem s_nil : MSs X xc W [] mNext := mkSs pss_nil js_next
theorem s_cons (h1 : MS X xc W st m) (h2 : MSs X xc W sts n) : MSs X xc W (st :: sts) (mSeq m n) := mkSs (pss_cons h1 h2) (js_seq js_cS js_cS)
theorem s_one (h1 : MS X xc W st m) : MSs X xc W [st] m := mkSs (pss_one h1) js_cS
theorem s_if (hc : MT X xc W c mt) (ha : MSs X xc W sts m) (hb : MSs X xc W ss n) : MS X xc W (.If c sts ss pos) (mIfS mt m n) := mkS (ps_if hc ha hb) (js_if jt_cT js_cS js_cS)
theorem s_ret (ha : ME X xc W a ma) : MS X xc W (.Return (some a) pos) (mRet ma) := mkS (ps_ret ha) (js_ret je_cE)
theorem s_retN : MS X xc W (.Return none pos) mRetN := mkS ps_retN js_retN
theorem s_cont : MS X xc W (.Continue pos) mCont := mkS ps_continue js_cont
theorem s_brk : MS X xc W (.Break pos) mBrk := mkS ps_break js_brk
theorem s_pass : MS X xc W (.Pass pos) mNext := mkS ps_pass js_next
theorem s_expr (ha : ME X xc W a ma) (hs : swapsWith a none pos.line X.env = pure false := by rfl) : MS X xc W (.Expr a pos) (mDrop ma) := mkS (ps_expr ha hs) (js_drop je_cE)
theorem s_set {i : Nat} {x : Str} {pos' : Pos} (hN : X.N.Nodup) (hi : X.N[i]? = some x) (hx : Loc X.env.scope x) (he : ME X xc W a ma) (hs : swapsWith a (some (.Name x pos')) pos.line X.env = pure false := by rfl) (hf : X.fn x = true ∨ X.env.scope.names.lookup x = some .local := by first | exact .inl rfl | exact .inr rfl | assumption) :
    MS X xc W (.Assign [.Name x pos'] a pos) (mSet i ma) := mkS (ps_set hN hi hx he hs hf) (js_set je_cE)
theorem s_while (hp : PassesOwn (model X.prog X.w) X.A X.env X.xe) (hc : MT X xc W c mt) (hb : MSs X xc W sts m) : MS X xc W (.While c sts [] pos) (mWhile mt m) := mkS (ps_while hp hc hb) (js_while jt_cT js_cS)
end
end Mi

set_option Elab.async false
set_option linter.all false
set_option maxRecDepth 100000
set_option autoImplicit false
namespace Mi
open PySem L2
/-! ### built-ins by values -/
section
variable {K : PySem.W.Frag} {S H : Hp}
theorem seenL1 {d : D} {vs : List V} (h : SeenL K S H [d] vs) : ∃ v, vs = [v] ∧ Seen K S H d v := by
  match vs, h with
  | [v], h => exact ⟨v, rfl, h.1⟩
theorem seenL2 {d e : D} {vs : List V} (h : SeenL K S H [d, e] vs) : ∃ v u, vs = [v, u] ∧ Seen K S H d v ∧ Seen K S H e u := by
  match vs, h with
  | [v, u], h => exact ⟨v, u, rfl, h.1, h.2.1⟩
end
def bLen : List D → Option EV
  | [.tup ds] => some (.d (.int ds.length))
  | [.lst ds] => some (.d (.int ds.length))
  | _ => none
theorem cam_len {K : PySem.W.Frag} : CaM K (fun xs H Q => ∃ p ys, xs = [.ref p] ∧ (SqL K H p ys ∨ SqT K H p ys) ∧ Q (.int ys.length) H) bLen := by
  intro S H xs ds ev Q hs sx e q
  match ds, sx, e with
  | [.tup ds], sx, e =>
    simp only [bLen, Option.some.injEq] at e; subst e
    obtain ⟨v, rfl, sv⟩ := seenL1 sx
    obtain ⟨a, vs, rfl, t, l⟩ := seen_tup sv
    exact ⟨a, vs, rfl, .inr (sqT_same hs t), q S H _ (.refl hs) (evg (by rw [l.length]; exact of_int))⟩
  | [.lst ds], sx, e =>
    simp only [bLen, Option.some.injEq] at e; subst e
    obtain ⟨v, rfl, sv⟩ := seenL1 sx
    obtain ⟨a, vs, rfl, t, l⟩ := seen_lst sv
    exact ⟨a, vs, rfl, .inl t, q S H _ (.refl hs) (evg (by rw [l.length]; exact of_int))⟩
def bTuple : List D → Option EV
  | [.tup ds] => some (.d (.tup ds))
  | [.lst ds] => some (.d (.tup ds))
  | _ => none
theorem cam_tuple {K : PySem.W.Frag} : CaM K (fun xs H Q => ∃ p ys, xs = [.ref p] ∧ ((SqL K H p ys ∧ ∀ l, H l = none → Q (.ref l) (upd H l (.tup ys))) ∨ (SqT K H p ys ∧ Q (.ref p) H))) bTuple := by
  intro S H xs ds ev Q hs sx e q
  match ds, sx, e with
  | [.tup ds], sx, e =>
    simp only [bTuple, Option.some.injEq] at e; subst e
    obtain ⟨v, rfl, sv⟩ := seenL1 sx
    obtain ⟨a, vs, rfl, t, l⟩ := seen_tup sv
    exact ⟨a, vs, rfl, .inr ⟨sqT_same hs t, q S H _ (.refl hs) (evg (of_tup t l))⟩⟩
  | [.lst ds], sx, e =>
    simp only [bTuple, Option.some.injEq] at e; subst e
    obtain ⟨v, rfl, sv⟩ := seenL1 sx
    obtain ⟨a, vs, rfl, t, l⟩ := seen_lst sv
    refine ⟨a, vs, rfl, .inl ⟨t, fun p hp => ?_⟩⟩
    have g : Grow S H (upd S p (.tup vs)) (upd H p (.tup vs)) := Grow.stable hs hp
    exact q _ _ _ g (evg (of_tup (SqT.of upd_same) (l.same g.s)))
def bList : List D → Option EV
  | [.tup ds] => some (.new (.lst ds))
  | [.lst ds] => some (.new (.lst ds))
  | _ => none
theorem evg_lst {K : PySem.W.Frag} {S H : Hp} {p : Addr} {ds : List D} {vs : List V} (hs : Same S H) (hp : H p = none) (l : DenL K S ds vs) : EvG K H S (upd H p (.lst vs)) (.ref p) (.new (.lst ds)) :=
  ⟨p, _, rfl, hp, upd_same, L2.Same.free hs hp, vs, rfl, l⟩
theorem cam_list {K : PySem.W.Frag} : CaM K (fun xs H Q => ∃ p ys, xs = [.ref p] ∧ (SqL K H p ys ∨ SqT K H p ys) ∧ ∀ l, H l = none → Q (.ref l) (upd H l (.lst ys))) bList := by
  intro S H xs ds ev Q hs sx e q
  match ds, sx, e with
  | [.tup ds], sx, e =>
    simp only [bList, Option.some.injEq] at e; subst e
    obtain ⟨v, rfl, sv⟩ := seenL1 sx
    obtain ⟨a, vs, rfl, t, l⟩ := seen_tup sv
    exact ⟨a, vs, rfl, .inr (sqT_same hs t), fun p hp => q _ _ _ (Grow.loose hs hp) (evg_lst hs hp l)⟩
  | [.lst ds], sx, e =>
    simp only [bList, Option.some.injEq] at e; subst e
    obtain ⟨v, rfl, sv⟩ := seenL1 sx
    obtain ⟨a, vs, rfl, t, l⟩ := seen_lst sv
    exact ⟨a, vs, rfl, .inl t, fun p hp => q _ _ _ (Grow.loose hs hp) (evg_lst hs hp l)⟩
/-- the ints of a list of data -/
def intsOf : List D → Option (List Int)
  | [] => some []
  | .int i :: r => (intsOf r).bind fun ns => some (i :: ns)
  | _ :: _ => none
theorem intsOf_eq : ∀ {ds : List D} {ns : List Int}, intsOf ds = some ns → ds = ns.map D.int
  | [], ns, e => by simp only [intsOf, Option.some.injEq] at e; subst e; rfl
  | .int i :: r, ns, e => by
    simp only [intsOf, Option.bind_eq_some_iff, Option.some.injEq] at e
    obtain ⟨ms, e1, e2⟩ := e
    subst e2
    rw [intsOf_eq e1]; rfl
  | .non :: _, _, e => by simp [intsOf] at e
  | .bl _ :: _, _, e => by simp [intsOf] at e
  | .str _ :: _, _, e => by simp [intsOf] at e
  | .ref _ :: _, _, e => by simp [intsOf] at e
  | .tup _ :: _, _, e => by simp [intsOf] at e
  | .lst _ :: _, _, e => by simp [intsOf] at e
theorem intsOf_map : ∀ ns : List Int, intsOf (ns.map D.int) = some ns
  | [] => rfl
  | n :: ns => by simp only [List.map_cons, intsOf, intsOf_map ns, Option.bind_some]
def leI (a b : Int) : Bool := decide (a ≤ b)
def geI (a b : Int) : Bool := decide (b ≤ a)
def bSorted : List D → Option EV
  | [.lst ds] => (intsOf ds).map fun ns => .new (.lst ((ns.mergeSort leI).map D.int))
  | _ => none
theorem perm_le {xs ys : List Int} (hp : xs.Perm ys) (h1 : xs.Pairwise (· ≤ ·)) (h2 : ys.Pairwise (· ≤ ·)) : xs = ys := hp.eq_of_pairwise (fun a b _ _ h1 h2 => Int.le_antisymm h1 h2) h1 h2
theorem perm_ge {xs ys : List Int} (hp : xs.Perm ys) (h1 : xs.Pairwise (· ≥ ·)) (h2 : ys.Pairwise (· ≥ ·)) : xs = ys := hp.eq_of_pairwise (fun a b _ _ h1 h2 => Int.le_antisymm h2 h1) h1 h2
theorem ms_le (ns : List Int) : (ns.mergeSort leI).Pairwise (· ≤ ·) :=
  (List.pairwise_mergeSort (le := leI) (fun a b c h1 h2 => by simp only [leI, decide_eq_true_eq] at *; omega) (fun a b => by simp only [leI, Bool.or_eq_true, decide_eq_true_eq]; omega) ns).imp fun h => by simpa [leI] using h
theorem ms_ge (ns : List Int) : (ns.mergeSort geI).Pairwise (· ≥ ·) :=
  (List.pairwise_mergeSort (le := geI) (fun a b c h1 h2 => by simp only [geI, decide_eq_true_eq] at *; omega) (fun a b => by simp only [geI, Bool.or_eq_true, decide_eq_true_eq]; omega) ns).imp fun h => by simpa [geI] using h
theorem cam_sorted {K : PySem.W.Frag} : CaM K (rSortedI K) bSorted := by
  intro S H xs ds ev Q hs sx e q
  match ds, sx, e with
  | [.lst ds], sx, e =>
    simp only [bSorted, Option.map_eq_some_iff] at e
    obtain ⟨ns, e1, e2⟩ := e
    subst e2
    obtain ⟨v, rfl, sv⟩ := seenL1 sx
    obtain ⟨a, vs, rfl, t, l⟩ := seen_lst sv
    rw [intsOf_eq e1] at l
    rw [l.ints] at t
    refine ⟨a, ns, rfl, t, ?_⟩
    intro ns' p h1 h2 hp
    have e3 : ns' = ns.mergeSort leI := perm_le (h1.trans (List.mergeSort_perm _ _).symm) h2 (ms_le ns)
    subst e3
    exact q _ _ _ (Grow.loose hs hp) (evg_lst hs hp DenL.of_ints)
def blsOf : List D → Option (List Bool)
  | [] => some []
  | .bl i :: r => (blsOf r).bind fun ns => some (i :: ns)
  | _ :: _ => none
def bAll : List D → Option EV
  | [.lst ds] => (blsOf ds).map fun bs => .d (.bl (bs.all id))
  | _ => none
theorem blsOf_eq : ∀ {ds : List D} {ns : List Bool}, blsOf ds = some ns → ds = ns.map D.bl
  | [], ns, e => by simp only [blsOf, Option.some.injEq] at e; subst e; rfl
  | .bl i :: r, ns, e => by
    simp only [blsOf, Option.bind_eq_some_iff, Option.some.injEq] at e
    obtain ⟨ms, e1, e2⟩ := e
    subst e2
    rw [blsOf_eq e1]; rfl
  | .non :: _, _, e => by simp [blsOf] at e
  | .int _ :: _, _, e => by simp [blsOf] at e
  | .str _ :: _, _, e => by simp [blsOf] at e
  | .ref _ :: _, _, e => by simp [blsOf] at e
  | .tup _ :: _, _, e => by simp [blsOf] at e
  | .lst _ :: _, _, e => by simp [blsOf] at e
theorem blsOf_map : ∀ ns : List Bool, blsOf (ns.map D.bl) = some ns
  | [] => rfl
  | n :: ns => by simp only [List.map_cons, blsOf, blsOf_map ns, Option.bind_some]
theorem cam_all {K : PySem.W.Frag} : CaM K (rAll K) bAll := by
  intro S H xs ds ev Q hs sx e q
  match ds, sx, e with
  | [.lst ds], sx, e =>
    simp only [bAll, Option.map_eq_some_iff] at e
    obtain ⟨bs, e1, e2⟩ := e
    subst e2
    obtain ⟨v, rfl, sv⟩ := seenL1 sx
    obtain ⟨a, vs, rfl, t, l⟩ := seen_lst sv
    rw [blsOf_eq e1] at l
    rw [l.bls] at t
    exact ⟨a, bs, rfl, t, q S H _ (.refl hs) (evg of_bl)⟩
def bAbs : List D → Option EV
  | [.int i] => some (.d (.int (if i < 0 then -i else i)))
  | _ => none
theorem cam_abs {K : PySem.W.Frag} : CaM K (fun xs H Q => ∃ i, xs = [.int i] ∧ Q (.int (if i < 0 then -i else i)) H) bAbs := by
  intro S H xs ds ev Q hs sx e q
  match ds, sx, e with
  | [.int i], sx, e =>
    simp only [bAbs, Option.some.injEq] at e; subst e
    obtain ⟨v, rfl, sv⟩ := seenL1 sx
    exact ⟨i, by rw [seen_int sv], q S H _ (.refl hs) (evg of_int)⟩
def bInt : List D → Option EV
  | [.int i] => some (.d (.int i))
  | _ => none
theorem cam_int {K : PySem.W.Frag} : CaM K (fun xs H Q => (∃ i, xs = [.int i] ∧ Q (.int i) H) ∨ ∃ k, xs = [.bl k] ∧ Q (.int (if k then 1 else 0)) H) bInt := by
  intro S H xs ds ev Q hs sx e q
  match ds, sx, e with
  | [.int i], sx, e =>
    simp only [bInt, Option.some.injEq] at e; subst e
    obtain ⟨v, rfl, sv⟩ := seenL1 sx
    exact .inl ⟨i, by rw [seen_int sv], q S H _ (.refl hs) (evg of_int)⟩
def bMin : List D → Option EV
  | [.int i, .int j] => some (.d (.int (if j < i then j else i)))
  | _ => none
theorem cam_min {K : PySem.W.Frag} : CaM K (fun xs H Q => ∃ i j, xs = [.int i, .int j] ∧ Q (.int (if j < i then j else i)) H) bMin := by
  intro S H xs ds ev Q hs sx e q
  match ds, sx, e with
  | [.int i, .int j], sx, e =>
    simp only [bMin, Option.some.injEq] at e; subst e
    obtain ⟨v, u, rfl, s1, s2⟩ := seenL2 sx
    exact ⟨i, j, by rw [seen_int s1, seen_int s2], q S H _ (.refl hs) (evg of_int)⟩
def bMax : List D → Option EV
  | [.int i, .int j] => some (.d (.int (if j > i then j else i)))
  | _ => none
theorem cam_max {K : PySem.W.Frag} : CaM K (fun xs H Q => ∃ i j, xs = [.int i, .int j] ∧ Q (.int (if j > i then j else i)) H) bMax := by
  intro S H xs ds ev Q hs sx e q
  match ds, sx, e with
  | [.int i, .int j], sx, e =>
    simp only [bMax, Option.some.injEq] at e; subst e
    obtain ⟨v, u, rfl, s1, s2⟩ := seenL2 sx
    exact ⟨i, j, by rw [seen_int s1, seen_int s2], q S H _ (.refl hs) (evg of_int)⟩
/-- lcm of two ints -/
def lcmOk (a b : Int) : Bool := decide (a.natAbs < 2 ^ 64) && decide (b.natAbs < 2 ^ 64)
def bLcm : List D → Option EV
  | [.int i, .int j] => if lcmOk i j then some (.d (.int ((Nat.lcm i.natAbs j.natAbs : Nat) : Int))) else none
  | _ => none
def rLcm : List V → Hp → VK → Prop := fun vs H Q => ∃ a b : Int, vs = [.int a, .int b] ∧ lcmOk a b = true ∧ Q (.int ((Nat.lcm a.natAbs b.natAbs : Nat) : Int)) H
theorem one_lcm (n : Nat) : Nat.lcm 1 n = n := by simp [Nat.lcm]
theorem lcm_small {a b : Int} (h : lcmOk a b = true) : ((((Nat.lcm 1 a.natAbs).lcm b.natAbs : Nat) : Int)).natAbs.log2 < PySem.bitsLine := by
  simp only [lcmOk, Bool.and_eq_true, decide_eq_true_eq] at h
  rw [one_lcm, Int.natAbs_natCast]
  have h1 : Nat.lcm a.natAbs b.natAbs ≤ a.natAbs * b.natAbs := by
    rcases Nat.eq_zero_or_pos (a.natAbs * b.natAbs) with z | z
    · rcases Nat.mul_eq_zero.mp z with y | y <;> simp [y]
    · exact Nat.le_of_dvd z (Nat.lcm_dvd_mul _ _)
  have h2 : a.natAbs * b.natAbs < 2 ^ 128 := by
    have := Nat.mul_lt_mul'' h.1 h.2
    calc _ < 2 ^ 64 * 2 ^ 64 := this
      _ = 2 ^ 128 := by decide
  have h3 : (Nat.lcm a.natAbs b.natAbs).log2 < 128 := by
    rcases Nat.eq_zero_or_pos (Nat.lcm a.natAbs b.natAbs) with z | z
    · rw [z]; decide
    · exact (Nat.log2_lt (by omega)).mpr (by omega)
  exact Nat.lt_of_lt_of_le h3 (by decide +kernel)
theorem cr_lcm {X : Cx} : CallR X (.builtin "math.lcm") rLcm := by
  intro pins s σ H vs us Q I r h
  obtain ⟨a, b, rfl, hok, q⟩ := h
  obtain ⟨t, u, rfl⟩ := Vals.int2 r
  have hk := hok
  simp only [lcmOk, Bool.and_eq_true, decide_eq_true_eq] at hk
  refine PySem.W.mg_lcm hk.1 hk.2 (lcm_small hok) ⟨.int _, H, I.tok _, ⟨_, rfl⟩, ?_⟩
  rw [one_lcm]
  exact q
theorem cam_lcm {K : PySem.W.Frag} : CaM K rLcm bLcm := by
  intro S H xs ds ev Q hs sx e q
  match ds, sx, e with
  | [.int i, .int j], sx, e =>
    simp only [bLcm] at e
    obtain ⟨e1, e2⟩ := some_ite e
    subst e2
    obtain ⟨v, u, rfl, s1, s2⟩ := seenL2 sx
    exact ⟨i, j, by rw [seen_int s1, seen_int s2], e1, q S H _ (.refl hs) (evg of_int)⟩
section
variable {X : Cx} {xc : XC} {W : WX} {a b c e : Expr} {es : List Expr} {p pos : Pos} {ma mb : Rho → R EV} {m : Rho → R (List EV)} {x : Str} {r : List V → Hp → VK → Prop} {f : List D → Option EV}
theorem r_callB {id : String} (hc : CallR X (.builtin id) r) (hm : CaM X.K r f) (hg : Gl X x) (hmg : X.mg x = none) (hv : bootBuiltins x = some (.builtin id)) (ha : MA X xc W (e :: es) m) (hn : x ≠ "__name__" := by decide) (hdb : (x == ("__debug__" : Str)) = false := by decide)
    (he : starEach (e :: es) X.env = (false, eval e X.env) :: starEach es X.env := by rfl) (hpl : (backTo pos (starEach es X.env)).any (·.1) = false := by rfl) : ME X xc W (.Call (.Name x p) (e :: es) [] pos) (mCB f m) := mkE (pe_callB hc hg hmg hv ha hn hdb he hpl) (je_cb hm ja_cA)
theorem r_callTy {T : String} (hc : CallR X (.type T) r) (hm : CaM X.K r f) (hg : Gl X x) (hmg : X.mg x = none) (hv : bootBuiltins x = some (.type T)) (ha : MA X xc W (e :: es) m) (hn : x ≠ "__name__" := by decide) (hdb : (x == ("__debug__" : Str)) = false := by decide)
    (he : starEach (e :: es) X.env = (false, eval e X.env) :: starEach es X.env := by rfl) (hpl : (backTo pos (starEach es X.env)).any (·.1) = false := by rfl) : ME X xc W (.Call (.Name x p) (e :: es) [] pos) (mCB f m) := mkE (pe_callTy hc hg hmg hv ha hn hdb he hpl) (je_cb hm ja_cA)
theorem r_callF {id : String} (hc : CallR X (.builtin id) r) (hm : CaM X.K r f) (hg : Gl X x) (hmg : X.mg x = some (.builtin id)) (ha : MA X xc W (e :: es) m) (hdb : (x == ("__debug__" : Str)) = false := by decide)
    (he : starEach (e :: es) X.env = (false, eval e X.env) :: starEach es X.env := by rfl) (hpl : (backTo pos (starEach es X.env)).any (·.1) = false := by rfl) : ME X xc W (.Call (.Name x p) (e :: es) [] pos) (mCB f m) := mkE (pe_callBfun hc hg hmg ha hdb he hpl) (je_cb hm ja_cA)
theorem r_len (hg : Gl X "len") (hmg : X.mg "len" = none) (ha : MA X xc W [e] m) (he : starEach [e] X.env = (false, eval e X.env) :: starEach [] X.env := by rfl) : ME X xc W (.Call (.Name "len" p) [e] [] pos) (mCB bLen m) := r_callB call_len_seq cam_len hg hmg PySem.boot_len ha (by decide) (by decide) he
theorem r_tuple (hg : Gl X "tuple") (hmg : X.mg "tuple" = none) (ha : MA X xc W [e] m) (he : starEach [e] X.env = (false, eval e X.env) :: starEach [] X.env := by rfl) : ME X xc W (.Call (.Name "tuple" p) [e] [] pos) (mCB bTuple m) := r_callTy call_tuple_of cam_tuple hg hmg (by decide +kernel) ha (by decide) (by decide) he
theorem r_list (hg : Gl X "list") (hmg : X.mg "list" = none) (ha : MA X xc W [e] m) (he : starEach [e] X.env = (false, eval e X.env) :: starEach [] X.env := by rfl) : ME X xc W (.Call (.Name "list" p) [e] [] pos) (mCB bList m) := r_callTy call_list_of cam_list hg hmg (by decide +kernel) ha (by decide) (by decide) he
theorem r_sorted (hg : Gl X "sorted") (hmg : X.mg "sorted" = none) (ha : MA X xc W [e] m) (he : starEach [e] X.env = (false, eval e X.env) :: starEach [] X.env := by rfl) : ME X xc W (.Call (.Name "sorted" p) [e] [] pos) (mCB bSorted m) := r_callB cr_sortedI cam_sorted hg hmg (by decide +kernel) ha (by decide) (by decide) he
theorem r_all (hc : X.calm = true) (hg : Gl X "all") (hmg : X.mg "all" = none) (ha : MA X xc W [e] m) (he : starEach [e] X.env = (false, eval e X.env) :: starEach [] X.env := by rfl) : ME X xc W (.Call (.Name "all" p) [e] [] pos) (mCB bAll m) := r_callB (cr_all hc) cam_all hg hmg (by decide +kernel) ha (by decide) (by decide) he
theorem r_abs (hg : Gl X "abs") (hmg : X.mg "abs" = none) (ha : MA X xc W [e] m) (he : starEach [e] X.env = (false, eval e X.env) :: starEach [] X.env := by rfl) : ME X xc W (.Call (.Name "abs" p) [e] [] pos) (mCB bAbs m) := r_callB call_abs cam_abs hg hmg (by decide +kernel) ha (by decide) (by decide) he
theorem r_int_ (hg : Gl X "int") (hmg : X.mg "int" = none) (ha : MA X xc W [e] m) (he : starEach [e] X.env = (false, eval e X.env) :: starEach [] X.env := by rfl) : ME X xc W (.Call (.Name "int" p) [e] [] pos) (mCB bInt m) := r_callTy call_int1 cam_int hg hmg (by decide +kernel) ha (by decide) (by decide) he
theorem r_min (hc : X.calm = true) (hg : Gl X "min") (hmg : X.mg "min" = none) (ha : MA X xc W [a, b] m) (he : starEach [a, b] X.env = (false, eval a X.env) :: starEach [b] X.env := by rfl) (hpl : (backTo pos (starEach [b] X.env)).any (·.1) = false := by rfl) : ME X xc W (.Call (.Name "min" p) [a, b] [] pos) (mCB bMin m) := r_callB (call_min2 hc) cam_min hg hmg (by decide +kernel) ha (by decide) (by decide) he hpl
theorem r_max (hc : X.calm = true) (hg : Gl X "max") (hmg : X.mg "max" = none) (ha : MA X xc W [a, b] m) (he : starEach [a, b] X.env = (false, eval a X.env) :: starEach [b] X.env := by rfl) (hpl : (backTo pos (starEach [b] X.env)).any (·.1) = false := by rfl) : ME X xc W (.Call (.Name "max" p) [a, b] [] pos) (mCB bMax m) := r_callB (call_max2 hc) cam_max hg hmg (by decide +kernel) ha (by decide) (by decide) he hpl
theorem r_lcm (hg : Gl X "lcm") (hmg : X.mg "lcm" = some (.builtin "math.lcm")) (ha : MA X xc W [a, b] m) (he : starEach [a, b] X.env = (false, eval a X.env) :: starEach [b] X.env := by rfl) (hpl : (backTo pos (starEach [b] X.env)).any (·.1) = false := by rfl) : ME X xc W (.Call (.Name "lcm" p) [a, b] [] pos) (mCB bLcm m) := r_callF cr_lcm cam_lcm hg hmg ha (by decide) he hpl
end

/-! ### isinstance with a written built-in class -/
inductive Ty where
  | int | bool | str | tuple | list
def Ty.nm : Ty → String
  | .int => "int" | .bool => "bool" | .str => "str" | .tuple => "tuple" | .list => "list"
def Ty.nmS : Ty → Str
  | .int => "int" | .bool => "bool" | .str => "str" | .tuple => "tuple" | .list => "list"
def dIsi : Ty → D → Option EV
  | _, .ref _ => none
  | .int, .int _ => some (.d (.bl true))
  | .int, .bl _ => some (.d (.bl true))
  | .bool, .bl _ => some (.d (.bl true))
  | .str, .str _ => some (.d (.bl true))
  | .tuple, .tup _ => some (.d (.bl true))
  | .list, .lst _ => some (.d (.bl true))
  | _, _ => some (.d (.bl false))
def D.ty : D → Option String
  | .non => some "NoneType" | .bl _ => some "bool" | .int _ => some "int" | .str _ => some "str" | .tup _ => some "tuple" | .lst _ => some "list" | .ref _ => none
theorem tyX_of {K : PySem.W.Frag} {S H : Hp} (hs : Same S H) {d : D} {v : V} {n : String} (h : Seen K S H d v) (e : d.ty = some n) : TyX K H v (.type n) := by
  cases d <;> simp only [D.ty, reduceCtorEq, Option.some.injEq] at e <;> subst e
  · rw [seen_non h]; exact .base .non
  · rw [seen_bl h]; exact .base (.bl _)
  · rw [seen_int h]; exact .base (.int _)
  · rw [seen_str h]; exact .base (.str _)
  · obtain ⟨a, vs, rfl, t, l⟩ := seen_tup h
    rcases sqT_same hs t with (t | ⟨o, t⟩) | ⟨o, its, n, k, c, _⟩
    · exact .base (.tup t)
    · exact .fTuple t
    · exact .kTuple k c
  · obtain ⟨a, vs, rfl, t, l⟩ := seen_lst h
    rcases t with (t | ⟨o, t⟩) | ⟨o, its, n, k, c, _⟩
    · exact .base (.lst t)
    · exact .base (.frz t)
    · exact .kList k c
def tIsi (K : PySem.W.Frag) (T : String) (ta : TE) : TE := tCB (rIsi K) (tCons ta (tCons (tC (.ty T)) tNil))
def mIsi (T : Ty) (ma : Rho → R EV) (ρ : Rho) : R EV := (ma ρ).bind fun ea ρ1 => R.of ((rd ρ1 ea).bind fun x => dIsi T x) ρ1
theorem kit_all (K : PySem.W.Frag) (T : Ty) (d : D) (n : String) (ev : EV) (e : d.ty = some n) (h : dIsi T d = some ev) : ∃ b, ev = .d (.bl b) ∧ PySem.W.kitOne K (.type n) (.type T.nm) = some b := by
  cases d <;> simp only [D.ty, reduceCtorEq, Option.some.injEq] at e <;> subst e <;> cases T <;> simp only [dIsi, Option.some.injEq] at h <;> subst h <;> exact ⟨_, rfl, by first | rfl | kernel_rfl⟩
theorem je_isi {K : PySem.W.Frag} {xc : XC} {W : WX} {T : Ty} {ta : TE} {ma : Rho → R EV} (ha : JE K xc W ta ma) : JE K xc W (tIsi K T.nm ta) (mIsi T ma) := by
  intro S H σ ρ Q R h
  refine ha S H σ ρ _ R (ROk.mono (ROk.bind h) (fun ea ρ1 h1 => ?_) fun _ _ z => z)
  intro S1 H1 x s1 R1 e1
  obtain ⟨ev, q, hq⟩ := ROk.of h1
  simp only [Option.bind_eq_some_iff] at q
  obtain ⟨d, q1, q2⟩ := q
  have sn := rd_seen R1 e1 q1
  have hty : ∃ n, d.ty = some n := by
    cases d <;> first | exact ⟨_, rfl⟩ | (cases T <;> simp [dIsi] at q2)
  obtain ⟨n, hn⟩ := hty
  obtain ⟨b, rfl, hk⟩ := kit_all K T d n ev hn q2
  exact ⟨x, .ty T.nm, _, _, b, rfl, .ty _, tyX_of R1.sub sn hn, hk, hq S1 H1 _ s1 R1 (show Den K S1 (.bl b) _ from of_bl)⟩
section
variable {X : Cx} {xc : XC} {W : WX} {a : Expr} {p p2 pos : Pos} {ma : Rho → R EV}
theorem r_isi (T : Ty) (hg : Gl X "isinstance") (hmg : X.mg "isinstance" = none) (hgT : Gl X T.nmS) (hmT : X.mg T.nmS = none) (ha : ME X xc W a ma)
    (he : starEach [a, .Name T.nmS p2] X.env = (false, eval a X.env) :: starEach [.Name T.nmS p2] X.env := by rfl)
    (he2 : starEach [.Name T.nmS p2] X.env = (false, eval (.Name T.nmS p2) X.env) :: starEach [] X.env := by rfl)
    (hpl : (backTo pos (starEach [.Name T.nmS p2] X.env)).any (·.1) = false := by rfl) : ME X xc W (.Call (.Name "isinstance" p) [a, .Name T.nmS p2] [] pos) (mIsi T ma) := by
  have hT : PE X (.Name T.nmS p2) (tC (.ty T.nm)) := by
    cases T
    · exact pe_bltn hgT hmT (by decide +kernel) rfl (by decide) (by decide)
    · exact pe_bltn hgT hmT (by decide +kernel) rfl (by decide) (by decide)
    · exact pe_bltn hgT hmT (by decide +kernel) rfl (by decide) (by decide)
    · exact pe_bltn hgT hmT (by decide +kernel) rfl (by decide) (by decide)
    · exact pe_bltn hgT hmT (by decide +kernel) rfl (by decide) (by decide)
  exact mkE (pe_callB call_isi hg hmg (by decide +kernel) (pa_cons ha (pa_cons hT pa_nil he2) he) (by decide) (by decide) he hpl) (je_isi je_cE)
end
end Mi

set_option Elab.async false
set_option linter.all false
set_option maxRecDepth 100000
set_option autoImplicit false
namespace Mi
open PySem L2
section
variable {K : PySem.W.Frag} {xc : XC} {W : WX} {S S1 S' H H1 H' H0 : Hp} {σ σ1 σ' σ0 : Sg} {ρ ρ1 ρ' ρ0 : Rho}
/-! ### an owned object is changed in its slot -/
theorem own_upd {i : Nat} {b : Bool} {o o' : Mo} {a : Addr} {ho' : HO} (R : Rel K S H σ ρ) (q : ρ[i]? = some (.own b o)) (hv : σ[i]? = some (some (.ref a))) (hm : MoOk K S o' ho') :
    Stp S H σ ρ S (upd H a ho') σ (ρ.set i (.own b o')) ∧ Rel K S (upd H a ho') σ (ρ.set i (.own b o')) := by
  have hi : i < ρ.length := (List.getElem?_eq_some_iff.mp q).1
  obtain ⟨a', ho, k1, k2, k3, k4⟩ := R.cell i _ q
  rw [hv] at k1; cases k1
  have oa : Own σ ρ a := ⟨i, b, o, q, hv⟩
  have fwd : ∀ c, Own σ (ρ.set i (.own b o')) c → Own σ ρ c := fun c ⟨j, bb, m, z1, z2⟩ => by
    rw [get_set] at z1
    split at z1
    · rename_i e; subst e
      exact ⟨i, b, o, q, z2⟩
    · exact ⟨j, bb, m, z1, z2⟩
  have fwdF : ∀ c, OwnF σ (ρ.set i (.own b o')) c → OwnF σ ρ c := fun c ⟨j, m, z1, z2⟩ => by
    rw [get_set] at z1
    split at z1
    · rename_i e; subst e
      rw [if_pos hi] at z1
      cases z1
      exact ⟨i, o, q, z2⟩
    · exact ⟨j, m, z1, z2⟩
  refine ⟨⟨Same.refl _, fun c u h n => ?_, fun c h => ?_, fun c u h => .inl h, fun c h => .inl (fwd c h), fun c h => .inl (fwdF c h), fun j m h => ⟨rfl, ?_⟩, by rw [List.length_set]⟩, ⟨fun c u h => ?_, by rw [List.length_set]; exact R.len, fun j c z => ?_, fun j1 j2 b1 b2 o1 o2 z1 z2 z3 => ?_⟩⟩
  · rw [upd_ne fun z => n (by rw [z]; exact oa)]; exact h
  · by_cases z : c = a
    · subst z; rw [upd_same] at h; cases h
    · rw [upd_ne z] at h; exact h
  · by_cases ji : i = j
    · subst ji
      rw [q] at h; cases h
      exact ⟨o', by rw [get_set, if_pos rfl, if_pos hi]⟩
    · exact ⟨m, by rw [get_set, if_neg ji]; exact h⟩
  · have ne : c ≠ a := fun z => by subst z; rw [k3] at h; cases h
    rw [upd_ne ne]; exact R.sub c u h
  · by_cases ji : i = j
    · subst ji
      rw [get_set, if_pos rfl, if_pos hi] at z
      cases z
      exact ⟨a, ho', hv, upd_same, k3, hm⟩
    · rw [get_set, if_neg ji] at z
      have k := R.cell j c z
      cases c with
      | no => trivial
      | val d => exact k
      | own bb m =>
        obtain ⟨a2, h2, y1, y2, y3, y4⟩ := k
        have ne : a2 ≠ a := fun w => ji (R.dist i j _ _ _ _ q z (by rw [hv, y1, w]))
        exact ⟨a2, h2, y1, by rw [upd_ne ne]; exact y2, y3, y4⟩
  · have e1 : ∃ bb m, ρ[j1]? = some (.own bb m) := by
      rw [get_set] at z1
      split at z1
      · rename_i e; subst e; exact ⟨b, o, q⟩
      · exact ⟨_, _, z1⟩
    have e2 : ∃ bb m, ρ[j2]? = some (.own bb m) := by
      rw [get_set] at z2
      split at z2
      · rename_i e; subst e; exact ⟨b, o, q⟩
      · exact ⟨_, _, z2⟩
    obtain ⟨_, _, e1⟩ := e1
    obtain ⟨_, _, e2⟩ := e2
    exact R.dist j1 j2 _ _ _ _ e1 e2 z3
/-- the owned list of a slot -/
def ownL (i : Nat) (ρ : Rho) : Option (Bool × List D) := match ρ[i]? with
  | some (.own b (.lst xs)) => some (b, xs)
  | _ => none
def ownD (i : Nat) (ρ : Rho) : Option (Bool × List (Key × D)) := match ρ[i]? with
  | some (.own b (.dic xs)) => some (b, xs)
  | _ => none
theorem ownL_eq {i : Nat} {b : Bool} {xs : List D} (h : ownL i ρ = some (b, xs)) : ρ[i]? = some (.own b (.lst xs)) := by
  unfold ownL at h
  split at h
  · rename_i e; simp only [Option.some.injEq, Prod.mk.injEq] at h; obtain ⟨rfl, rfl⟩ := h; exact e
  · cases h
theorem ownD_eq {i : Nat} {b : Bool} {xs : List (Key × D)} (h : ownD i ρ = some (b, xs)) : ρ[i]? = some (.own b (.dic xs)) := by
  unfold ownD at h
  split at h
  · rename_i e; simp only [Option.some.injEq, Prod.mk.injEq] at h; obtain ⟨rfl, rfl⟩ := h; exact e
  · cases h
/-- slot i's list, read off -/
theorem own_lst (R : Rel K S H σ ρ) {i : Nat} {b : Bool} {xs : List D} (q : ρ[i]? = some (.own b (.lst xs))) : ∃ a vs, σ[i]? = some (some (.ref a)) ∧ H a = some (.lst vs) ∧ DenL K S xs vs := by
  obtain ⟨a, ho, k1, k2, k3, vs, rfl, l⟩ := R.cell i _ q
  exact ⟨a, vs, k1, k2, l⟩
theorem own_dic (R : Rel K S H σ ρ) {i : Nat} {b : Bool} {xs : List (Key × D)} (q : ρ[i]? = some (.own b (.dic xs))) : ∃ a vs, σ[i]? = some (some (.ref a)) ∧ H a = some (.dK vs) ∧ KDen K S xs vs := by
  obtain ⟨a, ho, k1, k2, k3, vs, rfl, l⟩ := R.cell i _ q
  exact ⟨a, vs, k1, k2, l⟩
/-- xs.append(e) -/
def mApp (i : Nat) (m : Rho → R EV) (ρ : Rho) : R EV := match ownL i ρ with
  | none => .stuck
  | some _ => (mFrz m ρ).bind fun ev ρ1 => match ev, ownL i ρ1 with
    | .d d, some (b, xs) => if szOk xs.length then .ok (.d .non) (ρ1.set i (.own b (.lst (xs ++ [d])))) else .stuck
    | _, _ => .stuck
theorem je_app {i : Nat} {t : TE} {m : Rho → R EV} (ha : JE K xc W t m) : JE K xc W (tBM K "list" rAppend (tVar i) (tCons t tNil)) (mApp i m) := by
  intro S H σ ρ Q R h
  unfold mApp at h
  cases q0 : ownL i ρ with
  | none => rw [q0] at h; exact h.elim
  | some p0 =>
    rw [q0] at h
    obtain ⟨a, vs0, hv, h0, _⟩ := own_lst R (ownL_eq (b := p0.1) (xs := p0.2) q0)
    refine ⟨.ref a, hv, .inl ⟨rfl, _, SqL.of h0⟩, ?_⟩
    refine je_frz ha S H σ ρ _ R (ROk.mono (ROk.bind h) (fun ev ρ1 h1 => ?_) fun _ _ z => z)
    intro S1 H1 x s1 R1 e1
    cases ev with
    | new o => exact h1.elim
    | slot j => exact h1.elim
    | d d =>
      cases q1 : ownL i ρ1 with
      | none => simp only [q1] at h1; exact h1.elim
      | some p1 =>
        obtain ⟨b, xs⟩ := p1
        simp only [q1] at h1
        have qi := ownL_eq q1
        obtain ⟨a1, vs, hv1, hl, l⟩ := own_lst R1 qi
        rw [hv] at hv1; cases hv1
        by_cases c : szOk xs.length = true
        · rw [if_pos c] at h1
          have l2 : DenL K S1 (xs ++ [d]) (vs ++ [x]) := l.append (DenL.cons e1 DenL.nil)
          obtain ⟨s2, R2⟩ := own_upd R1 qi hv (o' := .lst (xs ++ [d])) (ho' := .lst (vs ++ [x])) ⟨_, rfl, l2⟩
          exact ⟨a, vs, x, rfl, rfl, hl, by rw [l.length]; exact szOk.le c, h1 _ _ _ (s1.trans s2) R2 (show Den K S1 .non .non from by unfold Den; rfl)⟩
        · rw [if_neg c] at h1; exact h1.elim
/-- xs.pop(e) -/
def popAt (xs : List D) (k : Int) : Option (D × List D) := if decide (-(2 ^ 63) ≤ k) && decide (k < 2 ^ 63) then (PySem.seqIndex? k xs.length).bind fun j => (xs[j]?).map fun d => (d, xs.eraseIdx j) else none
def mPop (i : Nat) (m : Rho → R EV) (ρ : Rho) : R EV := match ownL i ρ with
  | none => .stuck
  | some _ => (m ρ).bind fun ev ρ1 => match ev, ownL i ρ1 with
    | .d (.int k), some (b, xs) => match popAt xs k with
      | some p => .ok (.d p.1) (ρ1.set i (.own b (.lst p.2)))
      | none => .stuck
    | _, _ => .stuck
theorem je_pop {i : Nat} {t : TE} {m : Rho → R EV} (ha : JE K xc W t m) : JE K xc W (tBM K "list" rPopAt (tVar i) (tCons t tNil)) (mPop i m) := by
  intro S H σ ρ Q R h
  unfold mPop at h
  cases q0 : ownL i ρ with
  | none => rw [q0] at h; exact h.elim
  | some p0 =>
    rw [q0] at h
    obtain ⟨a, vs0, hv, h0, _⟩ := own_lst R (ownL_eq (b := p0.1) (xs := p0.2) q0)
    refine ⟨.ref a, hv, .inl ⟨rfl, _, SqL.of h0⟩, ?_⟩
    refine ha S H σ ρ _ R (ROk.mono (ROk.bind h) (fun ev ρ1 h1 => ?_) fun _ _ z => z)
    intro S1 H1 x s1 R1 e1
    match ev, h1, e1 with
    | .d (.int k), h1, e1 =>
      cases q1 : ownL i ρ1 with
      | none => simp only [q1] at h1; exact h1.elim
      | some p1 =>
        obtain ⟨b, xs⟩ := p1
        simp only [q1] at h1
        have qi := ownL_eq q1
        obtain ⟨a1, vs, hv1, hl, l⟩ := own_lst R1 qi
        rw [hv] at hv1; cases hv1
        cases qp : popAt xs k with
        | none => rw [qp] at h1; exact h1.elim
        | some p =>
          simp only [qp] at h1
          unfold popAt at qp
          split at qp
          · rename_i c
            simp only [Bool.and_eq_true, decide_eq_true_eq] at c
            simp only [Option.bind_eq_some_iff, Option.map_eq_some_iff] at qp
            obtain ⟨j, w1, d, w2, rfl⟩ := qp
            obtain ⟨y, w3, w4⟩ := l.get w2
            obtain ⟨s2, R2⟩ := own_upd R1 qi hv (o' := .lst (xs.eraseIdx j)) (ho' := .lst (vs.eraseIdx j)) ⟨_, rfl, l.eraseIdx j⟩
            have ex : x = .int k := den_int (show Den K S1 (.int k) x from e1)
            exact ⟨a, vs, k, j, y, rfl, by rw [ex], hl, c.1, c.2, by rw [l.length]; exact w1, w3, h1 _ _ _ (s1.trans s2) R2 (show Den K S1 d y from w4)⟩
          · cases qp
    | .d .non, h1, _ => exact h1.elim
    | .d (.bl _), h1, _ => exact h1.elim
    | .d (.str _), h1, _ => exact h1.elim
    | .d (.ref _), h1, _ => exact h1.elim
    | .d (.tup _), h1, _ => exact h1.elim
    | .d (.lst _), h1, _ => exact h1.elim
    | .new _, h1, _ => exact h1.elim
    | .slot _, h1, _ => exact h1.elim
/-- xs[k] = e -/
def stAt (xs : List D) (k : Int) (d : D) : Option (List D) := (ixN xs.length k).map fun j => xs.set j d
def mStore (i : Nat) (mk mv : Rho → R EV) (ρ : Rho) : Out := (mFrz mv ρ).out fun ev ρ1 => match ev, ownL i ρ1 with
  | .d d, some _ => (mk ρ1).out fun kv ρ2 => match kv, ownL i ρ2 with
    | .d (.int k), some (b, xs) => Out.of ((stAt xs k d).map fun ys => ρ2.set i (.own b (.lst ys)))
    | _, _ => .stuck
  | _, _ => .stuck
theorem js_store {i : Nat} {tk tv : TE} {mk mv : Rho → R EV} (hk : JE K xc W tk mk) (hv : JE K xc W tv mv) : JS K xc W (tAsg tv (gSub (tVar i) tk rSetL)) (mStore i mk mv) := by
  intro S H σ ρ D R h
  refine je_frz hv S H σ ρ _ R (ROk.mono (SPost.out h) (fun ev ρ1 h1 => ?_) fun _ _ z => z)
  intro S1 H1 x s1 R1 e1
  cases ev with
  | new o => exact h1.elim
  | slot j => exact h1.elim
  | d d =>
    cases q0 : ownL i ρ1 with
    | none => simp only [q0] at h1; exact h1.elim
    | some p0 =>
      simp only [q0] at h1
      obtain ⟨a, vs0, ha, h0, _⟩ := own_lst R1 (ownL_eq (b := p0.1) (xs := p0.2) q0)
      refine ⟨.ref a, ha, ?_⟩
      refine hk S1 H1 σ ρ1 _ R1 (ROk.mono (SPost.out (h1.step s1)) (fun kv ρ2 h2 => ?_) fun _ _ z => z)
      intro S2 H2 y s2 R2 e2
      match kv, h2, e2 with
      | .d (.int k), h2, e2 =>
        cases q1 : ownL i ρ2 with
        | none => simp only [q1] at h2; exact h2.elim
        | some p1 =>
          obtain ⟨b, xs⟩ := p1
          simp only [q1] at h2
          have qi := ownL_eq q1
          obtain ⟨a1, vs, hv1, hl, l⟩ := own_lst R2 qi
          rw [ha] at hv1; cases hv1
          cases qs : stAt xs k d with
          | none => rw [qs] at h2; exact h2.elim
          | some ys =>
            rw [qs] at h2
            simp only [stAt, Option.map_eq_some_iff] at qs
            obtain ⟨j, w1, rfl⟩ := qs
            have hd : Den K S2 d x := Den.same s2.ex e1
            obtain ⟨s3, R3⟩ := own_upd R2 qi ha (o' := .lst (xs.set j d)) (ho' := .lst (vs.set j x)) ⟨_, rfl, l.set j hd⟩
            have ey : y = .int k := den_int (show Den K S2 (.int k) y from e2)
            exact ⟨a, vs, k, j, rfl, ey, hl, by rw [l.length]; exact w1, (h2.step s2) S2 _ σ s3 R3⟩
      | .d .non, h2, _ => exact h2.elim
      | .d (.bl _), h2, _ => exact h2.elim
      | .d (.str _), h2, _ => exact h2.elim
      | .d (.ref _), h2, _ => exact h2.elim
      | .d (.tup _), h2, _ => exact h2.elim
      | .d (.lst _), h2, _ => exact h2.elim
      | .new _, h2, _ => exact h2.elim
      | .slot _, h2, _ => exact h2.elim
/-! ### dicts with int and text keys -/
def keyOf : D → Option Key
  | .int i => some (.inl i)
  | .str x => some (.inr x)
  | _ => none
theorem keyOf_v {d : D} {k : Key} {v : V} (h : Den K S d v) (e : keyOf d = some k) : v = kV k := by
  cases d <;> simp only [keyOf, reduceCtorEq, Option.some.injEq] at e <;> subst e
  · exact den_int h
  · exact den_str h
def lookD (kvs : List (Key × D)) (k : Key) : Option D := (kvs.find? fun p => decide (p.1 = k)).map (·.2)
def putD (kvs : List (Key × D)) (k : Key) (d : D) : List (Key × D) :=
  if kvs.any (fun p => decide (p.1 = k)) then kvs.map fun p => if p.1 = k then (p.1, d) else p else kvs ++ [(k, d)]
theorem kden_look : ∀ {kvs : List (Key × D)} {vs : List (Key × V)} {k : Key}, KDen K S kvs vs → (lookD kvs k = none ∧ valV vs k = none) ∨ ∃ d v, lookD kvs k = some d ∧ valV vs k = some v ∧ Den K S d v
  | [], vs, k, h => by
    have e : vs = [] := h
    subst e
    exact .inl ⟨rfl, rfl⟩
  | (k0, d0) :: kvs, vs, k, h => by
    obtain ⟨v, r, rfl, h1, h2⟩ := h
    by_cases c : k0 = k
    · refine .inr ⟨d0, v, ?_, ?_, h1⟩
      · simp [lookD, List.find?, c]
      · simp [valV, List.find?, c]
    · have ih := kden_look (k := k) h2
      have e1 : lookD ((k0, d0) :: kvs) k = lookD kvs k := by simp [lookD, List.find?, c]
      have e2 : valV ((k0, v) :: r) k = valV r k := by simp [valV, List.find?, c]
      rw [e1, e2]
      exact ih
theorem kden_any : ∀ {kvs : List (Key × D)} {vs : List (Key × V)} {k : Key}, KDen K S kvs vs → (kvs.any fun p => decide (p.1 = k)) = vs.any fun p => decide (p.1 = k)
  | [], vs, k, h => by
    have e : vs = [] := h
    subst e; rfl
  | (k0, d0) :: kvs, vs, k, h => by
    obtain ⟨v, r, rfl, h1, h2⟩ := h
    simp only [List.any_cons]
    rw [kden_any h2]
theorem kden_app : ∀ {kvs : List (Key × D)} {vs : List (Key × V)} {k : Key} {d : D} {v : V}, KDen K S kvs vs → Den K S d v → KDen K S (kvs ++ [(k, d)]) (vs ++ [(k, v)])
  | [], vs, k, d, v, h, hd => by
    have e : vs = [] := h
    subst e
    exact ⟨v, [], rfl, hd, rfl⟩
  | (k0, d0) :: kvs, vs, k, d, v, h, hd => by
    obtain ⟨u, r, rfl, h1, h2⟩ := h
    exact ⟨u, _, rfl, h1, kden_app h2 hd⟩
theorem kden_map : ∀ {kvs : List (Key × D)} {vs : List (Key × V)} {k : Key} {d : D} {v : V}, KDen K S kvs vs → Den K S d v → KDen K S (kvs.map fun p => if p.1 = k then (p.1, d) else p) (vs.map fun p => if p.1 = k then (p.1, v) else p)
  | [], vs, k, d, v, h, hd => by
    have e : vs = [] := h
    subst e; rfl
  | (k0, d0) :: kvs, vs, k, d, v, h, hd => by
    obtain ⟨u, r, rfl, h1, h2⟩ := h
    have ih := kden_map (k := k) h2 hd
    by_cases c : k0 = k
    · exact ⟨v, _, by simp [c], by simpa [c] using hd, ih⟩
    · exact ⟨u, _, by simp [c], by simpa [c] using h1, ih⟩
theorem kden_put {kvs : List (Key × D)} {vs : List (Key × V)} {k : Key} {d : D} {v : V} (h : KDen K S kvs vs) (hd : Den K S d v) : KDen K S (putD kvs k d) (putK vs k v) := by
  unfold putD putK
  rw [kden_any h]
  by_cases c : (vs.any fun p => decide (p.1 = k)) = true
  · rw [if_pos c, if_pos c]; exact kden_map h hd
  · rw [if_neg c, if_neg c]; exact kden_app h hd
theorem kden_len : ∀ {kvs : List (Key × D)} {vs : List (Key × V)}, KDen K S kvs vs → vs.length = kvs.length
  | [], vs, h => by
    have e : vs = [] := h
    subst e; rfl
  | (k0, d0) :: kvs, vs, h => by
    obtain ⟨u, r, rfl, h1, h2⟩ := h
    simp [kden_len h2]
def mDnew (ρ : Rho) : R EV := .ok (.new (.dic [])) ρ
theorem je_dnew : JE K xc W tDNewK mDnew := fun S H σ ρ Q R h p hp =>
  have g : Grow S H S (upd H p (.dK [])) := Grow.loose R.sub hp
  h _ _ _ (.laid g) (R.laid g) (EvG.ok R (show EvG K H S _ (.ref p) (.new (.dic [])) from ⟨p, _, rfl, hp, upd_same, L2.Same.free R.sub hp, [], rfl, rfl⟩))
/-- y in d, y not in d; d a slot -/
def mIn (neg : Bool) (i : Nat) (m : Rho → R EV) (ρ : Rho) : R EV := (m ρ).bind fun ev ρ1 => match ev, ownD i ρ1 with
  | .d d, some (_, kvs) => R.of ((keyOf d).map fun k => .d (.bl (xor neg (lookD kvs k).isSome))) ρ1
  | _, _ => .stuck
theorem je_notin {i : Nat} {t : TE} {m : Rho → R EV} (ha : JE K xc W t m) : JE K xc W (tDNotIn t (tVar i)) (mIn true i m) := by
  intro S H σ ρ Q R h
  refine ha S H σ ρ _ R (ROk.mono (ROk.bind h) (fun ev ρ1 h1 => ?_) fun _ _ z => z)
  intro S1 H1 x s1 R1 e1
  cases ev with
  | new o => exact h1.elim
  | slot j => exact h1.elim
  | d d =>
    cases q0 : ownD i ρ1 with
    | none => simp only [q0] at h1; exact h1.elim
    | some p0 =>
      obtain ⟨b, kvs⟩ := p0
      simp only [q0] at h1
      obtain ⟨a, vs, ha, h0, l⟩ := own_dic R1 (ownD_eq q0)
      obtain ⟨ev, w1, w2⟩ := ROk.of h1
      simp only [Option.map_eq_some_iff] at w1
      obtain ⟨k, w3, rfl⟩ := w1
      have ex := keyOf_v (show Den K S1 d x from e1) w3
      refine ⟨.ref a, ha, a, valV vs k, rfl, by rw [ex]; exact DGet.k h0, ?_⟩
      refine w2 S1 H1 _ s1 R1 ?_
      show Den K S1 (.bl _) _
      rcases kden_look (k := k) l with ⟨z1, z2⟩ | ⟨d', v', z1, z2, _⟩
      · rw [z1, z2]; exact of_bl
      · rw [z1, z2]; exact of_bl
theorem je_in {i : Nat} {t : TE} {m : Rho → R EV} (ha : JE K xc W t m) : JE K xc W (tDIn t (tVar i)) (mIn false i m) := by
  intro S H σ ρ Q R h
  refine ha S H σ ρ _ R (ROk.mono (ROk.bind h) (fun ev ρ1 h1 => ?_) fun _ _ z => z)
  intro S1 H1 x s1 R1 e1
  cases ev with
  | new o => exact h1.elim
  | slot j => exact h1.elim
  | d d =>
    cases q0 : ownD i ρ1 with
    | none => simp only [q0] at h1; exact h1.elim
    | some p0 =>
      obtain ⟨b, kvs⟩ := p0
      simp only [q0] at h1
      obtain ⟨a, vs, ha, h0, l⟩ := own_dic R1 (ownD_eq q0)
      obtain ⟨ev, w1, w2⟩ := ROk.of h1
      simp only [Option.map_eq_some_iff] at w1
      obtain ⟨k, w3, rfl⟩ := w1
      have ex := keyOf_v (show Den K S1 d x from e1) w3
      refine ⟨.ref a, ha, a, valV vs k, rfl, by rw [ex]; exact DGet.k h0, ?_⟩
      refine w2 S1 H1 _ s1 R1 ?_
      show Den K S1 (.bl _) _
      rcases kden_look (k := k) l with ⟨z1, z2⟩ | ⟨d', v', z1, z2, _⟩
      · rw [z1, z2]; exact of_bl
      · rw [z1, z2]; exact of_bl
/-- d[y] = e; d a slot -/
def mDput (i : Nat) (mk mv : Rho → R EV) (ρ : Rho) : Out := (mFrz mv ρ).out fun ev ρ1 => match ev, ownD i ρ1 with
  | .d d, some _ => (mk ρ1).out fun kv ρ2 => match kv, ownD i ρ2 with
    | .d kd, some (b, kvs) => Out.of ((keyOf kd).bind fun k => if szOk kvs.length then some (ρ2.set i (.own b (.dic (putD kvs k d)))) else none)
    | _, _ => .stuck
  | _, _ => .stuck
theorem js_dput {i : Nat} {tk tv : TE} {mk mv : Rho → R EV} (hk : JE K xc W tk mk) (hv : JE K xc W tv mv) : JS K xc W (sDPut (tVar i) tk tv) (mDput i mk mv) := by
  intro S H σ ρ D R h
  refine je_frz hv S H σ ρ _ R (ROk.mono (SPost.out h) (fun ev ρ1 h1 => ?_) fun _ _ z => z)
  intro S1 H1 x s1 R1 e1
  cases ev with
  | new o => exact h1.elim
  | slot j => exact h1.elim
  | d d =>
    cases q0 : ownD i ρ1 with
    | none => simp only [q0] at h1; exact h1.elim
    | some p0 =>
      simp only [q0] at h1
      obtain ⟨a, vs0, ha, h0, _⟩ := own_dic R1 (ownD_eq (b := p0.1) (xs := p0.2) q0)
      refine ⟨.ref a, ha, ?_⟩
      refine hk S1 H1 σ ρ1 _ R1 (ROk.mono (SPost.out (h1.step s1)) (fun kv ρ2 h2 => ?_) fun _ _ z => z)
      intro S2 H2 y s2 R2 e2
      cases kv with
      | new o => exact h2.elim
      | slot j => exact h2.elim
      | d kd =>
        cases q1 : ownD i ρ2 with
        | none => simp only [q1] at h2; exact h2.elim
        | some p1 =>
          obtain ⟨b, kvs⟩ := p1
          simp only [q1] at h2
          have qi := ownD_eq q1
          obtain ⟨a1, vs, hv1, hl, l⟩ := own_dic R2 qi
          rw [ha] at hv1; cases hv1
          cases qk : keyOf kd with
          | none => rw [qk] at h2; exact h2.elim
          | some k =>
            by_cases c : szOk kvs.length = true
            · simp only [qk, Option.bind_some, if_pos c, Out.of] at h2
              have hd : Den K S2 d x := Den.same s2.ex e1
              obtain ⟨s3, R3⟩ := own_upd R2 qi ha (o' := .dic (putD kvs k d)) (ho' := .dK (putK vs k x)) ⟨_, rfl, kden_put l hd⟩
              have ey := keyOf_v (show Den K S2 kd y from e2) qk
              exact ⟨a, _, rfl, by rw [ey]; exact DPut.k hl (by rw [kden_len l]; exact szOk.le c), (h2.step s2) S2 _ σ s3 R3⟩
            · simp only [qk, Option.bind_some, if_neg c, Out.of] at h2; exact h2.elim
/-! ### two names at once -/
theorem putC_eq {i : Nat} {ev : EV} {ρ2 : Rho} (h : putC i ev ρ = some ρ2) : ∃ c, ρ2 = ρ.set i c ∧ ∀ b o, c = .own b o → ev = .new o := by
  unfold putC at h
  split at h
  · cases h
  · cases h
  · split at h
    · cases h; exact ⟨_, rfl, fun b o z => nomatch z⟩
    · cases h; exact ⟨_, rfl, fun b o z => by cases z; rfl⟩
    · cases h
def mPar (i j : Nat) (ma mb : Rho → R EV) (ρ : Rho) : Out := (ma ρ).out fun ea ρ1 => (mb ρ1).out fun eb ρ2 => Out.of ((putC i ea ρ2).bind fun ρ3 => putC j eb ρ3)
theorem js_par {i j : Nat} {ta tb : TE} {ma mb : Rho → R EV} (ha : JE K xc W ta ma) (hb : JE K xc W tb mb) : JS K xc W (tPar i j (tCons ta (tCons tb tNil))) (mPar i j ma mb) := by
  intro S H σ ρ D R h
  refine ha S H σ ρ _ R (ROk.mono (SPost.out h) (fun ea ρ1 h1 => ?_) fun _ _ z => z)
  intro S1 H1 x s1 R1 e1
  refine hb S1 H1 σ ρ1 _ R1 (ROk.mono (SPost.out h1) (fun eb ρ2 h2 => ?_) fun _ _ z => z.step s1)
  intro S2 H2 y s2 R2 e2
  refine ⟨x, y, rfl, ?_⟩
  cases q1 : putC i ea ρ2 with
  | none => rw [q1] at h2; exact h2.elim
  | some ρ3 =>
    simp only [q1, Option.bind_some] at h2
    cases q2 : putC j eb ρ3 with
    | none => rw [q2] at h2; exact h2.elim
    | some ρ4 =>
      rw [q2] at h2
      obtain ⟨s3, R3⟩ := put_ok (s1.trans s2) R2 (e1.step s2) q1
      have e3 : EvOk K σ ρ H S2 H2 (σ.set i (some x)) ρ3 y eb := by
        cases eb with
        | slot k =>
          obtain ⟨c, _, _⟩ := putC_eq q2
          unfold putC at q2
          split at q2
          · cases q2
          · cases q2
          · cases q2
        | d d => exact e2
        | new o =>
          have e2' := EvOk.back s1 e2
          obtain ⟨a2, ho, k1, k2, k3, k4, k5, k6⟩ := e2
          obtain ⟨a3, ho3, w1, w2, w3, w4, w5, w6⟩ := e2'
          rw [k1] at w1
          cases w1
          refine ⟨a2, ho, k1, k2, k3, fun ⟨k, bb, m, z1, z2⟩ => ?_, k5, w6⟩
          obtain ⟨c, rfl, hc⟩ := putC_eq q1
          by_cases ik : i = k
          · subst ik
            have hi : i < ρ2.length := by
              have z := (List.getElem?_eq_some_iff.mp z1).1
              rw [List.length_set] at z; exact z
            rw [get_set, if_pos rfl, if_pos hi] at z1
            have ec := hc _ _ (Option.some.inj z1)
            subst ec
            obtain ⟨a1, _, y1, y2, _, y4, _⟩ := e1
            have hi' : i < σ.length := by rw [R2.len]; exact hi
            rw [get_set, if_pos rfl, if_pos hi'] at z2
            have z3 : x = .ref a2 := by simpa using z2
            rw [y1] at z3
            cases z3
            rcases k6 with z | z
            · rw [y2] at z; cases z
            · exact y4 z.own
          · rw [get_set, if_neg ik] at z1 z2
            exact k4 ⟨k, bb, m, z1, z2⟩
      obtain ⟨s4, R4⟩ := put_ok s3 R3 e3 q2
      exact h2 S2 H2 _ s4 R4
end
section
variable {X : Cx} {xc : XC} {W : WX} {a b e : Expr} {es : List Expr} {p pos pos' apos : Pos} {ma mb mk : Rho → R EV} {x y : Str}
theorem r_app {i : Nat} (hN : X.N[i]? = some x) (hv : Vis X.env.scope x) (ha : ME X xc W e ma) (hd : (x == ("__debug__" : Str)) = false := by decide) (hcd : (x == ("__classdict__" : Str)) = false := by decide)
    (hbase : attributeBase (.Name x p) "append" X.env (eval (.Name x p) X.env) = eval (.Name x p) X.env := by rfl)
    (hfew : ((backTo pos (starEach [e] X.env)).all (fun x => !x.1) && (backToKw pos (keywordEach [] X.env)).all (fun x => x.1.isSome)
      && decide (([e] : List Expr).length + ([] : List Keyword).length + (if ([] : List Keyword).isEmpty then 0 else 1) < 30)) = true := by rfl)
    (hline : (apos.endLine == pos.line) = true := by rfl) (hs : starEach [e] X.env = (false, eval e X.env) :: starEach [] X.env := by rfl) :
    ME X xc W (.Call (.Attribute (.Name x p) "append" apos) [e] [] pos) (mApp i ma) :=
  mkE (pe_bm PySem.F.plainAttrs_list PySem.F.slot_list_append PySem.F.type_list_append mt_append (pe_var hN hv hd hcd) (pa_cons ha pa_nil hs) hbase hfew hline hs) (je_app je_cE)
theorem r_pop {i : Nat} (hN : X.N[i]? = some x) (hv : Vis X.env.scope x) (ha : ME X xc W e ma) (hd : (x == ("__debug__" : Str)) = false := by decide) (hcd : (x == ("__classdict__" : Str)) = false := by decide)
    (hbase : attributeBase (.Name x p) "pop" X.env (eval (.Name x p) X.env) = eval (.Name x p) X.env := by rfl)
    (hfew : ((backTo pos (starEach [e] X.env)).all (fun x => !x.1) && (backToKw pos (keywordEach [] X.env)).all (fun x => x.1.isSome)
      && decide (([e] : List Expr).length + ([] : List Keyword).length + (if ([] : List Keyword).isEmpty then 0 else 1) < 30)) = true := by rfl)
    (hline : (apos.endLine == pos.line) = true := by rfl) (hs : starEach [e] X.env = (false, eval e X.env) :: starEach [] X.env := by rfl) :
    ME X xc W (.Call (.Attribute (.Name x p) "pop" apos) [e] [] pos) (mPop i ma) :=
  mkE (pe_bm PySem.F.plainAttrs_list PySem.F.slot_list_pop PySem.F.type_list_pop mt_popAt (pe_var hN hv hd hcd) (pa_cons ha pa_nil hs) hbase hfew hline hs) (je_pop je_cE)
theorem s_store {i : Nat} (hN : X.N[i]? = some x) (hv : Vis X.env.scope x) (hk : ME X xc W b mk) (he : ME X xc W e ma) (hd : (x == ("__debug__" : Str)) = false := by decide) (hcd : (x == ("__classdict__" : Str)) = false := by decide)
    (hs : swapsWithSole [.Subscript (.Name x p) b apos] e pos.line X.env = pure false := by rfl) (hw : swappedStores [.Subscript (.Name x p) b apos] e X.env = pure none := by rfl)
    (hg : ∀ v, assign (.Subscript (.Name x p) b apos) X.env v = (do
      let ov ← holding [v] (eval (.Name x p) X.env)
      let iv ← holding [v, ov] (eval b X.env)
      standAt apos
      holding [v, ov, iv] (setItem ov iv v)
      release [v, ov, iv] []) := by intro _; rfl) :
    MS X xc W (.Assign [.Subscript (.Name x p) b apos] e pos) (mStore i mk ma) := mkS (ps_asg he (pg_sub (pe_var hN hv hd hcd) hk set_list hg) hs hw) (js_store je_cE je_cE)
theorem s_dput {i : Nat} (hu : X.A.units + 1 < cLine) (hN : X.N[i]? = some x) (hv : Vis X.env.scope x) (hk : ME X xc W b mk) (he : ME X xc W e ma) (hd : (x == ("__debug__" : Str)) = false := by decide) (hcd : (x == ("__classdict__" : Str)) = false := by decide)
    (hs : swapsWith e (some (.Subscript (.Name x p) b pos')) pos.line X.env = pure false := by rfl) :
    MS X xc W (.Assign [.Subscript (.Name x p) b pos'] e pos) (mDput i mk ma) := mkS (ps_dput hu (pe_var hN hv hd hcd) hk he hs) (js_dput je_cE je_cE)
theorem r_dnew : ME X xc W (.Dict [] [] pos) mDnew := mkE pe_dnewK je_dnew
theorem t_notin {i : Nat} (hu : X.A.units + 1 < cLine) (hN : X.N[i]? = some x) (hv : Vis X.env.scope x) (ha : ME X xc W a ma) (hd : (x == ("__debug__" : Str)) = false := by decide) (hcd : (x == ("__classdict__" : Str)) = false := by decide) :
    MT X xc W (.Compare a [.NotIn] [.Name x p] pos) (mTst (mIn true i ma)) := mkT (pt_cmp (pc_dnotin hu ha (pe_var hN hv hd hcd)) (by rfl)) (jt_test (je_notin je_cE))
theorem t_in {i : Nat} (hu : X.A.units + 1 < cLine) (hN : X.N[i]? = some x) (hv : Vis X.env.scope x) (ha : ME X xc W a ma) (hd : (x == ("__debug__" : Str)) = false := by decide) (hcd : (x == ("__classdict__" : Str)) = false := by decide) :
    MT X xc W (.Compare a [.In] [.Name x p] pos) (mTst (mIn false i ma)) := mkT (pt_cmp (pc_din hu ha (pe_var hN hv hd hcd)) (by rfl)) (jt_test (je_in je_cE))
theorem s_par {i j : Nat} {px py pt : Pos} {kt k2 pt2} (hc : X.calm = true) (hN : X.N.Nodup) (hi : X.N[i]? = some x) (hj : X.N[j]? = some y) (hij : i ≠ j)
    (hx : X.env.scope.names.lookup x = some .local) (hy : X.env.scope.names.lookup y = some .local) (ha : ME X xc W a ma) (hb : ME X xc W b mb)
    (hw : swappedStores [.Tuple [.Name x px, .Name y py] kt pt] (.Tuple [a, b] k2 pt2) X.env = pure (some [x, y]))
    (hs : swapsWithSole [.Tuple [.Name x px, .Name y py] kt pt] (.Tuple [a, b] k2 pt2) pos.line X.env = pure false := by rfl)
    (h1 : starEach [a, b] X.env = (false, eval a X.env) :: starEach [b] X.env := by rfl) (h2 : starEach [b] X.env = (false, eval b X.env) :: starEach [] X.env := by rfl) :
    MS X xc W (.Assign [.Tuple [.Name x px, .Name y py] kt pt] (.Tuple [a, b] k2 pt2) pos) (mPar i j ma mb) := mkS (ps_par hc hN hi hj hij hx hy (pa_cons ha (pa_cons hb pa_nil h2) h1) hw hs) (js_par je_cE je_cE)
end
end Mi

set_option Elab.async false
set_option linter.all false
set_option maxRecDepth 100000
set_option autoImplicit false
namespace Mi
open PySem L2
/-! ### what a loop walks -/
section
variable {X : Cx} {tg : Expr}
def iSq (K : PySem.W.Frag) (tl : TE) : TI := fun σ H Rq => tl σ H fun x H1 => ∃ a, x = .ref a ∧ (((∃ xs, SqL K H1 a xs) ∧ Rq (Itl K a) H1) ∨ ((∃ xs, SqT K H1 a xs) ∧ Rq (Itt K a) H1))
theorem pi_sq {l : Expr} {tl : TE} (hl : PE X l tl) : PI X tg l (iSq X.K tl) := by
  constructor
  intro pins s σ H Rq I h
  refine thn (hl.run pins s σ H _ I h) ?_
  rintro v s1 ⟨x, H1, I1, r1, a, rfl, q1⟩
  cases r1
  have fresh : ∀ b ∈ [s1.heap.objs.size], FpOk X pins H1 b := by
    intro b hb
    have e : b = s1.heap.objs.size := by simpa using hb
    rw [e]
    exact I1.fpOk (Nat.le_refl _) (I1.hok.fresh (Nat.le_refl _))
  rcases q1 with ⟨⟨xs, hq⟩, q⟩ | ⟨⟨xs, hq⟩, q⟩
  · obtain ⟨its, rv, pl, hz⟩ := I1.list hq
    refine wpAny_pyIter_list pl.isList ?_
    have I2 := I1.kept (t' := s1.toks) (h' := s1.heap.push { cls := .type "list_iterator", data := .fields #[.ref a, .int 0 0] }) fun b o e => Heap.get?_push_of_some _ e
    exact ⟨_, _, _, _, H1, rfl, I2, turn_list a _, ⟨_, Heap.get?_push_size _ rfl, rfl, rfl⟩, fresh, q⟩
  · obtain ⟨its, rv, pl, hz⟩ := I1.tuple hq
    refine wpAny_pyIter_tuple (show s1.heap.IsTuple a its.toArray from pl) ?_
    have I2 := I1.kept (t' := s1.toks) (h' := s1.heap.push { cls := .type "tuple_iterator", data := .fields #[.ref a, .int 0 0] }) fun b o e => Heap.get?_push_of_some _ e
    exact ⟨_, _, _, _, H1, rfl, I2, turn_tuple a _, ⟨_, Heap.get?_push_size _ rfl, rfl, rfl⟩, fresh, q⟩
end
section
variable {K : PySem.W.Frag} {xc : XC} {W : WX} {S S1 S' H H1 H' H0 : Hp} {σ σ1 σ2 σ' σ0 : Sg} {ρ ρ1 ρ2 ρ' ρ0 : Rho}
def mIt (m : Rho → R EV) (ρ : Rho) : R (List D) := (mFrz m ρ).bind fun ev ρ1 => match ev with
  | .d (.lst ds) => .ok ds ρ1
  | .d (.tup ds) => .ok ds ρ1
  | _ => .stuck
theorem it_lst {a : Addr} {vs : List V} {ds : List D} (t : SqL K S a vs) (l : DenL K S ds vs) : ItOk K S ds (Itl K a) := by
  intro S1 H1 h1 h2 i
  have t1 := sqL_same (h1.trans h2) t
  refine ⟨fun c => ?_, fun c => ⟨vs, t1, by rw [l.length]; exact c⟩⟩
  obtain ⟨v, e1, e2⟩ := l.get (List.getElem?_eq_getElem c)
  refine ⟨⟨vs, v, t1, e1⟩, fun x H2 ⟨hH, hx⟩ => ?_⟩
  subst hH
  have e3 := hx vs t1
  rw [e1] at e3
  cases e3
  exact ⟨S1, .refl h2, _, List.getElem?_eq_getElem c, e2.same h1⟩
theorem it_tup {a : Addr} {vs : List V} {ds : List D} (t : SqT K S a vs) (l : DenL K S ds vs) : ItOk K S ds (Itt K a) := by
  intro S1 H1 h1 h2 i
  have t1 := sqT_same (h1.trans h2) t
  refine ⟨fun c => ?_, fun c => ⟨vs, t1, by rw [l.length]; exact c⟩⟩
  obtain ⟨v, e1, e2⟩ := l.get (List.getElem?_eq_getElem c)
  refine ⟨⟨vs, v, t1, e1⟩, fun x H2 ⟨hH, hx⟩ => ?_⟩
  subst hH
  have e3 := hx vs t1
  rw [e1] at e3
  cases e3
  exact ⟨S1, .refl h2, _, List.getElem?_eq_getElem c, e2.same h1⟩
theorem ji_sq {t : TE} {m : Rho → R EV} (ha : JE K xc W t m) : JI K xc W (iSq K t) (mIt m) := by
  intro S H σ ρ Q R h
  refine je_frz ha S H σ ρ _ R (ROk.mono (ROk.bind h) (fun ev ρ1 h1 => ?_) fun _ _ z => z)
  intro S1 H1 x s1 R1 e1
  match ev, h1, e1 with
  | .d (.lst ds), h1, e1 =>
    obtain ⟨a, vs, rfl, t, l⟩ := den_lst (show Den K S1 (.lst ds) x from e1)
    exact ⟨a, rfl, .inl ⟨⟨vs, sqL_same R1.sub t⟩, h1 S1 H1 _ s1 R1 (it_lst t l)⟩⟩
  | .d (.tup ds), h1, e1 =>
    obtain ⟨a, vs, rfl, t, l⟩ := den_tup (show Den K S1 (.tup ds) x from e1)
    exact ⟨a, rfl, .inr ⟨⟨vs, sqT_same R1.sub t⟩, h1 S1 H1 _ s1 R1 (it_tup t l)⟩⟩
  | .d .non, h1, _ => exact h1.elim
  | .d (.bl _), h1, _ => exact h1.elim
  | .d (.int _), h1, _ => exact h1.elim
  | .d (.str _), h1, _ => exact h1.elim
  | .d (.ref _), h1, _ => exact h1.elim
  | .new _, h1, _ => exact h1.elim
  | .slot _, h1, _ => exact h1.elim
/-- lo, lo + 1, .. -/
def rngD (lo : Int) (n : Nat) : List D := (List.range n).map fun i : Nat => D.int (lo + i)
def rngOk (i : Int) : Bool := decide (-1000000 ≤ i) && decide (i ≤ 1000000)
theorem it_rng {lo : Int} {n : Nat} : ItOk K S (rngD lo n) (Itr lo n) := by
  intro S1 H1 h1 h2 i
  have hl : (rngD lo n).length = n := by unfold rngD; rw [List.length_map, List.length_range]
  rw [hl]
  refine ⟨fun c => ⟨c, fun x H2 ⟨hH, hx⟩ => ?_⟩, fun c => c⟩
  subst hH
  refine ⟨S1, .refl h2, .int (lo + i), ?_, by rw [hx]; exact of_int⟩
  unfold rngD
  rw [List.getElem?_map, List.getElem?_range c]
  rfl
def mRng1 (m : Rho → R EV) (ρ : Rho) : R (List D) := (m ρ).bind fun ev ρ1 => match ev with
  | .d (.int j) => if rngOk j then .ok (rngD 0 j.toNat) ρ1 else .stuck
  | _ => .stuck
theorem ji_rng1 {t : TE} {m : Rho → R EV} (ha : JE K xc W t m) : JI K xc W (iRng1 (tCons t tNil)) (mRng1 m) := by
  intro S H σ ρ Q R h
  refine ha S H σ ρ _ R (ROk.mono (ROk.bind h) (fun ev ρ1 h1 => ?_) fun _ _ z => z)
  intro S1 H1 x s1 R1 e1
  match ev, h1, e1 with
  | .d (.int j), h1, e1 =>
    have ex := den_int (show Den K S1 (.int j) x from e1)
    by_cases c : rngOk j = true
    · simp only [if_pos c] at h1
      simp only [rngOk, Bool.and_eq_true, decide_eq_true_eq] at c
      exact ⟨j, by rw [ex], by omega, by omega, h1 S1 H1 _ s1 R1 it_rng⟩
    · simp only [if_neg c] at h1; exact h1.elim
  | .d .non, h1, _ => exact h1.elim
  | .d (.bl _), h1, _ => exact h1.elim
  | .d (.str _), h1, _ => exact h1.elim
  | .d (.ref _), h1, _ => exact h1.elim
  | .d (.tup _), h1, _ => exact h1.elim
  | .d (.lst _), h1, _ => exact h1.elim
  | .new _, h1, _ => exact h1.elim
  | .slot _, h1, _ => exact h1.elim
def mRng2 (m n : Rho → R EV) (ρ : Rho) : R (List D) := (m ρ).bind fun ev ρ1 => (n ρ1).bind fun ew ρ2 => match ev, ew with
  | .d (.int i), .d (.int j) => if rngOk i && rngOk j then .ok (rngD i (j - i).toNat) ρ2 else .stuck
  | _, _ => .stuck
theorem ev_int {σ0 : Sg} {v : V} {ev : EV} (h : EvOk K σ0 ρ0 H0 S H σ ρ v ev) {i : Int} (e : ev = .d (.int i)) : v = .int i := by subst e; exact den_int (show Den K S (.int i) v from h)
theorem ji_rng2 {t u : TE} {m n : Rho → R EV} (ha : JE K xc W t m) (hb : JE K xc W u n) : JI K xc W (iRng2 (tCons t (tCons u tNil))) (mRng2 m n) := by
  intro S H σ ρ Q R h
  refine ha S H σ ρ _ R (ROk.mono (ROk.bind h) (fun ev ρ1 h1 => ?_) fun _ _ z => z)
  intro S1 H1 x s1 R1 e1
  refine hb S1 H1 σ ρ1 _ R1 (ROk.mono (ROk.bind h1) (fun ew ρ2 h2 => ?_) fun _ _ z => z.step s1)
  intro S2 H2 y s2 R2 e2
  split at h2
  · rename_i i j
    by_cases c : (rngOk i && rngOk j) = true
    · simp only [if_pos c] at h2
      simp only [rngOk, Bool.and_eq_true, decide_eq_true_eq] at c
      exact ⟨i, j, by rw [ev_int e1 rfl, ev_int e2 rfl], ⟨by omega, by omega, by omega, by omega⟩, h2 S2 H2 _ (s1.trans s2) R2 it_rng⟩
    · simp only [if_neg c] at h2; exact h2.elim
  · exact h2.elim
/-! list(range(..)), tuple(range(..)) -/
theorem den_rng {lo hi : Int} : DenL K S (rngD lo (hi - lo).toNat) (rgV lo hi) := by
  unfold rngD rgV
  generalize (hi - lo).toNat = n
  induction n with
  | zero => exact DenL.nil
  | succ n ih =>
    rw [List.range_succ, List.map_append, List.map_append]
    exact ih.append (DenL.cons of_int DenL.nil)
def mLstRg1 (m : Rho → R EV) (ρ : Rho) : R EV := (mRng1 m ρ).bind fun ds ρ1 => .ok (.new (.lst ds)) ρ1
def mTupRg1 (m : Rho → R EV) (ρ : Rho) : R EV := (mRng1 m ρ).bind fun ds ρ1 => .ok (.d (.tup ds)) ρ1
theorem je_lstRg1 {t : TE} {m : Rho → R EV} (ha : JE K xc W t m) : JE K xc W (tLstRg (tRg1 t)) (mLstRg1 m) := by
  intro S H σ ρ Q R h
  refine ha S H σ ρ _ R (ROk.mono (ROk.bind (ROk.bind h)) (fun ev ρ1 h1 => ?_) fun _ _ z => z)
  intro S1 H1 x s1 R1 e1
  split at h1
  · rename_i j
    by_cases c : rngOk j = true
    · simp only [if_pos c, ROk] at h1
      simp only [rngOk, Bool.and_eq_true, decide_eq_true_eq] at c
      refine ⟨j, ev_int e1 rfl, ⟨by omega, by omega, by omega, by omega, by omega⟩, fun p hp => ?_⟩
      have g : Grow S1 H1 S1 (upd H1 p (.lst (rgV 0 j))) := Grow.loose R1.sub hp
      have l : DenL K S1 (rngD 0 j.toNat) (rgV 0 j) := by
        have z := den_rng (K := K) (S := S1) (lo := 0) (hi := j)
        rw [Int.sub_zero] at z; exact z
      exact h1 _ _ _ (s1.trans (.laid g)) (R1.laid g) (EvOk.back s1 ((evg_lst R1.sub hp l).ok R1))
    · simp only [if_neg c] at h1; exact h1.elim
  · exact h1.elim
theorem je_tupRg1 {t : TE} {m : Rho → R EV} (ha : JE K xc W t m) : JE K xc W (tTupRg (tRg1 t)) (mTupRg1 m) := by
  intro S H σ ρ Q R h
  refine ha S H σ ρ _ R (ROk.mono (ROk.bind (ROk.bind h)) (fun ev ρ1 h1 => ?_) fun _ _ z => z)
  intro S1 H1 x s1 R1 e1
  split at h1
  · rename_i j
    by_cases c : rngOk j = true
    · simp only [if_pos c, ROk] at h1
      simp only [rngOk, Bool.and_eq_true, decide_eq_true_eq] at c
      refine ⟨j, ev_int e1 rfl, ⟨by omega, by omega, by omega, by omega, by omega⟩, fun p hp => ?_⟩
      have g : Grow S1 H1 (upd S1 p (.tup (rgV 0 j))) (upd H1 p (.tup (rgV 0 j))) := Grow.stable R1.sub hp
      have l : DenL K S1 (rngD 0 j.toNat) (rgV 0 j) := by
        have z := den_rng (K := K) (S := S1) (lo := 0) (hi := j)
        rw [Int.sub_zero] at z; exact z
      exact h1 _ _ _ (s1.trans (.laid g)) (R1.laid g) (show Den K _ (.tup _) _ from of_tup (SqT.of upd_same) (l.same g.s))
    · simp only [if_neg c] at h1; exact h1.elim
  · exact h1.elim
/-! [c] * n -/
def mRep (ma mb : Rho → R EV) (ρ : Rho) : R EV := (ma ρ).bind fun ea ρ1 => (mb ρ1).bind fun eb ρ2 => match ea, eb with
  | .new (.lst xs), .d (.int k) => if decide (-1000000 ≤ k) && decide (k ≤ 1000000) && decide (xs.length * k.toNat ≤ 1000000) then .ok (.new (.lst (List.replicate k.toNat xs).flatten)) ρ2 else .stuck
  | _, _ => .stuck
theorem den_rep {ds : List D} {vs : List V} (l : DenL K S ds vs) : ∀ n : Nat, DenL K S (List.replicate n ds).flatten (List.replicate n vs).flatten
  | 0 => DenL.nil
  | n + 1 => by
    rw [List.replicate_succ, List.replicate_succ, List.flatten_cons, List.flatten_cons]
    exact l.append (den_rep l n)
theorem je_rep {ta tb : TE} {ma mb : Rho → R EV} (ha : JE K xc W ta ma) (hb : JE K xc W tb mb) : JE K xc W (tOp rRep ta tb) (mRep ma mb) := by
  intro S H σ ρ Q R h
  refine ha S H σ ρ _ R (ROk.mono (ROk.bind h) (fun ev ρ1 h1 => ?_) fun _ _ z => z)
  intro S1 H1 x s1 R1 e1
  refine hb S1 H1 σ ρ1 _ R1 (ROk.mono (ROk.bind h1) (fun ew ρ2 h2 => ?_) fun _ _ z => z.step s1)
  intro S2 H2 y s2 R2 e2
  split at h2
  · rename_i xs k
    by_cases c : (decide (-1000000 ≤ k) && decide (k ≤ 1000000) && decide (xs.length * k.toNat ≤ 1000000)) = true
    · simp only [if_pos c] at h2
      simp only [Bool.and_eq_true, decide_eq_true_eq] at c
      obtain ⟨a, ho, k1, k2, k3, k4, ⟨vs, rfl, l⟩, k6⟩ := e1.step s2
      have hz : vs.length * k.toNat ≤ sizeLine := by rw [l.length, sizeLine_eq]; omega
      refine ⟨a, k, vs, k1, ev_int e2 rfl, k2, by omega, by omega, hz, fun p hp => ?_⟩
      have g : Grow S2 H2 S2 (upd H2 p (.lst (List.replicate k.toNat vs).flatten)) := Grow.loose R2.sub hp
      exact h2 _ _ _ ((s1.trans s2).trans (.laid g)) (R2.laid g) (EvOk.back (s1.trans s2) ((evg_lst R2.sub hp (den_rep l _)).ok R2))
    · simp only [if_neg c] at h2; exact h2.elim
  · exact h2.elim
/-! xs[::-1], xs[lo:hi] -/
def mRev (m : Rho → R EV) (ρ : Rho) : R EV := (m ρ).bind fun ev ρ1 => match rd ρ1 ev with
  | some (.lst ds) => .ok (.new (.lst ds.reverse)) ρ1
  | _ => .stuck
theorem je_rev {t : TE} {m : Rho → R EV} (ha : JE K xc W t m) : JE K xc W (tRevL K t) (mRev m) := by
  intro S H σ ρ Q R h
  refine ha S H σ ρ _ R (ROk.mono (ROk.bind h) (fun ev ρ1 h1 => ?_) fun _ _ z => z)
  intro S1 H1 x s1 R1 e1
  split at h1
  · rename_i ds q
    obtain ⟨a, vs, rfl, t, l⟩ := seen_lst (rd_seen R1 e1 q)
    refine ⟨a, vs, rfl, t, fun p hp => ?_⟩
    have g : Grow S1 H1 S1 (upd H1 p (.lst vs.reverse)) := Grow.loose R1.sub hp
    exact h1 _ _ _ (s1.trans (.laid g)) (R1.laid g) (EvOk.back s1 ((evg_lst R1.sub hp l.reverse).ok R1))
  · exact h1.elim
def cutD (xs : List D) (lo hi : Option Int) : List D := (xs.drop (HT.sIx xs.length 0 lo)).take (HT.sIx xs.length xs.length hi - HT.sIx xs.length 0 lo)
theorem den_cut {ds : List D} {vs : List V} (l : DenL K S ds vs) (lo hi : Option Int) : DenL K S (cutD ds lo hi) (cutV vs lo hi) := by
  unfold cutD cutV
  rw [l.length]
  exact (l.drop _).take _
/-- a bound that is written -/
inductive JO (K : PySem.W.Frag) : TO → Option Int → Prop where
  | no : JO K tNoPart none
  | int (i : Int) : JO K (tPart (tC (.int i))) (some i)
theorem jo_run {to : TO} {o : Option Int} (h : JO K to o) {Q : Option Int → Hp → Prop} (q : Q o H) : to σ H Q := by
  cases h with
  | no => exact q
  | int i => exact ⟨i, rfl, q⟩
def mCut (lo hi : Option Int) (m : Rho → R EV) (ρ : Rho) : R EV := (m ρ).bind fun ev ρ1 => match rd ρ1 ev with
  | some (.lst ds) => .ok (.new (.lst (cutD ds lo hi))) ρ1
  | _ => .stuck
theorem je_cut {t : TE} {tl th : TO} {lo hi : Option Int} {m : Rho → R EV} (ha : JE K xc W t m) (hl : JO K tl lo) (hh : JO K th hi) : JE K xc W (tSl (rSlL K) t tl th) (mCut lo hi m) := by
  intro S H σ ρ Q R h
  refine ha S H σ ρ _ R (ROk.mono (ROk.bind h) (fun ev ρ1 h1 => ?_) fun _ _ z => z)
  intro S1 H1 x s1 R1 e1
  refine jo_run hl (jo_run hh ?_)
  split at h1
  · rename_i ds q
    obtain ⟨a, vs, rfl, t, l⟩ := seen_lst (rd_seen R1 e1 q)
    refine ⟨a, vs, rfl, t, fun p hp => ?_⟩
    have g : Grow S1 H1 S1 (upd H1 p (.lst (cutV vs lo hi))) := Grow.loose R1.sub hp
    exact h1 _ _ _ (s1.trans (.laid g)) (R1.laid g) (EvOk.back s1 ((evg_lst R1.sub hp (den_cut l lo hi)).ok R1))
  · exact h1.elim
/-! sorted(xs, reverse=True) -/
def mSortR (m : Rho → R EV) (ρ : Rho) : R EV := (m ρ).bind fun ev ρ1 => match rd ρ1 ev with
  | some (.lst ds) => R.of ((intsOf ds).map fun ns => .new (.lst ((ns.mergeSort geI).map D.int))) ρ1
  | _ => .stuck
theorem je_sortR {t : TE} {m : Rho → R EV} (ha : JE K xc W t m) : JE K xc W (tCKw (rSortedKw K true [.bl true]) (tCons t tNil) (tCons (tC (.bl true)) tNil)) (mSortR m) := by
  intro S H σ ρ Q R h
  refine ha S H σ ρ _ R (ROk.mono (ROk.bind h) (fun ev ρ1 h1 => ?_) fun _ _ z => z)
  intro S1 H1 x s1 R1 e1
  split at h1
  · rename_i ds q
    obtain ⟨a, vs, rfl, t, l⟩ := seen_lst (rd_seen R1 e1 q)
    obtain ⟨ev2, w1, w2⟩ := ROk.of h1
    simp only [Option.map_eq_some_iff] at w1
    obtain ⟨ns, w3, rfl⟩ := w1
    rw [intsOf_eq w3] at l
    rw [l.ints] at t
    refine ⟨a, ns, rfl, rfl, t, fun ns' p h1 h2 hp => ?_⟩
    have e3 : ns' = ns.mergeSort geI := perm_ge (h1.trans (List.mergeSort_perm _ _).symm) h2 (ms_ge ns)
    subst e3
    have g : Grow S1 H1 S1 (upd H1 p (.lst ((ns.mergeSort geI).map V.int))) := Grow.loose R1.sub hp
    exact w2 _ _ _ (s1.trans (.laid g)) (R1.laid g) (EvOk.back s1 ((evg_lst R1.sub hp DenL.of_ints).ok R1))
  · exact h1.elim
end
section
variable {X : Cx} {xc : XC} {W : WX} {a b e tg : Expr} {es : List Expr} {p p2 p3 pos pos' apos : Pos} {ma mb mk : Rho → R EV} {x y : Str} {sl : List Nat} {mt : D → Rho → Option Rho} {mi : Rho → R (List D)} {m : Rho → Out} {sts : List Stmt}
theorem i_sq (ha : ME X xc W e ma) : MI X xc W tg e (mIt ma) := mkI (pi_sq ha) (ji_sq je_cE)
theorem i_rng1 (hg : Gl X "range") (hm : X.mg "range" = none) (ha : ME X xc W a ma) (hs : starEach [a] X.env = [(false, eval a X.env)] := by rfl) (hs' : starEach [a] X.env = (false, eval a X.env) :: starEach [] X.env := by rfl) :
    MI X xc W tg (.Call (.Name "range" p) [a] [] pos) (mRng1 ma) := mkI (pi_range1 hg hm (pa_cons ha pa_nil hs') hs) (ji_rng1 je_cE)
theorem i_rng2 (hg : Gl X "range") (hm : X.mg "range" = none) (ha : ME X xc W a ma) (hb : ME X xc W b mb) (hs : starEach [a, b] X.env = [(false, eval a X.env), (false, eval b X.env)] := by rfl) (hs2 : starEach [b] X.env = [(false, eval b X.env)] := by rfl) :
    MI X xc W tg (.Call (.Name "range" p) [a, b] [] pos) (mRng2 ma mb) := mkI (pi_range2 hg hm (pa_cons ha (pa_cons hb pa_nil (by rw [hs2]; rfl)) (by rw [hs, hs2])) hs hs2) (ji_rng2 je_cE je_cE)
theorem r_lstRg1 (hc : X.calm = true) (hg : Gl X "list") (hm : X.mg "list" = none) (hg2 : Gl X "range") (hm2 : X.mg "range" = none) (ha : ME X xc W a ma) (na : starEach [a] X.env = (false, eval a X.env) :: starEach [] X.env := by rfl)
    (na2 : starEach [.Call (.Name "range" p2) [a] [] p3] X.env = (false, eval (.Call (.Name "range" p2) [a] [] p3) X.env) :: starEach [] X.env := by rfl) : ME X xc W (.Call (.Name "list" p) [.Call (.Name "range" p2) [a] [] p3] [] pos) (mLstRg1 ma) :=
  mkE (pe_listRg hc hg hm (prg_1 hg2 hm2 ha na) na2) (je_lstRg1 je_cE)
theorem r_tupRg1 (hc : X.calm = true) (hg : Gl X "tuple") (hm : X.mg "tuple" = none) (hg2 : Gl X "range") (hm2 : X.mg "range" = none) (ha : ME X xc W a ma) (na : starEach [a] X.env = (false, eval a X.env) :: starEach [] X.env := by rfl)
    (na2 : starEach [.Call (.Name "range" p2) [a] [] p3] X.env = (false, eval (.Call (.Name "range" p2) [a] [] p3) X.env) :: starEach [] X.env := by rfl) : ME X xc W (.Call (.Name "tuple" p) [.Call (.Name "range" p2) [a] [] p3] [] pos) (mTupRg1 ma) :=
  mkE (pe_tupRg hc hg hm (prg_1 hg2 hm2 ha na) na2) (je_tupRg1 je_cE)
theorem r_rep (ha : ME X xc W a ma) (hb : ME X xc W b mb) : ME X xc W (.BinOp a .Mult b pos) (mRep ma mb) := mkE (pe_op op_rep ha hb) (je_rep je_cE je_cE)
theorem r_rev {k : Nat} {p1 p2 p3 : Pos} (ha : ME X xc W e ma) : ME X xc W (.Subscript e (.Slice none none (some (.UnaryOp .USub (.Constant (.int 1) k p1) p2)) p3) pos) (mRev ma) := mkE (pe_revL ha) (je_rev je_cE)
theorem r_cutTo {k : Nat} {i : Int} (ha : ME X xc W e ma) : ME X xc W (.Subscript e (.Slice none (some (.Constant (.int i) k p2)) none p3) pos) (mCut none (some i) ma) := mkE (pe_slice sl_list ha po_none (po_some pe_int)) (je_cut je_cE .no (.int i))
theorem r_sortR {k : Nat} {kp cp : Pos} (hg : Gl X "sorted") (hmg : X.mg "sorted" = none) (ha : ME X xc W e ma)
    (hs : starEach [e] X.env = (false, eval e X.env) :: starEach [] X.env := by rfl)
    (he : backTo pos (starEach [e] X.env) = (false, eval e X.env) :: backTo pos (starEach [] X.env) := by rfl) (hpl : (backTo pos (starEach [e] X.env)).any (·.1) = false := by rfl) :
    ME X xc W (.Call (.Name "sorted" p) [e] [⟨some "reverse", .Constant (.bool true) k cp, kp⟩] pos) (mSortR ma) :=
  mkE (pe_callBK cr_sortedRev hg hmg (by decide +kernel) (pa_cons ha pa_nil hs) (pk_cons pe_bl pk_nil) (by decide) (by decide) he hpl (by rfl) (by rfl) (by rfl)) (je_sortR je_cE)
theorem g_name {i : Nat} (hN : X.N.Nodup) (hi : X.N[i]? = some x) (hx : Loc X.env.scope x) (hf : X.fn x = true ∨ X.env.scope.names.lookup x = some .local := by first | exact .inl rfl | exact .inr rfl | assumption) : MG X (.Name x pos) [i] (gtN i) := mkG (pg_name hN hi hx hf) (jg_name i)
theorem s_for (hp : PassesOwn (model X.prog X.w) X.A X.env X.xe) (hc : X.calm = true) (hi : MI X xc W tg e mi) (hg : MG X tg sl mt) (hb : MSs X xc W sts m) (hs : ∀ x, foldedSetIterable e X.env x = pure x := by intro _; rfl) : MS X xc W (.For tg e sts [] pos) (mFor mi mt m) := mkS (ps_for hp hc hi hg hb hs) (js_for ji_cI jg_cG js_cS)
end
end Mi

set_option Elab.async false
set_option linter.all false
set_option maxRecDepth 100000
set_option autoImplicit false
namespace Mi
open PySem L2
section
variable {K : PySem.W.Frag} {xc : XC} {W : WX} {S S1 S' H H1 H' H0 S0 : Hp} {σ σ1 σ2 σ' σ0 : Sg} {ρ ρ1 ρ2 ρ' ρ0 : Rho}
/-! ### slots forgotten -/
def Sub (σ1 : Sg) (ρ1 : Rho) (σ2 : Sg) (ρ2 : Rho) : Prop := σ2.length = σ1.length ∧ ρ2.length = ρ1.length ∧ ∀ (i : Nat) (c : Cell), ρ2[i]? = some c → c = .no ∨ (ρ1[i]? = some c ∧ σ2[i]? = σ1[i]?)
theorem Sub.own (h : Sub σ1 ρ1 σ2 ρ2) {a : Addr} (o : Own σ2 ρ2 a) : Own σ1 ρ1 a := by
  obtain ⟨i, b, m, e, f⟩ := o
  rcases h.2.2 i _ e with z | ⟨z1, z2⟩
  · cases z
  · exact ⟨i, b, m, z1, by rw [← z2]; exact f⟩
theorem Sub.ownF (h : Sub σ1 ρ1 σ2 ρ2) {a : Addr} (o : OwnF σ2 ρ2 a) : OwnF σ1 ρ1 a := by
  obtain ⟨i, m, e, f⟩ := o
  rcases h.2.2 i _ e with z | ⟨z1, z2⟩
  · cases z
  · exact ⟨i, m, z1, by rw [← z2]; exact f⟩
theorem Sub.rel (h : Sub σ1 ρ1 σ2 ρ2) (R : Rel K S H σ1 ρ1) : Rel K S H σ2 ρ2 where
  sub := R.sub
  len := by rw [h.1, h.2.1]; exact R.len
  cell := fun i c e => by
    rcases h.2.2 i c e with z | ⟨z1, z2⟩
    · subst z; trivial
    · rw [z2]; exact R.cell i c z1
  dist := fun i j b b' o o' e1 e2 e3 => by
    rcases h.2.2 i _ e1 with z | ⟨z1, z2⟩
    · cases z
    · rcases h.2.2 j _ e2 with y | ⟨y1, y2⟩
      · cases y
      · exact R.dist i j _ _ _ _ z1 y1 (by rw [← z2, ← y2]; exact e3)
theorem Sub.stp (h : Sub σ1 ρ1 σ2 ρ2) (s : Stp S0 H0 σ0 ρ0 S H σ1 ρ1) (hb : ∀ (i : Nat) o, ρ0[i]? = some (.own true o) → σ2[i]? = σ1[i]? ∧ ρ2[i]? = ρ1[i]?) : Stp S0 H0 σ0 ρ0 S H σ2 ρ2 where
  ex := s.ex
  fr := s.fr
  th := s.th
  nw := s.nw
  ow := fun b o => s.ow b (h.own o)
  owf := fun b o => s.owf b (h.ownF o)
  bo := fun i o e => by
    obtain ⟨e1, o1, e2⟩ := s.bo i o e
    obtain ⟨f1, f2⟩ := hb i o e
    exact ⟨f1.trans e1, o1, f2.trans e2⟩
  ln := h.2.1.trans s.ln
def wipeR (ρ : Rho) : List Nat → Rho
  | [] => ρ
  | v :: vs => (wipeR ρ vs).set v .no
theorem wipeR_length (ρ : Rho) : ∀ vs : List Nat, (wipeR ρ vs).length = ρ.length
  | [] => rfl
  | v :: vs => by unfold wipeR; rw [List.length_set, wipeR_length ρ vs]
theorem wipeR_out {i : Nat} : ∀ {vs : List Nat}, i ∉ vs → (wipeR ρ vs)[i]? = ρ[i]?
  | [], _ => rfl
  | v :: vs, h => by
    unfold wipeR
    rw [List.getElem?_set_ne fun e => h (by rw [e]; exact List.mem_cons_self)]
    exact wipeR_out fun m => h (List.mem_cons_of_mem _ m)
theorem wipeR_in {i : Nat} : ∀ {vs : List Nat} {c : Cell}, i ∈ vs → (wipeR ρ vs)[i]? = some c → c = .no
  | v :: vs, c, h, e => by
    unfold wipeR at e
    rw [get_set] at e
    split at e
    · split at e
      · cases e; rfl
      · cases e
    · rename_i ne
      rcases List.mem_cons.mp h with z | z
      · exact (ne z.symm).elim
      · exact wipeR_in z e
theorem wipe_in {i : Nat} : ∀ {vs : List Nat}, i ∈ vs → (wipe σ vs)[i]? = if i < σ.length then some none else none
  | v :: vs, h => by
    unfold wipe
    rw [get_set, wipe_length]
    split
    · rfl
    · rename_i ne
      rcases List.mem_cons.mp h with z | z
      · exact (ne z.symm).elim
      · exact wipe_in z
theorem wipe_eq {vs : List Nat} (hl : σ'.length = σ.length) (h : ∀ j : Nat, j ∉ vs → σ'[j]? = σ[j]?) : wipe σ' vs = wipe σ vs := by
  apply List.ext_getElem?
  intro i
  by_cases c : i ∈ vs
  · rw [wipe_in c, wipe_in c, hl]
  · rw [wipe_out c, wipe_out c]; exact h i c
def wipeOk (ρ : Rho) (vs : List Nat) : Bool := vs.all fun v => match ρ[v]? with | some (.own true _) => false | _ => true
theorem wipeOk_no {vs : List Nat} (h : wipeOk ρ vs = true) {i : Nat} {o : Mo} (e : ρ[i]? = some (.own true o)) : i ∉ vs := fun m => by
  have z := List.all_eq_true.mp h i m
  rw [e] at z
  cases z
/-! ### list comprehensions -/
def lcL (vs : List Nat) (mt : D → Rho → Option Rho) (tst : Rho → R Bool) (el : Rho → R EV) : List D → List D → Rho → R (List D)
  | [], acc, ρ => .ok acc ρ
  | d :: ds, acc, ρ => match mt d ρ with
    | none => .stuck
    | some ρ1 => match tst ρ1 with
      | .ok false ρ2 => lcL vs mt tst el ds acc (wipeR ρ2 vs)
      | .ok true ρ2 => match mFrz el ρ2 with
        | .ok (.d y) ρ3 => if szOk acc.length then lcL vs mt tst el ds (acc ++ [y]) (wipeR ρ3 vs) else .stuck
        | _ => .stuck
      | _ => .stuck
def mLc (mi : Rho → R (List D)) (vs : List Nat) (mt : D → Rho → Option Rho) (tst : Rho → R Bool) (el : Rho → R EV) (ρ : Rho) : R EV :=
  (mi ρ).bind fun ds ρ1 => if wipeOk ρ1 vs then (lcL vs mt tst el ds [] (wipeR ρ1 vs)).bind fun acc ρ2 => .ok (.new (.lst acc)) ρ2 else .stuck
def WF : WX := fun _ _ _ _ => False
theorem rel_upd (R : Rel K S H σ ρ) {a : Addr} {o : HO} (h1 : S a = none) (h2 : ¬ Own σ ρ a) : Rel K S (upd H a o) σ ρ where
  sub := fun b u e => by
    have ne : b ≠ a := fun z => by subst z; rw [h1] at e; cases e
    rw [upd_ne ne]; exact R.sub b u e
  len := R.len
  cell := fun i c e => by
    have k := R.cell i c e
    cases c with
    | no => trivial
    | val d => exact k
    | own b m =>
      obtain ⟨a2, ho, k1, k2, k3, k4⟩ := k
      have ne : a2 ≠ a := fun z => h2 ⟨i, b, m, e, by rw [← z]; exact k1⟩
      exact ⟨a2, ho, k1, by rw [upd_ne ne]; exact k2, k3, k4⟩
  dist := R.dist
theorem stp_upd (s : Stp S0 H0 σ0 ρ0 S H σ ρ) {a : Addr} {o : HO} (h : H0 a = none) : Stp S0 H0 σ0 ρ0 S (upd H a o) σ ρ where
  ex := s.ex
  fr := fun b u e n => by rw [upd_ne (ne_of_none e h)]; exact s.fr b u e n
  th := fun b e => by
    by_cases z : b = a
    · subst z; exact h
    · rw [upd_ne z] at e; exact s.th b e
  nw := s.nw
  ow := s.ow
  owf := s.owf
  bo := s.bo
  ln := s.ln
theorem je_lc {wi : TI} {g : TG} {tt : TT} {te : TE} {vs sl : List Nat} {mi : Rho → R (List D)} {mt : D → Rho → Option Rho} {tst : Rho → R Bool} {el : Rho → R EV} (hi : JI K xc W wi mi) (hg : JG K g sl mt) (ht : JT K xc WF tt tst) (he : JE K xc WF te el) (hsl : ∀ j ∈ sl, j ∈ vs) :
    JE K xc W (tLc wi g tt te vs) (mLc mi vs mt tst el) := by
  intro S H σ ρ Q R h
  refine hi S H σ ρ _ R (ROk.mono (ROk.bind h) (fun ds ρ1 h1 => ?_) fun _ _ z => z)
  intro S1 H1 J s1 R1 ok
  by_cases cw : wipeOk ρ1 vs = true
  · rw [if_pos cw] at h1
    replace h1 := ROk.bind h1
    intro Da hD
    -- behind the wiping
    have subW : ∀ {σa : Sg} {ρa : Rho}, Sub σa ρa σa (wipeR ρa vs) := fun {σa ρa} => ⟨rfl, wipeR_length _ _, fun i c e => by
      by_cases ci : i ∈ vs
      · exact .inl (wipeR_in ci e)
      · rw [wipeR_out ci] at e; exact .inr ⟨e, rfl⟩⟩
    have bo1 : ∀ (i : Nat) o, ρ1[i]? = some (.own true o) → i ∉ vs := fun i o e => wipeOk_no cw e
    have sD : S1 Da = none := L2.Same.free R1.sub hD
    refine ⟨fun i m H' => ∃ S' ρ' acc va, Stp S1 H1 σ ρ1 S' H' σ ρ' ∧ Rel K S' H' σ ρ' ∧ (∀ v ∈ vs, ∀ c, ρ'[v]? = some c → c = .no) ∧ H' Da = some (.lst va) ∧ DenL K S' acc va ∧ S' Da = none ∧ ¬ Own σ ρ' Da ∧ m = ds.length - i ∧ i ≤ ds.length ∧
        ROk (fun acc ρ2 => EPost K S H σ ρ Q (.new (.lst acc)) ρ2) (XPost K xc W S H σ ρ) (lcL vs mt tst el (ds.drop i) acc ρ'), ?_, ?_⟩
    · have g0 : Grow S1 H1 S1 (upd H1 Da (.lst [])) := Grow.loose R1.sub hD
      have st0 : Stp S1 H1 σ ρ1 S1 (upd H1 Da (.lst [])) σ (wipeR ρ1 vs) := subW.stp (.laid g0) fun i o e => ⟨rfl, wipeR_out (bo1 i o e)⟩
      have nOwn : ¬ Own σ (wipeR ρ1 vs) Da := fun z => by
        obtain ⟨o, e, _⟩ := R1.own_some (subW.own z)
        rw [hD] at e; cases e
      exact ⟨_, S1, wipeR ρ1 vs, [], [], st0, subW.rel (R1.laid g0), fun v hv c e => wipeR_in hv e, upd_same, DenL.nil, sD, nOwn, rfl, Nat.zero_le _, h1⟩
    · rintro i m H' ⟨S', ρ', acc, va, st, R', hno, hDa, la, sDa, nDa, rfl, hi2, h2⟩
      obtain ⟨go, stop⟩ := ok S' H' st.ex R'.sub i
      by_cases c : i < ds.length
      · obtain ⟨g1, yl⟩ := go c
        refine .inr ⟨g1, fun H3 => ∃ S3 ρ3 acc3 va3, Stp S1 H1 σ ρ1 S3 H3 σ ρ3 ∧ Rel K S3 H3 σ ρ3 ∧ (∀ v ∈ vs, ∀ c, ρ3[v]? = some c → c = .no) ∧ H3 Da = some (.lst va3) ∧ DenL K S3 acc3 va3 ∧ S3 Da = none ∧ ¬ Own σ ρ3 Da ∧
          ROk (fun acc ρ2 => EPost K S H σ ρ Q (.new (.lst acc)) ρ2) (XPost K xc W S H σ ρ) (lcL vs mt tst el (ds.drop (i + 1)) acc3 ρ3), ?_, ?_⟩
        · rintro H3 ⟨S3, ρ3, acc3, va3, a1, a2, a3, a4, a5, a6, a7, a8⟩
          exact ⟨ds.length - (i + 1), by omega, S3, ρ3, acc3, va3, a1, a2, a3, a4, a5, a6, a7, rfl, c, a8⟩
        · intro x H3 yx
          obtain ⟨S3, gr, d, ed, hd⟩ := yl x H3 yx
          have dr : ds.drop i = d :: ds.drop (i + 1) := by
            rw [List.drop_eq_getElem_cons c]
            congr 1
            rw [List.getElem?_eq_getElem c] at ed
            exact Option.some.inj ed
          rw [dr] at h2
          simp only [lcL] at h2
          -- into the block's slots
          have subIn : Sub σ ρ' (wipe σ vs) ρ' := ⟨wipe_length _ _, rfl, fun j cc e => by
            by_cases cj : j ∈ vs
            · exact .inl (hno j cj cc e)
            · exact .inr ⟨e, wipe_out cj⟩⟩
          have R3 := subIn.rel (R'.laid gr)
          have st3 : Stp S1 H1 σ ρ1 S3 H3 (wipe σ vs) ρ' := subIn.stp (st.trans (.laid gr)) fun j o e => ⟨wipe_out (bo1 j o e), rfl⟩
          cases qt : mt d ρ' with
          | none => simp only [qt] at h2; exact h2.elim
          | some ρ4 =>
            simp only [qt] at h2
            refine hg S3 H3 (wipe σ vs) ρ' x d ρ4 _ R3 hd qt fun σ4 s4 R4 hk => ?_
            have hl4 : σ4.length = σ.length := by rw [hk.1, wipe_length]
            have keep4 : ∀ j : Nat, j ∉ vs → σ4[j]? = σ[j]? := fun j hj => by rw [hk.2 j fun z => hj (hsl j z)]; exact wipe_out hj
            refine ⟨wipe_eq hl4 keep4, ?_⟩
            -- back out of the block's slots
            have subOut : ∀ {ρx : Rho}, ρx.length = ρ4.length → Sub σ4 ρx σ (wipeR ρx vs) := fun {ρx} _ => ⟨hl4.symm, wipeR_length _ _, fun j cc e => by
              by_cases cj : j ∈ vs
              · exact .inl (wipeR_in cj e)
              · rw [wipeR_out cj] at e; exact .inr ⟨e, (keep4 j cj).symm⟩⟩
            have nD4 : ¬ Own σ4 ρ4 Da := fun z => by
              rcases s4.ow _ z with y | y
              · exact nDa (subIn.own y)
              · rw [gr.h _ _ hDa] at y; cases y
            have st4 := st3.trans s4
            cases qs : tst ρ4 with
            | stuck => simp only [qs] at h2; exact h2.elim
            | exn e ρ5 => simp only [qs] at h2; exact h2.elim
            | ok b ρ5 =>
              refine ht S3 H3 σ4 ρ4 _ R4 ?_
              rw [qs]
              intro S5 H5 s5 R5
              have d5 : H5 Da = some (.lst va) := s5.fr _ _ (gr.h _ _ hDa) nD4
              have st5 := st4.trans s5
              have nD5 : ¬ Own σ4 ρ5 Da := fun z => by
                rcases s5.ow _ z with y | y
                · exact nD4 y
                · rw [gr.h _ _ hDa] at y; cases y
              have sD5 : S5 Da = none := by
                cases z : S5 Da with
                | none => rfl
                | some u =>
                  rcases s5.nw _ _ z with y | y | y
                  · rcases gr.nw _ _ y with w | w
                    · rw [sDa] at w; cases w
                    · rw [hDa] at w; cases w
                  · rw [gr.h _ _ hDa] at y; cases y
                  · exact (nD4 y).elim
              have la5 : DenL K S5 acc va := (la.same gr.s).same s5.ex
              have len5 : ρ5.length = ρ4.length := by rw [← R5.len, ← R4.len]
              cases b with
              | false =>
                rw [if_neg Bool.false_ne_true]
                simp only [qs] at h2
                have sb := subOut len5
                exact ⟨S5, wipeR ρ5 vs, acc, va, sb.stp st5 fun j o e => ⟨(keep4 j (bo1 j o e)).symm, wipeR_out (bo1 j o e)⟩, sb.rel R5, fun v hv c e => wipeR_in hv e, d5, la5, sD5, fun z => nD5 (sb.own z), h2⟩
              | true =>
                rw [if_pos rfl]
                simp only [qs] at h2
                cases qe : mFrz el ρ5 with
                | stuck => simp only [qe] at h2; exact h2.elim
                | exn e ρ6 => simp only [qe] at h2; exact h2.elim
                | ok ev ρ6 =>
                  cases ev with
                  | new o => simp only [qe] at h2; exact h2.elim
                  | slot j => simp only [qe] at h2; exact h2.elim
                  | d y =>
                    simp only [qe] at h2
                    by_cases cz : szOk acc.length = true
                    · rw [if_pos cz] at h2
                      refine je_frz he S5 H5 σ4 ρ5 _ R5 ?_
                      rw [qe]
                      intro S6 H6 v s6 R6 hv
                      have d6 : H6 Da = some (.lst va) := s6.fr _ _ d5 nD5
                      have st6 := st5.trans s6
                      have nD6 : ¬ Own σ4 ρ6 Da := fun z => by
                        rcases s6.ow _ z with w | w
                        · exact nD5 w
                        · rw [d5] at w; cases w
                      have sD6 : S6 Da = none := by
                        cases z : S6 Da with
                        | none => rfl
                        | some u =>
                          rcases s6.nw _ _ z with w | w | w
                          · rw [sD5] at w; cases w
                          · rw [d5] at w; cases w
                          · exact (nD5 w).elim
                      have len6 : ρ6.length = ρ4.length := by rw [← R6.len, ← R4.len]
                      have sb := subOut len6
                      refine ⟨va, d6, by rw [la5.length]; exact szOk.le cz, ?_⟩
                      have l6 : DenL K S6 (acc ++ [y]) (va ++ [v]) := (la5.same s6.ex).append (DenL.cons hv DenL.nil)
                      have nW : ¬ Own σ (wipeR ρ6 vs) Da := fun z => nD6 (sb.own z)
                      exact ⟨S6, wipeR ρ6 vs, acc ++ [y], va ++ [v], stp_upd (sb.stp st6 fun j o e => ⟨(keep4 j (bo1 j o e)).symm, wipeR_out (bo1 j o e)⟩) hD, rel_upd (sb.rel R6) sD6 nW, fun v hv c e => wipeR_in hv e, upd_same, l6, sD6, nW, h2⟩
                    · rw [if_neg cz] at h2; exact h2.elim
      · have c' : ds.length ≤ i := Nat.le_of_not_lt c
        refine .inl ⟨stop c', ?_⟩
        rw [List.drop_eq_nil_of_le c'] at h2
        exact h2 S' H' _ (s1.trans st) R' ⟨Da, _, rfl, hDa, sDa, nDa, ⟨va, rfl, la⟩, .inl (s1.th _ hD)⟩
  · rw [if_neg cw] at h1; exact h1.elim
end
end Mi

set_option Elab.async false
set_option linter.all false
set_option maxRecDepth 100000
set_option autoImplicit false
namespace Mi
open PySem L2
/-! ### list comprehensions by syntax -/
section
variable {X : Cx} {xc : XC} {W : WX} {elt tg iter e : Expr} {ifs : List Expr} {scope : Scope} {pos pos' spos py : Pos} {mi : Rho → R (List D)} {sl : List Nat} {mt : D → Rho → Option Rho} {tst : Rho → R Bool} {el : Rho → R EV}
def mYes (ρ : Rho) : R Bool := .ok true ρ
theorem ts_nil : PTs X [] (cT X.K xc W mYes) := ⟨fun pins s σ H Q I ⟨S, ρ, R, k⟩ => pts_nil.run pins s σ H Q I (k S H .refl R)⟩
theorem ts_one {c : Expr} (h : MT X xc W c tst) : PTs X [c] (cT X.K xc W tst) := pts_one h
theorem r_lc {own : List (Str × Nat)} (hc : X.calm = true) (hN : X.N.Nodup) (hi : MI X xc W tg iter mi) (ok : BlkOk X.N X.env.scope scope own)
    (hg : ∀ (s : Shared) (H : Hp) (C : Addr) (cl : List (Str × Addr)) (fp : List Addr), MG (X.blk s H scope (compEnvC scope cl C X.env) fp) tg sl mt)
    (ht : ∀ (s : Shared) (H : Hp) (C : Addr) (cl : List (Str × Addr)) (fp : List Addr), PTs (X.blk s H scope (compEnvC scope cl C X.env) fp) ifs (cT X.K xc WF tst))
    (he : ∀ (s : Shared) (H : Hp) (C : Addr) (cl : List (Str × Addr)) (fp : List Addr), ME (X.blk s H scope (compEnvC scope cl C X.env) fp) xc WF elt el) (hsl : ∀ j ∈ sl, j ∈ own.map (·.2)) (hs : ∀ x, foldedSetIterable iter X.env x = pure x := by intro _; rfl) :
    ME X xc W (.ListComp elt [⟨tg, iter, ifs, 0⟩] scope pos) (mLc mi (own.map (·.2)) mt tst el) := mkE (pe_lc hc hN hi ok hg ht he hs) (je_lc ji_cI jg_cG jt_cT je_cE hsl)
theorem s_setLc {own : List (Str × Nat)} {i : Nat} {y : Str} (hc : X.calm = true) (hN : X.N.Nodup) (hy : X.N[i]? = some y) (hyl : X.env.scope.names.lookup y = some .local)
    (hsw : swapsWith (.ListComp elt [⟨tg, iter, ifs, 0⟩] scope pos) (some (.Name y py)) spos.line X.env = pure true) (hi : MI X xc W tg iter mi) (ok : BlkOk X.N X.env.scope scope own)
    (hg : ∀ (s : Shared) (H : Hp) (C : Addr) (cl : List (Str × Addr)) (fp : List Addr), MG (X.blk s H scope (compEnvC scope cl C X.env) fp) tg sl mt)
    (ht : ∀ (s : Shared) (H : Hp) (C : Addr) (cl : List (Str × Addr)) (fp : List Addr), PTs (X.blk s H scope (compEnvC scope cl C X.env) fp) ifs (cT X.K xc WF tst))
    (he : ∀ (s : Shared) (H : Hp) (C : Addr) (cl : List (Str × Addr)) (fp : List Addr), ME (X.blk s H scope (compEnvC scope cl C X.env) fp) xc WF elt el) (hsl : ∀ j ∈ sl, j ∈ own.map (·.2)) (hs : ∀ x, foldedSetIterable iter X.env x = pure x := by intro _; rfl) :
    MS X xc W (.Assign [.Name y py] (.ListComp elt [⟨tg, iter, ifs, 0⟩] scope pos) spos) (mSet i (mLc mi (own.map (·.2)) mt tst el)) := mkS (ps_setLc hc hN hy hyl hsw hi ok hg ht he hs) (js_set (je_lc ji_cI jg_cG jt_cT je_cE hsl))
end

/-! ### a def as a function of cells -/
inductive CR where
  | ok (e : EV) (outs : List Cell) | exn (x : Exn) | stuck
def keepB : List Cell → Rho → List Cell
  | .own true _ :: cs, c :: ρ => c :: keepB cs ρ
  | _ :: cs, _ :: ρ => .no :: keepB cs ρ
  | _, _ => []
def noOwn (cs : List Cell) : Bool := cs.all fun c => match c with | .own _ _ => false | _ => true
def callOf (n : Nat) (body : Rho → Out) (cs : List Cell) : CR := match body (cs ++ List.replicate (n - cs.length) .no) with
  | .rt (.slot _) _ => .stuck
  | .rt e ρ => .ok e (keepB cs ρ)
  | .nx ρ => .ok (.d .non) (keepB cs ρ)
  | .exn x _ => if noOwn cs then .exn x else .stuck
  | _ => .stuck
section
variable (K : PySem.W.Frag) (xc : XC)
def CPost (S H : Hp) (vs : List V) (cs : List Cell) (Q : VK) (E : XK) : CR → Prop
  | .ok e outs => ∀ S' H' v, Stp S H (vs.map some) cs S' H' (vs.map some) outs → Rel K S' H' (vs.map some) outs → EvOk K (vs.map some) cs H S' H' (vs.map some) outs v e → Q v H'
  | .exn x => ∀ S' H' c dx, Grow S H S' H' → XOk K xc S' H' x c dx → E c dx H'
  | .stuck => False
/-- called with cells as f's: f's value -/
def FSp (n : Nat) (f : List Cell → CR) : Sp := fun vs H Q E => vs.length = n ∧ ∃ S cs, Rel K S H (vs.map some) cs ∧ (∀ (i : Nat) o, cs[i]? ≠ some (.own false o)) ∧ CPost K xc S H vs cs Q E (f cs)
end
section
variable {K : PySem.W.Frag} {xc : XC} {W : WX} {S S1 S' H H1 H' H0 S0 : Hp} {σ σ1 σ2 σ' σ0 : Sg} {ρ ρ1 ρ2 ρ' ρ0 : Rho}
def Sb (σ1 : Sg) (ρ1 : Rho) (σ2 : Sg) (ρ2 : Rho) : Prop := ∀ (i : Nat) (c : Cell), ρ2[i]? = some c → c = .no ∨ (ρ1[i]? = some c ∧ σ2[i]? = σ1[i]?)
theorem Sb.own (h : Sb σ1 ρ1 σ2 ρ2) {a : Addr} (o : Own σ2 ρ2 a) : Own σ1 ρ1 a := by
  obtain ⟨i, b, m, e, f⟩ := o
  rcases h i _ e with z | ⟨z1, z2⟩
  · cases z
  · exact ⟨i, b, m, z1, by rw [← z2]; exact f⟩
theorem Sb.ownF (h : Sb σ1 ρ1 σ2 ρ2) {a : Addr} (o : OwnF σ2 ρ2 a) : OwnF σ1 ρ1 a := by
  obtain ⟨i, m, e, f⟩ := o
  rcases h i _ e with z | ⟨z1, z2⟩
  · cases z
  · exact ⟨i, m, z1, by rw [← z2]; exact f⟩
theorem Sb.rel (h : Sb σ1 ρ1 σ2 ρ2) (R : Rel K S H σ1 ρ1) (hl : σ2.length = ρ2.length) : Rel K S H σ2 ρ2 where
  sub := R.sub
  len := hl
  cell := fun i c e => by
    rcases h i c e with z | ⟨z1, z2⟩
    · subst z; trivial
    · rw [z2]; exact R.cell i c z1
  dist := fun i j b b' o o' e1 e2 e3 => by
    rcases h i _ e1 with z | ⟨z1, z2⟩
    · cases z
    · rcases h j _ e2 with y | ⟨y1, y2⟩
      · cases y
      · exact R.dist i j _ _ _ _ z1 y1 (by rw [← z2, ← y2]; exact e3)
theorem keepB_get : ∀ {cs : List Cell} {ρ : Rho} {i : Nat} {c : Cell}, (keepB cs ρ)[i]? = some c → c = .no ∨ (ρ[i]? = some c ∧ ∃ o, cs[i]? = some (.own true o))
  | [], _, i, c, h => by simp [keepB] at h
  | x :: cs, [], i, c, h => by cases x <;> simp [keepB] at h
  | x :: cs, y :: ρ, 0, c, h => by
    cases x with
    | no => simp [keepB] at h; exact .inl h.symm
    | val d => simp [keepB] at h; exact .inl h.symm
    | own b o =>
      cases b with
      | false => simp [keepB] at h; exact .inl h.symm
      | true => simp [keepB] at h; exact .inr ⟨by simp [h], o, rfl⟩
  | x :: cs, y :: ρ, i + 1, c, h => by
    have h' : (keepB cs ρ)[i]? = some c := by
      cases x with
      | no => simpa [keepB] using h
      | val d => simpa [keepB] using h
      | own b o => cases b <;> simpa [keepB] using h
    simpa using keepB_get h'
theorem keepB_len : ∀ {cs : List Cell} {ρ : Rho}, cs.length ≤ ρ.length → (keepB cs ρ).length = cs.length
  | [], _, _ => by simp [keepB]
  | x :: cs, [], h => by simp at h
  | x :: cs, y :: ρ, h => by
    have ih := keepB_len (cs := cs) (ρ := ρ) (by simpa using h)
    cases x with
    | no => simp [keepB, ih]
    | val d => simp [keepB, ih]
    | own b o => cases b <;> simp [keepB, ih]
theorem keepB_own : ∀ {cs : List Cell} {ρ : Rho} {i : Nat} {o o' : Mo}, cs[i]? = some (.own true o) → ρ[i]? = some (.own true o') → (keepB cs ρ)[i]? = some (.own true o')
  | [], _, i, o, o', h, _ => by simp at h
  | x :: cs, [], i, o, o', _, h => by simp at h
  | x :: cs, y :: ρ, 0, o, o', h, h' => by
    simp at h h'
    subst h h'
    simp [keepB]
  | x :: cs, y :: ρ, i + 1, o, o', h, h' => by
    have ih := keepB_own (cs := cs) (ρ := ρ) (i := i) (by simpa using h) (by simpa using h')
    cases x with
    | no => simpa [keepB] using ih
    | val d => simpa [keepB] using ih
    | own b o => cases b <;> simpa [keepB] using ih
theorem noOwn_no {cs : List Cell} (h : noOwn cs = true) {i : Nat} {b : Bool} {o : Mo} : cs[i]? ≠ some (.own b o) := fun e => by
  have z := List.all_eq_true.mp h _ (List.mem_of_getElem? e)
  cases z
variable {P : Program} {w : World} {mg : Str → Option Value} {base : Heap}
/-- THE RULE for a def -/
theorem fn_ok {x qual : Str} {st : Stmt} {f : Addr} {fd : FuncData} {N ps : List Str} {k : Nat} {body : Rho → Out} (F : Fun K x qual st f fd) (Sc : FnScope N ps (defScope st)) (hps : ps.length ≤ N.length)
    (hbody : ∀ (cdv : Value) (A : Around) (outer : List PySem.Env) (s : Shared) (H : Hp) (E : XK), Room k (A.deeper (PyProof.Rows.envOfC qual (defScope st) s.heap.objs.size f cdv)) →
      MSs (cxOf (L2.CX P w) P w K mg base N qual (defScope st) f cdv A outer s H E) xc (fun c d _ H' => E c d H') (defBody st) body) :
    FnOk P w K mg base (L2.CX P w) (k + 1) f fd ps (FSp K xc ps.length (callOf N.length body)) := by
  refine F.okX Sc (fun vs H Q E h => h.1) fun cdv A outer s H vs Q E hr h => ?_
  obtain ⟨hl, S, cs, R, nf, hp⟩ := h
  refine ⟨_, hbody cdv A outer s H E hr, ?_⟩
  have lcs : cs.length = vs.length := by rw [← R.len, List.length_map]
  have st_eq : start N vs = vs.map some ++ List.replicate (N.length - vs.length) none := rfl
  have gσ : ∀ {i : Nat} {v : V}, (vs.map some)[i]? = some (some v) → (start N vs)[i]? = some (some v) := fun {i v} e => by
    rw [st_eq, List.getElem?_append_left (List.getElem?_eq_some_iff.mp e).1]; exact e
  have lt_cs : ∀ {i : Nat} {c : Cell}, cs[i]? = some c → i < vs.length := fun {i c} e => by rw [← lcs]; exact (List.getElem?_eq_some_iff.mp e).1
  have σ_eq : ∀ {i : Nat}, i < vs.length → (start N vs)[i]? = (vs.map some)[i]? := fun {i} hi => by
    rw [st_eq, List.getElem?_append_left (by rw [List.length_map]; exact hi)]
  have ρ_get : ∀ {i : Nat} {c : Cell}, (cs ++ List.replicate (N.length - cs.length) Cell.no)[i]? = some c → c = .no ∨ cs[i]? = some c := fun {i c} e => by
    by_cases hi : i < cs.length
    · rw [List.getElem?_append_left hi] at e; exact .inr e
    · rw [List.getElem?_append_right (by omega)] at e
      exact .inl (List.eq_of_mem_replicate (List.mem_of_getElem? e))
  have sb : Sb (vs.map some) cs (start N vs) (cs ++ List.replicate (N.length - cs.length) .no) := fun i c e => by
    rcases ρ_get e with z | z
    · exact .inl z
    · exact .inr ⟨z, σ_eq (lt_cs z)⟩
  have R0 : Rel K S H (start N vs) (cs ++ List.replicate (N.length - cs.length) .no) := sb.rel R (by
    rw [st_eq, List.length_append, List.length_append, List.length_map, List.length_replicate, List.length_replicate, lcs])
  have fwd : ∀ {b : Addr}, Own (vs.map some) cs b → Own (start N vs) (cs ++ List.replicate (N.length - cs.length) .no) b := fun {b} ⟨i, bb, m, e, f⟩ =>
    ⟨i, bb, m, by rw [List.getElem?_append_left (List.getElem?_eq_some_iff.mp e).1]; exact e, by rw [σ_eq (lt_cs e)]; exact f⟩
  refine ⟨S, _, R0, ?_⟩
  -- behind the body, seen by the caller
  have back : ∀ {S' H' : Hp} {σ' : Sg} {ρ' : Rho}, Stp S H (start N vs) (cs ++ List.replicate (N.length - cs.length) .no) S' H' σ' ρ' → Rel K S' H' σ' ρ' →
      Stp S H (vs.map some) cs S' H' (vs.map some) (keepB cs ρ') ∧ Rel K S' H' (vs.map some) (keepB cs ρ') ∧ Sb σ' ρ' (vs.map some) (keepB cs ρ') := fun {S' H' σ' ρ'} s R' => by
    have bo : ∀ (i : Nat) o, cs[i]? = some (.own true o) → σ'[i]? = (vs.map some)[i]? ∧ ∃ o', ρ'[i]? = some (.own true o') := fun i o e => by
      obtain ⟨e1, o', e2⟩ := s.bo i o (by rw [List.getElem?_append_left (List.getElem?_eq_some_iff.mp e).1]; exact e)
      exact ⟨e1.trans (σ_eq (lt_cs e)), o', e2⟩
    have sk : Sb σ' ρ' (vs.map some) (keepB cs ρ') := fun i c e => by
      rcases keepB_get e with z | ⟨z, o, y⟩
      · exact .inl z
      · exact .inr ⟨z, (bo i o y).1.symm⟩
    have lρ : cs.length ≤ ρ'.length := by
      rw [s.ln, List.length_append]; omega
    refine ⟨⟨s.ex, fun b o e n => s.fr b o e fun z => n (sb.own z), s.th, fun b o e => ?_, fun b z => ?_, fun b z => ?_, fun i o e => ?_, keepB_len lρ⟩, sk.rel R' (by rw [keepB_len lρ, List.length_map, lcs]), sk⟩
    · rcases s.nw b o e with z | z | z
      · exact .inl z
      · exact .inr (.inl z)
      · exact .inr (.inr (sb.own z))
    · rcases s.ow b (sk.own z) with z | z
      · exact .inl (sb.own z)
      · exact .inr z
    · rcases s.owf b (sk.ownF z) with z | z
      · exact .inl (sb.ownF z)
      · exact .inr z
    · obtain ⟨_, o', e2⟩ := bo i o e
      exact ⟨rfl, o', keepB_own e e2⟩
  have noF : ∀ a, ¬ OwnF (start N vs) (cs ++ List.replicate (N.length - cs.length) .no) a := fun a z => by
    obtain ⟨i, o, e, _⟩ := sb.ownF z
    exact nf i o e
  have evb : ∀ {S' H' : Hp} {σ' : Sg} {ρ' : Rho} {v : V} {e : EV}, (∀ i, e ≠ .slot i) → Sb σ' ρ' (vs.map some) (keepB cs ρ') → EvOk K (start N vs) (cs ++ List.replicate (N.length - cs.length) .no) H S' H' σ' ρ' v e →
      EvOk K (vs.map some) cs H S' H' (vs.map some) (keepB cs ρ') v e := fun {S' H' σ' ρ' v e} ns sk k => by
    cases e with
    | d d => exact k
    | slot i => exact (ns i rfl).elim
    | new o =>
      obtain ⟨a, ho, k1, k2, k3, k4, k5, k6⟩ := k
      exact ⟨a, ho, k1, k2, k3, fun z => k4 (sk.own z), k5, .inl (k6.elim id fun z => (noF a z).elim)⟩
  unfold callOf at hp
  cases q : body (cs ++ List.replicate (N.length - cs.length) .no) with
  | nx ρ' =>
    rw [q] at hp
    intro S' H' σ' s R'
    obtain ⟨s2, R2, sk⟩ := back s R'
    exact hp S' H' .non s2 R2 (show Den K S' .non .non from by unfold Den; rfl)
  | rt e ρ' =>
    rw [q] at hp
    intro S' H' σ' v s R' k
    obtain ⟨s2, R2, sk⟩ := back s R'
    cases e with
    | slot i => exact hp.elim
    | d d => exact hp S' H' v s2 R2 (evb (fun i z => nomatch z) sk k)
    | new o => exact hp S' H' v s2 R2 (evb (fun i z => nomatch z) sk k)
  | bk ρ' => rw [q] at hp; exact hp.elim
  | ct ρ' => rw [q] at hp; exact hp.elim
  | stuck => rw [q] at hp; exact hp.elim
  | exn x ρ' =>
    rw [q] at hp
    by_cases c : noOwn cs = true
    · simp only [if_pos c] at hp
      intro S' H' σ' cc dx s R' xo
      obtain ⟨s2, R2, _⟩ := back s R'
      have no : ∀ b, ¬ Own (vs.map some) cs b := fun b ⟨i, bb, m, e, _⟩ => noOwn_no c e
      exact hp S' H' cc dx ⟨fun b o e => s2.fr b o e (no b), s2.ex, R2.sub, fun b o e => (s2.nw b o e).elim .inl fun z => z.elim .inr fun y => (no b y).elim⟩ xo
    · simp only [if_neg c] at hp; exact hp.elim
/-! ### a call -/
def cellOf (ρ : Rho) : EV → Option Cell
  | .d d => some (.val d)
  | .slot j => match ρ[j]? with
    | some (.own _ o) => some (.own true o)
    | _ => none
  | .new _ => none
def cellsOf (ρ : Rho) : List EV → Option (List Cell)
  | [] => some []
  | e :: es => (cellOf ρ e).bind fun c => (cellsOf ρ es).bind fun cs => some (c :: cs)
def hasSlot (j : Nat) : List EV → Bool
  | [] => false
  | .slot i :: es => decide (i = j) || hasSlot j es
  | _ :: es => hasSlot j es
def slotsNd : List EV → Bool
  | [] => true
  | .slot i :: es => !hasSlot i es && slotsNd es
  | _ :: es => slotsNd es
def slotPos (j : Nat) : List EV → Option Nat
  | [] => none
  | .slot i :: es => if i = j then some 0 else (slotPos j es).map (· + 1)
  | _ :: es => (slotPos j es).map (· + 1)
def wbCell (evs : List EV) (outs : List Cell) (j : Nat) : Cell → Cell
  | .own b o => match slotPos j evs with
    | none => .own b o
    | some p => match outs[p]? with
      | some (.own _ o') => .own b o'
      | _ => .own b o
  | c => c
def wback (evs : List EV) (outs : List Cell) (ρ : Rho) : Rho := ρ.mapIdx fun j c => wbCell evs outs j c
theorem cellsOf_get : ∀ {evs : List EV} {cs : List Cell} {i : Nat} {c : Cell}, cellsOf ρ evs = some cs → cs[i]? = some c → ∃ e, evs[i]? = some e ∧ cellOf ρ e = some c
  | [], cs, i, c, h, e => by simp only [cellsOf, Option.some.injEq] at h; subst h; simp at e
  | x :: evs, cs, i, c, h, e => by
    simp only [cellsOf, Option.bind_eq_some_iff, Option.some.injEq] at h
    obtain ⟨c0, h1, cs0, h2, rfl⟩ := h
    cases i with
    | zero => simp at e; subst e; exact ⟨x, rfl, h1⟩
    | succ i =>
      obtain ⟨e', a, b⟩ := cellsOf_get h2 (by simpa using e)
      exact ⟨e', by simpa using a, b⟩
theorem cellsOf_get' : ∀ {evs : List EV} {cs : List Cell} {i : Nat} {e : EV}, cellsOf ρ evs = some cs → evs[i]? = some e → ∃ c, cs[i]? = some c ∧ cellOf ρ e = some c
  | [], cs, i, c, h, e => by simp at e
  | x :: evs, cs, i, c, h, e => by
    simp only [cellsOf, Option.bind_eq_some_iff, Option.some.injEq] at h
    obtain ⟨c0, h1, cs0, h2, rfl⟩ := h
    cases i with
    | zero => simp at e; subst e; exact ⟨c0, rfl, h1⟩
    | succ i =>
      obtain ⟨e', a, b⟩ := cellsOf_get' h2 (by simpa using e)
      exact ⟨e', by simpa using a, b⟩
theorem cellsOf_len : ∀ {evs : List EV} {cs : List Cell}, cellsOf ρ evs = some cs → cs.length = evs.length
  | [], cs, h => by simp only [cellsOf, Option.some.injEq] at h; subst h; rfl
  | x :: evs, cs, h => by
    simp only [cellsOf, Option.bind_eq_some_iff, Option.some.injEq] at h
    obtain ⟨c0, h1, cs0, h2, rfl⟩ := h
    simp [cellsOf_len h2]
theorem hasSlot_of : ∀ {evs : List EV} {i j : Nat}, evs[i]? = some (.slot j) → hasSlot j evs = true
  | [], i, j, h => by simp at h
  | x :: evs, 0, j, h => by simp at h; subst h; simp [hasSlot]
  | x :: evs, i + 1, j, h => by
    have ih := hasSlot_of (evs := evs) (i := i) (j := j) (by simpa using h)
    cases x <;> simp [hasSlot, ih]
theorem slotsNd_inj : ∀ {evs : List EV} {i i' j : Nat}, slotsNd evs = true → evs[i]? = some (.slot j) → evs[i']? = some (.slot j) → i = i'
  | [], i, i', j, _, h, _ => by simp at h
  | x :: evs, 0, 0, j, _, _, _ => rfl
  | x :: evs, 0, i' + 1, j, n, h, h' => by
    simp at h; subst h
    have := hasSlot_of (evs := evs) (i := i') (j := j) (by simpa using h')
    simp [slotsNd, this] at n
  | x :: evs, i + 1, 0, j, n, h, h' => by
    simp at h'; subst h'
    have := hasSlot_of (evs := evs) (i := i) (j := j) (by simpa using h)
    simp [slotsNd, this] at n
  | x :: evs, i + 1, i' + 1, j, n, h, h' => by
    have n' : slotsNd evs = true := by cases x <;> simp [slotsNd] at n <;> first | exact n | exact n.2
    exact congrArg (· + 1) (slotsNd_inj (i := i) (i' := i') (j := j) n' (by simpa using h) (by simpa using h'))
theorem slotPos_some : ∀ {evs : List EV} {j p : Nat}, slotPos j evs = some p → evs[p]? = some (.slot j)
  | [], j, p, h => by simp [slotPos] at h
  | x :: evs, j, p, h => by
    have step : (slotPos j evs).map (· + 1) = some p → (x :: evs)[p]? = some (.slot j) := fun h => by
      simp only [Option.map_eq_some_iff] at h
      obtain ⟨p', h1, rfl⟩ := h
      simpa using slotPos_some h1
    cases x with
    | d d => exact step h
    | new o => exact step h
    | slot i =>
      simp only [slotPos] at h
      split at h
      · rename_i e; cases h; rw [e]; rfl
      · exact step h
theorem slotPos_none : ∀ {evs : List EV} {j : Nat}, slotPos j evs = none → ∀ i : Nat, evs[i]? ≠ some (.slot j)
  | [], j, h, i => by simp
  | x :: evs, j, h, i => by
    have step : (slotPos j evs).map (· + 1) = none → x ≠ .slot j → (x :: evs)[i]? ≠ some (.slot j) := fun h n => by
      simp only [Option.map_eq_none_iff] at h
      cases i with
      | zero => simpa using n
      | succ i => simpa using slotPos_none h i
    cases x with
    | d d => exact step h (fun z => nomatch z)
    | new o => exact step h (fun z => nomatch z)
    | slot k =>
      simp only [slotPos] at h
      split at h
      · cases h
      · rename_i ne; exact step h fun z => by cases z; exact ne rfl
theorem evsOk_get : ∀ {vs : List V} {evs : List EV} {i : Nat} {e : EV}, EvsOk K σ0 ρ0 H0 S H σ ρ vs evs → evs[i]? = some e → ∃ v, vs[i]? = some v ∧ EvOk K σ0 ρ0 H0 S H σ ρ v e
  | [], [], i, e, _, h => by simp at h
  | v :: vs, x :: evs, 0, e, k, h => by simp at h; subst h; exact ⟨v, rfl, k.1⟩
  | v :: vs, x :: evs, i + 1, e, k, h => by
    obtain ⟨u, a, b⟩ := evsOk_get k.2 (by simpa using h)
    exact ⟨u, by simpa using a, b⟩
  | [], _ :: _, _, _, k, _ => k.elim
  | _ :: _, [], _, _, k, _ => k.elim
theorem evsOk_len : ∀ {vs : List V} {evs : List EV}, EvsOk K σ0 ρ0 H0 S H σ ρ vs evs → vs.length = evs.length
  | [], [], _ => rfl
  | v :: vs, x :: evs, k => by simp [evsOk_len k.2]
  | [], _ :: _, k => k.elim
  | _ :: _, [], k => k.elim
def CR.toR (evs : List EV) (ρ : Rho) : CR → R EV
  | .ok (.slot _) _ => .stuck
  | .ok e outs => .ok e (wback evs outs ρ)
  | .exn x => .exn x ρ
  | .stuck => .stuck
def callR (f : List Cell → CR) (n : Nat) (evs : List EV) (ρ : Rho) : R EV := match cellsOf ρ evs with
  | none => .stuck
  | some cs => if slotsNd evs && decide (evs.length = n) then (f cs).toR evs ρ else .stuck
def mCall (f : List Cell → CR) (n : Nat) (ma : Rho → R (List EV)) (ρ : Rho) : R EV := (ma ρ).bind fun evs ρ1 => callR f n evs ρ1
theorem call_post {n : Nat} {f : List Cell → CR} {evs : List EV} {cs : List Cell} {vs : List V} {Q : VK} {S0 : Hp} (s1 : Stp S0 H0 σ ρ0 S H σ ρ) (R1 : Rel K S H σ ρ) (k : EvsOk K σ ρ0 H0 S H σ ρ vs evs) (hc : cellsOf ρ evs = some cs) (hn : slotsNd evs = true) (hl : evs.length = n)
    (h : ROk (EPost K S0 H0 σ ρ0 Q) (XPost K xc W S0 H0 σ ρ0) ((f cs).toR evs ρ)) : FSp K xc n f vs H Q (WE W σ) := by
  have lv := evsOk_len k
  have lc := cellsOf_len hc
  have at_ : ∀ {i : Nat} {c : Cell}, cs[i]? = some c → ∃ e v, evs[i]? = some e ∧ cellOf ρ e = some c ∧ (vs.map some)[i]? = some (some v) ∧ EvOk K σ ρ0 H0 S H σ ρ v e := fun {i c} e => by
    obtain ⟨e', a, b⟩ := cellsOf_get hc e
    obtain ⟨v, a2, b2⟩ := evsOk_get k a
    exact ⟨e', v, a, b, by rw [List.getElem?_map, a2]; rfl, b2⟩
  have ownAt : ∀ {i : Nat} {b : Bool} {o : Mo}, cs[i]? = some (.own b o) → ∃ j b', b = true ∧ evs[i]? = some (.slot j) ∧ ρ[j]? = some (.own b' o) ∧ σ[j]? = (vs.map some)[i]? := fun {i b o} e => by
    obtain ⟨e', v, a1, a2, a3, a4⟩ := at_ e
    cases e' with
    | d d => simp [cellOf] at a2
    | new m => simp [cellOf] at a2
    | slot j =>
      simp only [cellOf] at a2
      cases q : ρ[j]? with
      | none => rw [q] at a2; simp at a2
      | some c =>
        rw [q] at a2
        cases c with
        | no => simp at a2
        | val d => simp at a2
        | own b' o' =>
          simp only [Option.some.injEq, Cell.own.injEq] at a2
          obtain ⟨rfl, rfl⟩ := a2
          exact ⟨j, b', rfl, a1, q, by rw [a3]; exact a4⟩
  have R0 : Rel K S H (vs.map some) cs := by
    refine ⟨R1.sub, by rw [List.length_map, lv, lc], fun i c e => ?_, fun i1 i2 b1 b2 o1 o2 e1 e2 e3 => ?_⟩
    · cases c with
      | no => trivial
      | val d =>
        obtain ⟨e', v, a1, a2, a3, a4⟩ := at_ e
        cases e' with
        | d d' => simp only [cellOf, Option.some.injEq, Cell.val.injEq] at a2; subst a2; exact ⟨v, a3, a4⟩
        | new m => simp [cellOf] at a2
        | slot j =>
          simp only [cellOf] at a2
          split at a2 <;> cases a2
      | own b o =>
        obtain ⟨j, b', _, _, a3, a4⟩ := ownAt e
        obtain ⟨a, ho, k1, k2, k3, k4⟩ := R1.cell j _ a3
        exact ⟨a, ho, by rw [← a4]; exact k1, k2, k3, k4⟩
    · obtain ⟨j1, _, _, x1, x2, x3⟩ := ownAt e1
      obtain ⟨j2, _, _, y1, y2, y3⟩ := ownAt e2
      have ej : j1 = j2 := R1.dist _ _ _ _ _ _ x2 y2 (by rw [x3, y3]; exact e3)
      subst ej
      exact slotsNd_inj hn x1 y1
  refine ⟨by rw [lv]; exact hl, S, cs, R0, fun i o e => ?_, ?_⟩
  · obtain ⟨_, _, z, _⟩ := ownAt e
    cases z
  have fwd : ∀ {b : Addr}, Own (vs.map some) cs b → Own σ ρ b := fun {b} ⟨i, bb, m, e, f⟩ => by
    obtain ⟨j, b', _, _, a3, a4⟩ := ownAt e
    exact ⟨j, b', m, a3, by rw [a4]; exact f⟩
  cases q : f cs with
  | stuck => rw [q] at h; exact h.elim
  | exn x =>
    rw [q] at h
    intro S' H' c dx g xo
    exact h S' H' σ c dx (s1.trans (.laid g)) (R1.laid g) xo
  | ok e outs =>
    rw [q] at h
    intro S2 H2 v s R2 ev
    have wb : ∀ {j : Nat} {c2 : Cell}, (wback evs outs ρ)[j]? = some c2 → ∃ c1, ρ[j]? = some c1 ∧ c2 = wbCell evs outs j c1 := fun {j c2} e => by
      unfold wback at e
      rw [List.getElem?_mapIdx] at e
      simp only [Option.map_eq_some_iff] at e
      obtain ⟨c1, a, b⟩ := e
      exact ⟨c1, a, b.symm⟩
    have wb' : ∀ {j : Nat} {c1 : Cell}, ρ[j]? = some c1 → (wback evs outs ρ)[j]? = some (wbCell evs outs j c1) := fun {j c1} e => by
      unfold wback
      rw [List.getElem?_mapIdx, e]; rfl
    -- an owned cell behind the call
    have cellIs : ∀ {j : Nat} {b : Bool} {o1 : Mo}, ρ[j]? = some (.own b o1) → ∃ o2, wbCell evs outs j (.own b o1) = .own b o2 ∧ ∃ a ho, σ[j]? = some (some (.ref a)) ∧ H2 a = some ho ∧ S2 a = none ∧ MoOk K S2 o2 ho := fun {j b o1} e => by
      obtain ⟨a, ho, k1, k2, k3, k4⟩ := R1.cell j _ e
      cases sp : slotPos j evs with
      | some p =>
        have ep := slotPos_some sp
        obtain ⟨c, c1, c2⟩ := cellsOf_get' hc ep
        simp only [cellOf, e, Option.some.injEq] at c2
        subst c2
        obtain ⟨_, o', eo⟩ := s.bo p o1 c1
        obtain ⟨a2, h2, m1, m2, m3, m4⟩ := R2.cell p _ eo
        obtain ⟨j', b', _, x1, x2, x3⟩ := ownAt c1
        rw [ep] at x1
        cases x1
        refine ⟨o', by simp only [wbCell, sp, eo], a2, h2, by rw [x3]; exact m1, m2, m3, m4⟩
      | none =>
        have np := slotPos_none sp
        have nOwn : ¬ Own (vs.map some) cs a := fun ⟨i, bb, m, z1, z2⟩ => by
          obtain ⟨j', b', _, x1, x2, x3⟩ := ownAt z1
          have ej : j = j' := R1.dist _ _ _ _ _ _ e x2 (by rw [k1, x3, z2])
          subst ej
          exact np i x1
        refine ⟨o1, by simp only [wbCell, sp], a, ho, k1, s.fr _ _ k2 nOwn, ?_, k4.same s.ex⟩
        cases z : S2 a with
        | none => rfl
        | some u =>
          rcases s.nw _ _ z with y | y | y
          · rw [k3] at y; cases y
          · rw [k2] at y; cases y
          · exact (nOwn y).elim
    have own2 : ∀ {j : Nat} {b : Bool} {o : Mo}, (wback evs outs ρ)[j]? = some (.own b o) → ∃ o1, ρ[j]? = some (.own b o1) := fun {j b o} e => by
      obtain ⟨c1, a1, a2⟩ := wb e
      cases c1 with
      | no => cases a2
      | val d => cases a2
      | own b1 o1 =>
        obtain ⟨o2, e2, _⟩ := cellIs a1
        rw [e2] at a2
        cases a2
        exact ⟨o1, a1⟩
    have ownB : ∀ {b : Addr}, Own σ (wback evs outs ρ) b → Own σ ρ b := fun {b} ⟨j, bb, m, e1, e2⟩ => by
      obtain ⟨o1, e3⟩ := own2 e1
      exact ⟨j, bb, o1, e3, e2⟩
    have R3 : Rel K S2 H2 σ (wback evs outs ρ) := by
      refine ⟨R2.sub, by rw [R1.len]; unfold wback; rw [List.length_mapIdx], fun j c e => ?_, fun j1 j2 b1 b2 o1 o2 e1 e2 e3 => ?_⟩
      · obtain ⟨c1, a1, a2⟩ := wb e
        subst a2
        cases c1 with
        | no => trivial
        | val d =>
          have k1 := R1.cell j _ a1
          obtain ⟨u, k1, k2⟩ := k1
          exact ⟨u, k1, k2.same s.ex⟩
        | own b o1 =>
          obtain ⟨o2, e2, r⟩ := cellIs a1
          rw [e2]
          exact r
      · obtain ⟨_, x1⟩ := own2 e1
        obtain ⟨_, x2⟩ := own2 e2
        exact R1.dist _ _ _ _ _ _ x1 x2 e3
    have s3 : Stp S H σ ρ S2 H2 σ (wback evs outs ρ) := by
      refine ⟨s.ex, fun b o e n => s.fr b o e fun z => n (fwd z), s.th, fun b o e => ?_, fun b z => .inl (ownB z), fun b z => .inl ?_, fun j o e => ?_, by unfold wback; rw [List.length_mapIdx]⟩
      · rcases s.nw b o e with z | z | z
        · exact .inl z
        · exact .inr (.inl z)
        · exact .inr (.inr (fwd z))
      · obtain ⟨j, m, e1, e2⟩ := z
        obtain ⟨o1, e3⟩ := own2 e1
        exact ⟨j, o1, e3, e2⟩
      · obtain ⟨o2, e2, _⟩ := cellIs e
        exact ⟨rfl, o2, by rw [wb' e, e2]⟩
    cases e with
    | d d => exact h S2 H2 v (s1.trans s3) R3 (EvOk.back s1 ev)
    | slot i => exact h.elim
    | new o =>
      refine h S2 H2 v (s1.trans s3) R3 (EvOk.back s1 ?_)
      obtain ⟨a, ho, k1, k2, k3, k4, k5, k6⟩ := ev
      have fresh : H a = none := k6.elim id fun ⟨i, m, z, _⟩ => by
        obtain ⟨_, _, y, _⟩ := ownAt z
        cases y
      refine ⟨a, ho, k1, k2, k3, fun z => ?_, k5, .inl fresh⟩
      obtain ⟨u, y, _⟩ := R1.own_some (ownB z)
      rw [fresh] at y; cases y
theorem je_call {n : Nat} {f : List Cell → CR} {ta : TA} {ma : Rho → R (List EV)} (ha : JA K xc W ta ma) : JE K xc W (tCallS (FSp K xc n f) (WE W) ta) (mCall f n ma) := by
  intro S H σ ρ Q R h
  refine ha S H σ ρ _ R (ROk.mono (ROk.bind h) (fun evs ρ1 h1 => ?_) fun _ _ z => z)
  intro S1 H1 vs s1 R1 k
  unfold callR at h1
  cases q : cellsOf ρ1 evs with
  | none => rw [q] at h1; exact h1.elim
  | some cs =>
    rw [q] at h1
    by_cases c : (slotsNd evs && decide (evs.length = n)) = true
    · simp only [if_pos c] at h1
      simp only [Bool.and_eq_true, decide_eq_true_eq] at c
      exact call_post s1 R1 k q c.1 c.2 h1
    · simp only [if_neg c] at h1; exact h1.elim
end
end Mi

set_option Elab.async false
set_option linter.all false
set_option maxRecDepth 100000
set_option autoImplicit false
/-! try: .. with several clauses, some of which name the error -/
namespace Mi
open PySem L2
abbrev Cls := Value × Option Nat × (Addr → Value → Option Addr → TS)
/-- the ends behind a named clause: its name goes -/
def endsGone (D : Ends) (i : Nat) : Ends := ⟨fun σ H => D.nx (σ.set i none) H, D.rt, fun σ H => D.bk (σ.set i none) H, fun σ H => D.ct (σ.set i none) H⟩
def wB (K : PySem.W.Frag) (Wo : WX) (D : Ends) : List Cls → WX
  | [] => Wo
  | (c, none, ts) :: r => fun cls d σ H => ∃ b, PySem.W.exmOne K cls c = some b ∧
      (b = true → ∀ a, H a = none → ts a cls d D σ H) ∧ (b = false → wB K Wo D r cls d σ H)
  | (c, some i, ts) :: r => fun cls d σ H => ∃ b, PySem.W.exmOne K cls c = some b ∧
      (b = true → ∀ a, H a = none → ts a cls d (endsGone D i) (σ.set i (some (.ref a))) H) ∧ (b = false → wB K Wo D r cls d σ H)
inductive HdsB (X : Cx) : List ExceptHandler → List Cls → Prop
  | nil : HdsB X [] []
  | plain {x : Str} {c : Value} {ts : Addr → Value → Option Addr → TS} {b1 : Stmt} {su : List Stmt} {np hp : Pos} {hds : List ExceptHandler} {l : List Cls} (hc : Names X x c)
      (hsu : ∀ (a : Addr) (oe : Obj) (cls : Value) (d : Option Addr) (pn : List (Addr × Obj)), Zc cls d oe → (∃ vs, oe.data = .fields vs) →
        PSs (X.suite a ((a, oe) :: pn)) (b1 :: su) (ts a cls d))
      (r : HdsB X hds l) : HdsB X (.ExceptHandler (some (.Name x np)) none (b1 :: su) hp :: hds) ((c, none, ts) :: l)
  | named {x n : Str} {i : Nat} {c : Value} {ts : Addr → Value → Option Addr → TS} {b1 : Stmt} {su : List Stmt} {np hp : Pos} {hds : List ExceptHandler} {l : List Cls} (hc : Names X x c)
      (hi : X.N[i]? = some n) (hln : X.env.kindOf n = some .local)
      (hsu : ∀ (a : Addr) (oe : Obj) (cls : Value) (d : Option Addr) (pn : List (Addr × Obj)), Zc cls d oe → (∃ vs, oe.data = .fields vs) →
        PSs (X.suite a ((a, oe) :: pn)) (b1 :: su) (ts a cls d))
      (r : HdsB X hds l) : HdsB X (.ExceptHandler (some (.Name x np)) (some n) (b1 :: su) hp :: hds) ((c, some i, ts) :: l)
section
variable {X : Cx} {body : List Stmt} {h1 : ExceptHandler} {hds : List ExceptHandler} {l : List Cls} {pos : Pos} {tb : WX → TS} {Wo : WX}
theorem sp_ofTry {pins pn' : List (Addr × Obj)} {xe : Value → Shared → Prop} {D : Ends} {f : Flow} {s : Shared} (ok : X.Ok) (h : SP (X.tr (X.pn ++ pins) xe) pn' D f s) : SP X pins D f s := by
  cases f with
  | next => obtain ⟨σ, H, J, q⟩ := h; exact ⟨σ, H, J.ofTry ok, q⟩
  | brk => obtain ⟨σ, H, J, q⟩ := h; exact ⟨σ, H, J.ofTry ok, q⟩
  | cont => obtain ⟨σ, H, J, q⟩ := h; exact ⟨σ, H, J.ofTry ok, q⟩
  | ret u => obtain ⟨v, σ, H, J, r, q⟩ := h; exact ⟨v, σ, H, J.ofTry ok, r, q⟩
theorem sp_unsuite {pins pn' : List (Addr × Obj)} {a : Addr} {oe : Obj} {D : Ends} {f : Flow} {s : Shared} (ok : X.Ok) (h : SP (X.suite a ((a, oe) :: (X.pn ++ pins))) pn' D f s) : SP X pins D f s := by
  cases f with
  | next => obtain ⟨σ, H, J, q⟩ := h; exact ⟨σ, H, J.unsuite ok, q⟩
  | brk => obtain ⟨σ, H, J, q⟩ := h; exact ⟨σ, H, J.unsuite ok, q⟩
  | cont => obtain ⟨σ, H, J, q⟩ := h; exact ⟨σ, H, J.unsuite ok, q⟩
  | ret u => obtain ⟨v, σ, H, J, r, q⟩ := h; exact ⟨v, σ, H, J.unsuite ok, r, q⟩
theorem ps_tryB (hs : X.stack = X.env :: X.outer) (hf : X.env.frame = some X.env.locals) (hN : X.N.Nodup) (tk : Takes X Wo)
    (hb : ∀ (W : WX) (pn : List (Addr × Obj)) (xe : Value → Shared → Prop), Takes (X.tr pn xe) W →
      PassesOwn (model X.prog X.w) X.A X.env xe → PSs (X.tr pn xe) body (tb W))
    (hh : HdsB X (h1 :: hds) l) : PS X (.Try body (h1 :: hds) [] [] pos) (fun D σ H => tb (wB X.K Wo D l) D σ H) := by
  constructor
  intro pins s σ H D I hyp
  have ok := I.ok
  have hfr : X.A.frames = some (X.env :: X.outer) := ok.frames.trans (congrArg some hs)
  refine wpAny_Try_except ?_
  let xe' : Value → Shared → Prop := fun e t1 => wpAny (model X.prog X.w) X.A (noteFrame e X.env)
    (fun _ t2 => wpAny (model X.prog X.w) X.A (setFlight e none)
      (fun _ t3 => wpAny (model X.prog X.w) X.A (handleBy e X.env (h1 :: hds)) (SP X pins D) X.xe t3) X.xe t2) X.xe t1
  have catch_ : Takes (X.tr (X.pn ++ pins) xe') (wB X.K Wo D l) := by
    rintro u s' ⟨a, B, sI, pins', σ', H', cls, d, rfl, J', nb, up, sky, na, os, ag, w⟩
    have J : Inv X pins σ' H' sI := Inv.ofTry J' ok
    have sky2 : Sky B (X.env :: X.outer) a (Zc cls d) X.env.locals s'.heap := hs ▸ sky
    show wpAny _ _ (noteFrame (.ref a) X.env) _ _ _
    refine Sky.land Zc.steady hfr hf sky2 ?_
    intro g fl upg
    have Jg : Inv X pins σ' H' { s' with heap := g } := J.landed nb fl.1 (up.trans upg) os ag
    have spot : ∀ {k : Heap}, HandSPX.FlyingZ B (X.env :: X.outer) a (Zc cls d) k → ∃ (o : Obj) (vs : Array Value), k.get? a = some o ∧ Zc cls d o ∧ o.data = .fields vs := fun fk => fk.there
    obtain ⟨og, vg, eg, zg, dg⟩ := spot fl
    have away : a ∉ frs (X.env :: X.outer) := by
      intro hm
      obtain ⟨_, o2, e2, hnf⟩ := fl.2.2.1.mem hm
      rw [eg] at e2
      cases e2
      exact hnf _ dg
    have nL : a ≠ X.env.locals := by
      intro z
      exact away (List.mem_filterMap.mpr ⟨X.env, List.mem_cons_self, by rw [hf, z]⟩)
    have nF : a ∉ X.fs := by
      intro hm
      obtain ⟨e, he, q⟩ := List.mem_filterMap.mp hm
      exact away (List.mem_filterMap.mpr ⟨e, List.mem_cons_of_mem _ he, q⟩)
    have Sg := Jg.suite eg dg na nL nF
    -- a clause's class is asked
    have ask : ∀ {x : Str} {c : Value} {np : Pos} {Q : Value → Shared → Prop} {E : Value → Shared → Prop}, Names X x c → Q c { s' with heap := g } →
        wpAny (model X.prog X.w) (X.A.mark (some (.ref a))) (eval (.Name x np) X.env) Q E { s' with heap := g } := by
      intro x c np Q E hc q
      obtain ⟨k1, k2, k3 | ⟨k3, k4, k5⟩⟩ := hc
      · exact ld_glob (X := X.suite a ((a, og) :: (X.pn ++ pins))) Sg k1 k3 q k2
      · exact ld_blt (X := X.suite a ((a, og) :: (X.pn ++ pins))) Sg k1 k3 k4 q k5 k2
    have LT : PySem.W.Looks (model X.prog X.w) g (typeOf (.ref a)) cls := by
      intro A Q E s k q
      exact wpAny_typeOf_ref (k _ _ eg) (by rw [zg.1]; exact q)
    -- a suite's ground
    have ground : ∀ {k : Heap}, HandSPX.FlyingZ B (X.env :: X.outer) a (Zc cls d) k → g.UpToSlots k → ∃ (o : Obj), Zc cls d o ∧ (∃ vs, o.data = .fields vs) ∧ Inv (X.suite a ((a, o) :: (X.pn ++ pins))) [] σ' H' { s' with heap := k } := by
      intro k fk upk
      obtain ⟨ok', vk, ek, zk, dk⟩ := spot fk
      exact ⟨ok', zk, ⟨_, dk⟩, (J.landed nb fk.1 ((up.trans upg).trans upk) os ag : Inv X pins σ' H' { s' with heap := k }).suite ek dk na nL nF⟩
    have go : ∀ {hs' : List ExceptHandler} {l' : List Cls}, HdsB X hs' l' → wB X.K Wo D l' cls d σ' H' →
        wpAny (model X.prog X.w) X.A (handleBy (.ref a) X.env hs') (SP X pins D) X.xe { s' with heap := g } := by
      intro hs' l' hk
      induction hk with
      | nil =>
        intro w0
        refine wpAny_handleBy_nil ?_
        obtain ⟨_, _, _, oe, vs, T, oT, ts', he, hz, hd, hT, hr⟩ := _root_.id fl
        unfold PySem.passOn
        refine wpAny_bind (wpAny_field he hd hT ?_)
        rw [if_neg (show ¬ ((Value.ref T == Value.none) = true) by simp)]
        have fin : wpAny (model X.prog X.w) X.A (setFlight (.ref a) X.env.frame)
            (fun _ t => wpAny (model X.prog X.w) X.A (throw (.ref a) : Sem Flow) (SP X pins D) X.xe t) X.xe { s' with heap := g } := by
          rw [hf]
          refine HandSPX.setFlight_upZ fl ?_
          intro k hk2 upk
          refine wpAny_throw (tk _ _ ?_)
          exact ⟨a, B, sI, pins, σ', H', cls, d, rfl, J, nb, (up.trans upg).trans upk, .inr (.inr (hs.symm ▸ hk2)), na, os, ag, w0⟩
        first
          | exact wpAny_bind (wpAny_pure (wpAny_bind fin))
          | exact wpAny_bind fin
      | plain hc hsu r ih =>
        rintro ⟨b, eb, yes, no⟩
        refine wpAny_handleBy_cons (codeAny_handlers_test ?_) (by intro q; cases q)
        have LM := PySem.W.exm_one (M := model X.prog X.w) Jg.kIn LT eb
        refine ask hc (LM.here ?_)
        cases b with
        | false => exact ih (no rfl)
        | true =>
          refine codeAny_handlers_suite (HandSPX.lands_againZ fl ?_)
          intro k fk upk
          obtain ⟨o, zo, vo, So⟩ := ground fk upk
          exact wpAny_mono ((hsu a o cls d (X.pn ++ pins) zo vo).run [] _ _ H' _ So (yes rfl a na)) (fun f t q => sp_unsuite ok q) (fun _ _ z => z.elim)
      | named hc hi hln hsu r ih =>
        rename_i n i _ _ _ _ _ hp _ _
        rintro ⟨b, eb, yes, no⟩
        refine wpAny_handleBy_cons (codeAny_handlers_test ?_) (by intro q; cases q)
        have LM := PySem.W.exm_one (M := model X.prog X.w) Jg.kIn LT eb
        refine ask hc (LM.here ?_)
        cases b with
        | false => exact ih (no rfl)
        | true =>
          refine codeAny_handlers_suite_as (HandSPX.lands_againZ fl ?_)
          intro k fk upk
          obtain ⟨o, zo, vo, So⟩ := ground fk upk
          refine store_ok (X := X.suite a ((a, o) :: (X.pn ++ pins))) (v := .ref a) So hN hi (.inl hln) rfl ?_ (.inr hln)
          intro s5 S5
          refine wpAny_mono ((hsu a o cls d (X.pn ++ pins) zo vo).run [] s5 _ H' _ S5 (yes rfl a na)) ?_ (fun _ _ z => z.elim)
          intro f t q
          cases f with
          | next =>
            obtain ⟨σ6, H6, S6, q6⟩ := q
            exact gone_ok (Inv.unsuite S6 ok) hN hi hln fun s7 J7 => ⟨_, _, J7, q6⟩
          | brk =>
            obtain ⟨σ6, H6, S6, q6⟩ := q
            exact gone_ok (Inv.unsuite S6 ok) hN hi hln fun s7 J7 => ⟨_, _, J7, q6⟩
          | cont =>
            obtain ⟨σ6, H6, S6, q6⟩ := q
            exact gone_ok (Inv.unsuite S6 ok) hN hi hln fun s7 J7 => ⟨_, _, J7, q6⟩
          | ret u =>
            obtain ⟨v6, σ6, H6, S6, r6, q6⟩ := q
            exact gone_ok (Inv.unsuite S6 ok) hN hi hln fun s7 J7 => ⟨_, _, _, J7, r6, q6⟩
    exact go hh w
  refine wpAny_mono ((hb (wB X.K Wo D l) (X.pn ++ pins) xe' catch_ PassesOwn.looking).run [] s σ H D (I.toTry _) hyp) ?_ (fun _ _ z => z)
  intro f t q
  have q2 : SP X pins D f t := sp_ofTry ok q
  cases f with
  | next => exact wpAny_execs_nil q2
  | brk => exact q2
  | cont => exact q2
  | ret u => exact q2
end
end Mi

set_option Elab.async false
set_option linter.all false
set_option maxRecDepth 100000
set_option autoImplicit false
namespace Mi
open PySem L2
/-! ### calls by syntax -/
/-- a def of the text: its name, its place, its function of cells -/
structure Df (P : Program) (w : World) (K : PySem.W.Frag) (mg : Str → Option Value) (base : Heap) (xc : XC) (k : Nat) (a : Addr) (n : Nat) (f : List Cell → CR) : Prop where
  ex : ∃ (fd : FuncData) (ps : List Str), ps.length = n ∧ FnOk P w K mg base (L2.CX P w) k a fd ps (FSp K xc n f) ∧ Binds K fd ps []
  kp : PySem.W.keepIn K (.ref a) = true
section
variable {X : Cx} {xc : XC} {W : WX} {x : Str} {p pos : Pos} {e : Expr} {es : List Expr} {k n : Nat} {a : Addr} {f : List Cell → CR} {ma : Rho → R (List EV)}
theorem r_call (F : Df X.prog X.w X.K X.mg X.base xc k a n f) (hr : Room k X.A) (hg : Gl X x) (hm : X.mg x = some (.ref a)) (tk : Takes X W) (ha : MA X xc W (e :: es) ma) (hdb : (x == ("__debug__" : Str)) = false := by decide)
    (he : starEach (e :: es) X.env = (false, eval e X.env) :: starEach es X.env := by rfl) (hpl : (backTo pos (starEach es X.env)).any (·.1) = false := by rfl) : ME X xc W (.Call (.Name x p) (e :: es) [] pos) (mCall f n ma) := by
  obtain ⟨fd, ps, hn, F1, b1⟩ := F.ex
  exact mkE (pe_callS F1 hr hg hm F.kp b1 (fun σ => passAt tk σ) ha hdb he hpl) (je_call ja_cA)
/-- a name of the frame that holds a def, one of a table's -/
def mCallV (i : Nat) (T : Addr → Option (Nat × (List Cell → CR))) (ma : Rho → R (List EV)) (ρ : Rho) : R EV := match ρ[i]? with
  | some (.val (.ref a)) => match T a with
    | some p => mCall p.2 p.1 ma ρ
    | none => .stuck
  | _ => .stuck
def tCallV (K : PySem.W.Frag) (xc : XC) (W : WX) (i : Nat) (T : Addr → Option (Nat × (List Cell → CR))) (ta : TA) : TE := fun σ H Q => ∃ a q, σ[i]? = some (some (.ref a)) ∧ T a = some q ∧ ta σ H fun vs H1 => FSp K xc q.1 q.2 vs H1 Q (WE W σ)
theorem pe_callV {i : Nat} {T : Addr → Option (Nat × (List Cell → CR))} {ta : TA} (hT : ∀ a q, T a = some q → Df X.prog X.w X.K X.mg X.base xc k a q.1 q.2) (hr : Room k X.A) (tk : Takes X W) (hN : X.N[i]? = some x) (hv : Vis X.env.scope x) (ha : PA X (e :: es) ta)
    (hd1 : (x == ("__debug__" : Str)) = false := by decide) (hd2 : (x == ("__classdict__" : Str)) = false := by decide)
    (he : starEach (e :: es) X.env = (false, eval e X.env) :: starEach es X.env := by rfl) (hpl : (backTo pos (starEach es X.env)).any (·.1) = false := by rfl) :
    PE X (.Call (.Name x p) (e :: es) [] pos) (tCallV X.K xc W i T ta) := by
  constructor
  rintro pins s σ H Q I ⟨a, q, h1, h2, h3⟩
  obtain ⟨⟨fd, ps, hn, F, hb⟩, hk⟩ := hT a q h2
  have var := (pe_var (pos := p) hN hv hd1 hd2).run pins s σ H (fun v G => v = .ref a ∧ G = H) I ⟨.ref a, h1, rfl, rfl⟩
  refine wpAny_Call_Name_kw (thn var ?_)
  rintro u s1 ⟨v, G, I1, r1, rfl, rfl⟩
  cases r1
  refine PySem.W.callWith_K (h₀ := X.base) I.ok.mod.kin hk (thn (ha.run pos pins s1 σ _ _ I1 h3) ?_) he hpl
  rintro us s2 ⟨vs, G2, I2, r2, q2⟩
  exact ⟨I2.kIn, run_fnS F hr hb (passAt tk σ) I2 r2 q2⟩
theorem je_callV {K : PySem.W.Frag} {i : Nat} {T : Addr → Option (Nat × (List Cell → CR))} {ta : TA} (ha : JA K xc W ta ma) : JE K xc W (tCallV K xc W i T ta) (mCallV i T ma) := by
  intro S H σ ρ Q R h
  unfold mCallV at h
  split at h
  · rename_i a q
    obtain ⟨u, k1, k2⟩ := R.cell i _ q
    have eu := den_ref k2
    subst eu
    split at h
    · rename_i pq ht
      exact ⟨a, pq, k1, ht, je_call ha S H σ ρ Q R h⟩
    · exact h.elim
  · exact h.elim
theorem r_callV {i : Nat} {T : Addr → Option (Nat × (List Cell → CR))} (hT : ∀ a q, T a = some q → Df X.prog X.w X.K X.mg X.base xc k a q.1 q.2) (hr : Room k X.A) (tk : Takes X W) (hN : X.N[i]? = some x) (hv : Vis X.env.scope x) (ha : MA X xc W (e :: es) ma)
    (hd1 : (x == ("__debug__" : Str)) = false := by decide) (hd2 : (x == ("__classdict__" : Str)) = false := by decide)
    (he : starEach (e :: es) X.env = (false, eval e X.env) :: starEach es X.env := by rfl) (hpl : (backTo pos (starEach es X.env)).any (·.1) = false := by rfl) :
    ME X xc W (.Call (.Name x p) (e :: es) [] pos) (mCallV i T ma) := mkE (pe_callV hT hr tk hN hv ha hd1 hd2 he hpl) (je_callV ja_cA)

/-! ### raise Malformed(..) -/
def mRaiseM (ma : Rho → R (List EV)) (ρ : Rho) : Out := (ma ρ).out fun evs ρ1 => if szOk evs.length then .exn .mal ρ1 else .stuck
theorem js_raiseM {K : PySem.W.Frag} {ta : TA} (ha : JA K xc W ta ma) : JS K xc W (fun _ σ H => (fun σ H (Q : XK) => ta σ H fun vs H1 => vs.length ≤ sizeLine ∧ Q (.ref xc.mal) none H1) σ H fun cls d H' => W cls d σ H') (mRaiseM ma) := by
  intro S H σ ρ D R h
  refine ha S H σ ρ _ R (ROk.mono (SPost.out h) (fun evs ρ1 h1 => ?_) fun _ _ z => z)
  intro S1 H1 vs s1 R1 k
  by_cases c : szOk evs.length = true
  · rw [if_pos c] at h1
    exact ⟨by rw [evsOk_len k]; exact Nat.le_of_lt (szOk.le c), h1 S1 H1 σ _ _ s1 R1 ⟨rfl, rfl⟩⟩
  · rw [if_neg c] at h1; exact h1.elim
/-- the class of errors without an own __init__ -/
structure MalC (X : Cx) (C : Addr) : Prop where
  ex : ∃ (bmB : List Value) (B newId initId : String), ExcBaseFacts B newId initId bmB ∧ PySem.W.excIn X.K C bmB newId = true
  mg : X.mg "Malformed" = some (.ref C)
  kp : PySem.W.keepIn X.K (.ref C) = true
  rs : Raises X (.ref C)
theorem s_raiseM {rp : Pos} (hc : X.calm = true) (tk : Takes X W) (M : MalC X xc.mal) (hg : Gl X "Malformed") (ha : MA X xc W (e :: es) ma)
    (he : starEach (e :: es) X.env = (false, eval e X.env) :: starEach es X.env := by rfl) (hpl : (backTo pos (starEach es X.env)).any (·.1) = false := by rfl) :
    MS X xc W (.Raise (some (.Call (.Name "Malformed" p) (e :: es) [] pos)) none rp) (mRaiseM ma) := by
  obtain ⟨bmB, B, ni, ii, F, q⟩ := M.ex
  exact mkS (ps_raise hc tk (pmk_ownA F q M.mg M.kp M.rs hg ha (by decide) he hpl)) (js_raiseM ja_cA)
/-! f'no {what}' -/
def mFs2 (c : Str) (m : Rho → R EV) (ρ : Rho) : R EV := (m ρ).bind fun ev ρ1 => match ev with
  | .d (.str y) => if decide (y.length ≤ 1000) then .ok (.d (.str (Str.empty ++ c ++ y))) ρ1 else .stuck
  | _ => .stuck
theorem je_fs2 {K : PySem.W.Frag} {c : Str} {t : TE} {m : Rho → R EV} (hc : c.length ≤ 1000) (ha : JE K xc W t m) : JE K xc W (fun σ H Q => tJs [tC (.str c), tFmt t] Str.empty σ H fun out H1 => Q (.str out) H1) (mFs2 c m) := by
  intro S H σ ρ Q R h
  have z0 : (Str.empty ++ c).length = c.length := by rw [Str.length_append]; exact Nat.zero_add _
  refine ⟨c, rfl, by rw [z0, sizeLine_eq]; omega, ?_⟩
  refine ha S H σ ρ _ R (ROk.mono (ROk.bind h) (fun ev ρ1 h1 => ?_) fun _ _ z => z)
  intro S1 H1 x s1 R1 e1
  split at h1
  · rename_i y
    have ex := den_str (show Den K S1 (.str y) x from e1)
    by_cases cy : y.length ≤ 1000
    · rw [if_pos (decide_eq_true cy)] at h1
      have z1 : (Str.empty ++ c ++ y).length = c.length + y.length := by rw [Str.length_append, z0]
      refine .inl ⟨y, ex, by rw [sizeLine_eq]; omega, y, rfl, by rw [z1, sizeLine_eq]; omega, ?_⟩
      exact h1 S1 H1 _ s1 R1 (show Den K S1 (.str _) _ from of_str)
    · rw [if_neg (by simpa using cy)] at h1; exact h1.elim
  · exact h1.elim
theorem r_fs2 {c : Str} {j : Nat} {p1 p2 p3 : Pos} {m : Rho → R EV} (hc : c.length ≤ 1000) (ha : ME X xc W e m) : ME X xc W (.JoinedStr [.Constant (.str c) j p1, .FormattedValue e (-1) none p2] p3) (mFs2 c m) :=
  mkE (pe_joined (.cons pe_str (.cons (pe_fmt ha) .nil))) (je_fs2 hc je_cE)

/-! ### try: .. except Malformed: .. -/
structure XF (K : PySem.W.Frag) (xc : XC) : Prop where
  mm : PySem.W.exmOne K (.ref xc.mal) (.ref xc.mal) = some true
def noExn : Out → Out
  | .exn _ _ => .stuck
  | o => o
def mTryM (b s1 : Rho → Out) (ρ : Rho) : Out := match b ρ with
  | .exn .mal ρ1 => noExn (s1 ρ1)
  | .exn _ _ => .stuck
  | o => o
theorem js_tryM {K : PySem.W.Frag} {b s1 : Rho → Out} {l : List Cls} {Wo : WX} (xf : XF K xc) : JS K xc W (fun D σ H => cS K xc (wB K Wo D ((.ref xc.mal, none, fun _ _ _ => cS K xc WF s1) :: l)) b D σ H) (mTryM b s1) := by
  intro S H σ ρ D R h
  refine ⟨S, ρ, R, ?_⟩
  unfold mTryM at h
  cases q : b ρ with
  | nx ρ1 => rw [q] at h; exact h
  | rt e ρ1 => rw [q] at h; exact h
  | bk ρ1 => rw [q] at h; exact h
  | ct ρ1 => rw [q] at h; exact h
  | stuck => rw [q] at h; exact h
  | exn x ρ1 =>
    cases x with
    | refd d => rw [q] at h; exact h.elim
    | nt d => rw [q] at h; exact h.elim
    | mal =>
      rw [q] at h
      intro S' H' σ' c dx st R' xo
      obtain ⟨rfl, rfl⟩ := xo
      refine ⟨true, xf.mm, fun _ a na => ⟨S', ρ1, R', ?_⟩, fun z => nomatch z⟩
      have h2 := h.step st
      cases q2 : s1 ρ1 with
      | nx ρ2 => simp only [q2, noExn] at h2; exact h2
      | rt e ρ2 => simp only [q2, noExn] at h2; exact h2
      | bk ρ2 => simp only [q2, noExn] at h2; exact h2
      | ct ρ2 => simp only [q2, noExn] at h2; exact h2
      | exn x ρ2 => simp only [q2, noExn] at h2; exact h2.elim
      | stuck => simp only [q2, noExn] at h2; exact h2
theorem s_tryM {b s1 : Rho → Out} {body su : List Stmt} {b1 : Stmt} {np hp tp : Pos} {hds : List ExceptHandler} {l : List Cls} (xf : XF X.K xc) (hs : X.stack = X.env :: X.outer) (hf : X.env.frame = some X.env.locals) (hN : X.N.Nodup)
    (hc : Names X "Malformed" (.ref xc.mal)) (hb : ∀ (W' : WX) (pn : List (Addr × Obj)) (xe : Value → Shared → Prop), Takes (X.tr pn xe) W' → PassesOwn (model X.prog X.w) X.A X.env xe → MSs (X.tr pn xe) xc W' body b)
    (hsu : ∀ (a : Addr) (oe : Obj) (pn : List (Addr × Obj)), MSs (X.suite a ((a, oe) :: pn)) xc WF (b1 :: su) s1) (hr : HdsB X hds l) :
    MS X xc W (.Try body (.ExceptHandler (some (.Name "Malformed" np)) none (b1 :: su) hp :: hds) [] [] tp) (mTryM b s1) :=
  mkS (ps_tryB (Wo := fun _ _ _ _ => False) (l := (.ref xc.mal, none, fun _ _ _ => cS X.K xc WF s1) :: l) (tb := fun W' => cS X.K xc W' b) hs hf hN takes0 hb (.plain hc (fun a oe cls d pn _ _ => hsu a oe pn) hr)) (js_tryM xf)
/-- a clause that is never reached -/
theorem hds_never {x n : Str} {i : Nat} {c : Value} {b1 : Stmt} {su : List Stmt} {np hp : Pos} (hc : Names X x c) (hi : X.N[i]? = some n) (hln : X.env.kindOf n = some .local) :
    HdsB X [.ExceptHandler (some (.Name x np)) (some n) (b1 :: su) hp] [(c, some i, fun _ _ _ => tNever)] := .named hc hi hln (fun _ _ _ _ _ _ _ => pss_never) .nil
end
end Mi

set_option Elab.async false
set_option linter.all false
set_option autoImplicit false
namespace Mi
open PySem L2
theorem Df.mono {P : Program} {w : World} {K : PySem.W.Frag} {mg : Str → Option Value} {base : Heap} {xc : XC} {j k : Nat} {a : Addr} {n : Nat} {f : List Cell → CR} (D : Df P w K mg base xc j a n f) (h : j ≤ k) : Df P w K mg base xc k a n f :=
  let ⟨⟨fd, ps, h1, h2, h3⟩, h4⟩ := D
  ⟨⟨fd, ps, h1, h2.mono h, h3⟩, h4⟩
/-- nothing leaves: a promise for callers that let nothing out -/
theorem fn_cx0 {P : Program} {w : World} {K : PySem.W.Frag} {mg : Str → Option Value} {base : Heap} {k : Nat} {f : Addr} {fd : FuncData} {ps : List Str} {sp sp' : Sp} (F : FnOk P w K mg base (L2.CX P w) k f fd ps sp) (h : ∀ vs H Q E, sp' vs H Q E → sp vs H Q E0) :
    FnOk P w K mg base CX0 k f fd ps sp' := by
  refine ⟨fun vs H Q E q => F.len _ _ _ _ (h _ _ _ _ q), fun A outer s H args us vs Q E hr he hb hv hs => ?_⟩
  refine codeAny_mono (F.run A outer s H args us vs Q E0 hr he hb hv (h _ _ _ _ hs)) fun r s' hq => ?_
  cases r with
  | error e =>
    obtain ⟨_, _, _, _, _, _, _, _, _, _, _, _, z⟩ := hq
    exact z.elim
  | ok fl =>
    cases fl with
    | ret u => exact hq
    | next => exact hq.elim
    | brk => exact hq.elim
    | cont => exact hq.elim
end Mi
namespace Mi
open PySem L2
/-- a law's mirror says True: so does the law -/
theorem law_true {K : PySem.W.Frag} {xc : XC} {f : List Cell → CR} {a : Addr} {ns : List Int} {H : Hp} {Q : VK} {outs : List Cell} (h : f [.val (.lst (ns.map D.int))] = .ok (.d (.bl true)) outs) (hS : SqL K H a (ns.map V.int)) (q : ∀ H', Q (.bl true) H') :
    FSp K xc 1 f [.ref a] H Q E0 := by
  refine ⟨rfl, H, [.val (.lst (ns.map D.int))], ⟨Same.refl _, rfl, fun i c e => ?_, fun i j b b' o o' e => ?_⟩, fun i o e => ?_, ?_⟩
  · cases i with
    | zero =>
      cases (show some (Cell.val (.lst (ns.map D.int))) = some c from e)
      exact ⟨.ref a, rfl, of_lst hS DenL.of_ints⟩
    | succ i => simp at e
  · cases i with
    | zero => cases (show some (Cell.val (.lst (ns.map D.int))) = _ from e)
    | succ i => simp at e
  · cases i with
    | zero => cases (show some (Cell.val (.lst (ns.map D.int))) = _ from e)
    | succ i => simp at e
  · rw [h]
    intro S' H' v _ _ ev
    rw [den_bl (show Den K S' (.bl true) v from ev)]
    exact q H'
end Mi

set_option Elab.async false
set_option linter.all false
set_option maxRecDepth 100000
set_option autoImplicit false
noncomputable section
namespace K05
open PySem L2 Mi
/-! ### the text -/
structure Adr where
  f_demand : Addr
  f_is_integer : Addr
  f_least_common : Addr
  f_then : Addr
  f_cycle_rows : Addr
  f_lengths_of : Addr
  f_is_permutation : Addr
  f__demand_one : Addr
  f__demand_two : Addr
  f_product_of : Addr
  f_cycles_of : Addr
  f_cycle_type : Addr
  f_order_of : Addr
  f_sign_of : Addr
  f__law_state : Addr
  f__law_take : Addr
  f__law_same : Addr
  f__law_told : Addr
  f__law_is_told : Addr
  f__law_is_raised : Addr
  f__law_times : Addr
  f__law_drawn : Addr
  f__law_cycles : Addr
  f__law_type : Addr
  f__law_gcd : Addr
  f__law_turns : Addr
  f__law_made : Addr
  f__law_holds : Addr
  f_law : Addr
  c_Fault : Addr
  c_Malformed : Addr
  c_Refused : Addr
def Adr.xc (A : Adr) : XC := ⟨A.c_Malformed, A.c_Refused, 0⟩
structure Tx (K : PySem.W.Frag) (mg : Str → Option Value) (A : Adr) : Prop where
  g_f_demand : mg "demand" = some (.ref A.f_demand)
  g_f_is_integer : mg "is_integer" = some (.ref A.f_is_integer)
  g_f_least_common : mg "least_common" = some (.ref A.f_least_common)
  g_f_then : mg "then" = some (.ref A.f_then)
  g_f_cycle_rows : mg "cycle_rows" = some (.ref A.f_cycle_rows)
  g_f_lengths_of : mg "lengths_of" = some (.ref A.f_lengths_of)
  g_f_is_permutation : mg "is_permutation" = some (.ref A.f_is_permutation)
  g_f__demand_one : mg "_demand_one" = some (.ref A.f__demand_one)
  g_f__demand_two : mg "_demand_two" = some (.ref A.f__demand_two)
  g_f_product_of : mg "product_of" = some (.ref A.f_product_of)
  g_f_cycles_of : mg "cycles_of" = some (.ref A.f_cycles_of)
  g_f_cycle_type : mg "cycle_type" = some (.ref A.f_cycle_type)
  g_f_order_of : mg "order_of" = some (.ref A.f_order_of)
  g_f_sign_of : mg "sign_of" = some (.ref A.f_sign_of)
  g_f__law_state : mg "_law_state" = some (.ref A.f__law_state)
  g_f__law_take : mg "_law_take" = some (.ref A.f__law_take)
  g_f__law_same : mg "_law_same" = some (.ref A.f__law_same)
  g_f__law_told : mg "_law_told" = some (.ref A.f__law_told)
  g_f__law_is_told : mg "_law_is_told" = some (.ref A.f__law_is_told)
  g_f__law_is_raised : mg "_law_is_raised" = some (.ref A.f__law_is_raised)
  g_f__law_times : mg "_law_times" = some (.ref A.f__law_times)
  g_f__law_drawn : mg "_law_drawn" = some (.ref A.f__law_drawn)
  g_f__law_cycles : mg "_law_cycles" = some (.ref A.f__law_cycles)
  g_f__law_type : mg "_law_type" = some (.ref A.f__law_type)
  g_f__law_gcd : mg "_law_gcd" = some (.ref A.f__law_gcd)
  g_f__law_turns : mg "_law_turns" = some (.ref A.f__law_turns)
  g_f__law_made : mg "_law_made" = some (.ref A.f__law_made)
  g_f__law_holds : mg "_law_holds" = some (.ref A.f__law_holds)
  g_f_law : mg "law" = some (.ref A.f_law)
  g_Fault : mg "Fault" = some (.ref A.c_Fault)
  g_Malformed : mg "Malformed" = some (.ref A.c_Malformed)
  g_Refused : mg "Refused" = some (.ref A.c_Refused)
  n_abs : mg "abs" = none
  n_all : mg "all" = none
  n_bool : mg "bool" = none
  n_int : mg "int" = none
  n_isinstance : mg "isinstance" = none
  n_len : mg "len" = none
  n_list : mg "list" = none
  n_min : mg "min" = none
  n_range : mg "range" = none
  n_sorted : mg "sorted" = none
  n_str : mg "str" = none
  n_tuple : mg "tuple" = none
  b_lcm : mg "lcm" = some (.builtin "math.lcm")
  exM : PySem.W.excIn K A.c_Malformed [.type "ValueError", .type "Exception", .type "BaseException", .type "object"] "ValueError.__new__" = true
  kpM : PySem.W.keepIn K (.ref A.c_Malformed) = true
  sbM : PySem.W.subIn K (.ref A.c_Malformed) (.type "BaseException") = some true
  tyM : PySem.W.typeIn K (.ref A.c_Malformed) = some (.type "type")
  xmM : PySem.W.exmOne K (.ref A.c_Malformed) (.ref A.c_Malformed) = some true
theorem Tx.malC {X : Cx} {A : Adr} (T : Tx X.K X.mg A) : MalC X A.xc.mal := ⟨⟨_, _, _, _, PySem.F.excBase_ValueError, T.exM⟩, T.g_Malformed, T.kpM, raises_own T.sbM T.tyM⟩
theorem Tx.xf {K : PySem.W.Frag} {mg : Str → Option Value} {A : Adr} (T : Tx K mg A) : XF K A.xc := ⟨T.xmM⟩
/-! ### the mirrors -/
def m_f_demand : List Cell → CR := callOf 2 (
  (mIfS (mNotT (mTru (mVar 0))) (mRaiseM (mCons (mFs2 "no " (mVar 1)) mNil)) mNext))
def m_f_is_integer : List Cell → CR := callOf 1 (
  (mRet (mAndV (mIsi .int (mVar 0)) (mNotV (mIsi .bool (mVar 0))))))
def m_f_least_common : List Cell → CR := callOf 2 (
  (mRet (mCB bLcm (mCons (mVar 0) (mCons (mVar 1) mNil)))))
def m_f_then : List Cell → CR := callOf 3 (
  (mRet (mCB bTuple (mCons (mLc (mIt (mVar 0)) [2] (gtN 2) mYes (mOp dIx (mVar 1) (mVar 2))) mNil))))
def m_f_cycle_rows : List Cell → CR := callOf 6 (
  (mSeq (mSet 1 (mRep (mLst (mCons (mFrz (mC (.bl false))) mNil)) (mCB bLen (mCons (mVar 0) mNil))))
    (mSeq (mSet 2 (mLst mNil))
    (mSeq (mFor (mRng1 (mCB bLen (mCons (mVar 0) mNil))) (gtN 3) (mSeq (mSet 4 (mLst mNil))
    (mSeq (mSet 5 (mVar 3))
    (mSeq (mWhile (mNotT (mTru (mOp dIx (mVar 1) (mVar 5)))) (mSeq (mStore 1 (mVar 5) (mC (.bl true)))
    (mSeq (mDrop (mApp 4 (mVar 5)))
    (mSet 5 (mOp dIx (mVar 0) (mVar 5))))))
    (mIfS (mTru (mVar 4)) (mDrop (mApp 2 (mCB bTuple (mCons (mVar 4) mNil)))) mNext)))))
    (mRet (mVar 2))))))
def m_f_lengths_of : List Cell → CR := callOf 2 (
  (mRet (mCB bTuple (mCons (mSortR (mLc (mIt (mCall m_f_cycle_rows 1 (mCons (mFrz (mVar 0)) mNil))) [1] (gtN 1) mYes (mCB bLen (mCons (mVar 1) mNil)))) mNil))))
def m_f_is_permutation : List Cell → CR := callOf 3 (
  (mSeq (mIfS (mNotT (mTru (mIsi .tuple (mVar 0)))) (mRet (mC (.bl false))) mNext)
    (mSeq (mSet 1 (mRep (mLst (mCons (mFrz (mC (.bl false))) mNil)) (mCB bLen (mCons (mVar 0) mNil))))
    (mSeq (mFor (mIt (mVar 0)) (gtN 2) (mSeq (mIfS (mOrT (mNotT (mTru (mCall m_f_is_integer 1 (mCons (mFrz (mVar 2)) mNil)))) (mOrT (mTst (mOp dLt (mVar 2) (mC (.int 0)))) (mOrT (mTst (mOp dGe (mVar 2) (mCB bLen (mCons (mVar 0) mNil)))) (mTru (mOp dIx (mVar 1) (mVar 2)))))) (mRet (mC (.bl false))) mNext)
    (mStore 1 (mVar 2) (mC (.bl true)))))
    (mRet (mC (.bl true)))))))
def m_f__demand_one : List Cell → CR := callOf 1 (
  (mDrop (mCall m_f_demand 2 (mCons (mFrz (mCall m_f_is_permutation 1 (mCons (mFrz (mVar 0)) mNil))) (mCons (mFrz (mC (.str "permutation"))) mNil)))))
def m_f__demand_two : List Cell → CR := callOf 2 (
  (mSeq (mDrop (mCall m_f__demand_one 1 (mCons (mFrz (mVar 0)) mNil)))
    (mSeq (mDrop (mCall m_f__demand_one 1 (mCons (mFrz (mVar 1)) mNil)))
    (mDrop (mCall m_f_demand 2 (mCons (mFrz (mOp dEq (mCB bLen (mCons (mVar 0) mNil)) (mCB bLen (mCons (mVar 1) mNil)))) (mCons (mFrz (mC (.str "permutations of as many sheets"))) mNil)))))))
def m_f_product_of : List Cell → CR := callOf 2 (
  (mSeq (mDrop (mCall m_f__demand_two 2 (mCons (mFrz (mVar 0)) (mCons (mFrz (mVar 1)) mNil))))
    (mRet (mCall m_f_then 2 (mCons (mFrz (mVar 0)) (mCons (mFrz (mVar 1)) mNil))))))
def m_f_cycles_of : List Cell → CR := callOf 1 (
  (mSeq (mDrop (mCall m_f__demand_one 1 (mCons (mFrz (mVar 0)) mNil)))
    (mRet (mCB bTuple (mCons (mCall m_f_cycle_rows 1 (mCons (mFrz (mVar 0)) mNil)) mNil)))))
def m_f_cycle_type : List Cell → CR := callOf 1 (
  (mSeq (mDrop (mCall m_f__demand_one 1 (mCons (mFrz (mVar 0)) mNil)))
    (mRet (mCall m_f_lengths_of 1 (mCons (mFrz (mVar 0)) mNil)))))
def m_f_order_of : List Cell → CR := callOf 3 (
  (mSeq (mDrop (mCall m_f__demand_one 1 (mCons (mFrz (mVar 0)) mNil)))
    (mSeq (mSet 1 (mC (.int 1)))
    (mSeq (mFor (mIt (mCall m_f_lengths_of 1 (mCons (mFrz (mVar 0)) mNil))) (gtN 2) (mSet 1 (mCall m_f_least_common 2 (mCons (mFrz (mVar 1)) (mCons (mFrz (mVar 2)) mNil)))))
    (mRet (mVar 1))))))
def m_f_sign_of : List Cell → CR := callOf 1 (
  (mSeq (mDrop (mCall m_f__demand_one 1 (mCons (mFrz (mVar 0)) mNil)))
    (mRet (mIfE (mTru (mOp dAnd (mOp dSub (mCB bLen (mCons (mVar 0) mNil)) (mCB bLen (mCons (mCall m_f_cycle_rows 1 (mCons (mFrz (mVar 0)) mNil)) mNil))) (mC (.int 1)))) (mUn dNeg (mC (.int 1))) (mC (.int 1))))))
def m_f__law_state : List Cell → CR := callOf 4 (
  (mSeq (mSet 1 (mC (.int 0)))
    (mSeq (mSet 2 (mC (.int 1)))
    (mSeq (mFor (mIt (mCut none (some 63) (mVar 0))) (gtN 3) (mSeq (mSet 1 (mOp dAdd (mOp dMul (mVar 1) (mC (.int 1000003))) (mCB bAbs (mCons (mVar 3) mNil))))
    (mSet 2 (mOp dMod (mCB bInt (mCons (mOp dAdd (mOp dMul (mVar 2) (mC (.int 48271))) (mVar 3)) mNil)) (mC (.int 2147483647))))))
    (mRet (mLst (mCons (mFrz (mVar 1)) (mCons (mFrz (mVar 2)) mNil))))))))
def m_f__law_take : List Cell → CR := callOf 3 (
  (mSeq (mIfS (mTst (mOp dGt (mOp dIx (mVar 0) (mC (.int 0))) (mC (.int 0)))) (mSeq (mSet 2 (mOp dMod (mCB bInt (mCons (mOp dIx (mVar 0) (mC (.int 0))) mNil)) (mVar 1)))
    (mSeq (mStore 0 (mC (.int 0)) (mOp dDiv (mOp dIx (mVar 0) (mC (.int 0))) (mVar 1)))
    (mRet (mVar 2)))) mNext)
    (mSeq (mStore 0 (mC (.int 1)) (mOp dMod (mCB bInt (mCons (mOp dAdd (mOp dMul (mOp dIx (mVar 0) (mC (.int 1))) (mC (.int 48271))) (mC (.int 11))) mNil)) (mC (.int 2147483647))))
    (mRet (mOp dMod (mCB bInt (mCons (mOp dDiv (mOp dIx (mVar 0) (mC (.int 1))) (mC (.int 7))) mNil)) (mVar 1))))))
def b_f__law_same (f0 : List Cell → CR) : Rho → Out :=
  (mSeq (mIfS (mTru (mIsi .tuple (mVar 1))) (mRet (mAndV (mIsi .tuple (mVar 0)) (mAndV (mOp dEq (mCB bLen (mCons (mVar 0) mNil)) (mCB bLen (mCons (mVar 1) mNil))) (mCB bAll (mCons (mLc (mRng1 (mCB bLen (mCons (mVar 1) mNil))) [2] (gtN 2) mYes (mCall f0 2 (mCons (mFrz (mOp dIx (mVar 0) (mVar 2))) (mCons (mFrz (mOp dIx (mVar 1) (mVar 2))) mNil)))) mNil))))) mNext)
    (mSeq (mIfS (mTst (mOp dIsN (mVar 1) (mC .non))) (mRet (mOp dIsN (mVar 0) (mC .non))) mNext)
    (mSeq (mIfS (mTru (mIsi .bool (mVar 1))) (mRet (mAndV (mIsi .bool (mVar 0)) (mOp dEq (mVar 0) (mVar 1)))) mNext)
    (mSeq (mIfS (mTru (mIsi .str (mVar 1))) (mRet (mAndV (mIsi .str (mVar 0)) (mOp dEq (mVar 0) (mVar 1)))) mNext)
    (mRet (mAndV (mIsi .int (mVar 0)) (mAndV (mNotV (mIsi .bool (mVar 0))) (mOp dEq (mVar 0) (mVar 1)))))))))
def m_f__law_same : Nat → List Cell → CR
  | 0 => fun _ => .stuck
  | n + 1 => callOf 3 (b_f__law_same (m_f__law_same n))
def tabL (A : Adr) (a : Addr) : Option (Nat × (List Cell → CR)) := if a = A.f_cycles_of then some (1, m_f_cycles_of) else if a = A.f_cycle_type then some (1, m_f_cycle_type) else if a = A.f_order_of then some (1, m_f_order_of) else if a = A.f_sign_of then some (1, m_f_sign_of) else none
def m_f__law_told (A : Adr) : List Cell → CR := callOf 3 (
  (mTryM (mSeq (mIfS (mTst (mOp dEq (mCB bLen (mCons (mVar 1) mNil)) (mC (.int 1)))) (mRet (mTup (mCons (mFrz (mC (.str "told"))) (mCons (mFrz (mCallV 0 (tabL A) (mCons (mFrz (mOp dIx (mVar 1) (mC (.int 0)))) mNil))) mNil)))) mNext)
    (mSeq (mIfS (mTst (mOp dEq (mCB bLen (mCons (mVar 1) mNil)) (mC (.int 2)))) (mRet (mTup (mCons (mFrz (mC (.str "told"))) (mCons (mFrz (mCallV 0 (tabL A) (mCons (mFrz (mOp dIx (mVar 1) (mC (.int 0)))) (mCons (mFrz (mOp dIx (mVar 1) (mC (.int 1)))) mNil)))) mNil)))) mNext)
    (mSeq (mIfS (mTst (mOp dEq (mCB bLen (mCons (mVar 1) mNil)) (mC (.int 3)))) (mRet (mTup (mCons (mFrz (mC (.str "told"))) (mCons (mFrz (mCallV 0 (tabL A) (mCons (mFrz (mOp dIx (mVar 1) (mC (.int 0)))) (mCons (mFrz (mOp dIx (mVar 1) (mC (.int 1)))) (mCons (mFrz (mOp dIx (mVar 1) (mC (.int 2)))) mNil))))) mNil)))) mNext)
    (mRet (mTup (mCons (mFrz (mC (.str "told"))) (mCons (mFrz (mCallV 0 (tabL A) (mCons (mFrz (mOp dIx (mVar 1) (mC (.int 0)))) (mCons (mFrz (mOp dIx (mVar 1) (mC (.int 1)))) (mCons (mFrz (mOp dIx (mVar 1) (mC (.int 2)))) (mCons (mFrz (mOp dIx (mVar 1) (mC (.int 3)))) mNil)))))) mNil))))))) (mRet (mTup (mCons (mFrz (mC (.str "raised"))) (mCons (mFrz (mC (.str "malformed"))) mNil))))))
def m_f__law_is_told : List Cell → CR := callOf 2 (
  (mRet (mAndV (mOp dEq (mOp dIx (mVar 0) (mC (.int 0))) (mC (.str "told"))) (mCall (m_f__law_same 4) 2 (mCons (mFrz (mOp dIx (mVar 0) (mC (.int 1)))) (mCons (mFrz (mVar 1)) mNil))))))
def m_f__law_is_raised : List Cell → CR := callOf 2 (
  (mRet (mAndV (mOp dEq (mOp dIx (mVar 0) (mC (.int 0))) (mC (.str "raised"))) (mCall (m_f__law_same 4) 2 (mCons (mFrz (mOp dIx (mVar 0) (mC (.int 1)))) (mCons (mFrz (mVar 1)) mNil))))))
def m_f__law_times : List Cell → CR := callOf 3 (
  (mRet (mCB bTuple (mCons (mLc (mIt (mVar 0)) [2] (gtN 2) mYes (mOp dIx (mVar 1) (mVar 2))) mNil))))
def m_f__law_drawn : List Cell → CR := callOf 4 (
  (mSeq (mPar 2 3 (mLstRg1 (mVar 1)) (mLst mNil))
    (mSeq (mWhile (mTst (mOp dGt (mCB bLen (mCons (mVar 2) mNil)) (mC (.int 0)))) (mDrop (mApp 3 (mPop 2 (mCall m_f__law_take 2 (mCons (mVar 0) (mCons (mFrz (mCB bLen (mCons (mVar 2) mNil))) mNil)))))))
    (mRet (mCB bTuple (mCons (mVar 3) mNil))))))
def m_f__law_cycles : List Cell → CR := callOf 6 (
  (mSeq (mPar 2 3 mDnew (mLst mNil))
    (mSeq (mFor (mRng1 (mCB bLen (mCons (mVar 0) mNil))) (gtN 1) (mSeq (mPar 4 5 (mTup mNil) (mVar 1))
    (mSeq (mWhile (mTst (mIn true 2 (mVar 5))) (mSeq (mDput 2 (mVar 5) (mC (.bl true)))
    (mSeq (mSet 4 (mOp dAdd (mVar 4) (mTup (mCons (mFrz (mVar 5)) mNil))))
    (mSet 5 (mOp dIx (mVar 0) (mVar 5))))))
    (mIfS (mTst (mOp dGt (mCB bLen (mCons (mVar 4) mNil)) (mC (.int 0)))) (mDrop (mApp 3 (mVar 4))) mNext))))
    (mRet (mCB bTuple (mCons (mVar 3) mNil))))))
def m_f__law_type : List Cell → CR := callOf 2 (
  (mRet (mCB bTuple (mCons (mRev (mCB bSorted (mCons (mLc (mIt (mCall m_f__law_cycles 1 (mCons (mFrz (mVar 0)) mNil))) [1] (gtN 1) mYes (mCB bLen (mCons (mVar 1) mNil))) mNil))) mNil))))
def m_f__law_gcd : List Cell → CR := callOf 2 (
  (mSeq (mWhile (mTst (mOp dNe (mVar 1) (mC (.int 0)))) (mPar 0 1 (mVar 1) (mOp dMod (mCB bInt (mCons (mVar 0) mNil)) (mVar 1))))
    (mRet (mVar 0))))
def m_f__law_turns : List Cell → CR := callOf 4 (
  (mSeq (mSet 1 (mC (.int 0)))
    (mSeq (mFor (mRng1 (mCB bLen (mCons (mVar 0) mNil))) (gtN 2) (mSet 1 (mOp dAdd (mVar 1) (mCB bLen (mCons (mLc (mRng1 (mVar 2)) [3] (gtN 3) (mTst (mOp dGt (mOp dIx (mVar 0) (mVar 3)) (mOp dIx (mVar 0) (mVar 2)))) (mVar 3)) mNil)))))
    (mRet (mVar 1)))))
def m_f__law_made : List Cell → CR := callOf 7 (
  (mSeq (mPar 3 4 (mRep (mLst (mCons (mFrz (mC (.int 0))) mNil)) (mVar 1)) (mC (.int 0)))
    (mSeq (mSet 2 (mCall m_f__law_drawn 2 (mCons (mVar 0) (mCons (mFrz (mVar 1)) mNil))))
    (mSeq (mWhile (mTst (mOp dLt (mVar 4) (mVar 1))) (mSeq (mSet 5 (mCB bMin (mCons (mOp dSub (mVar 1) (mVar 4)) (mCons (mOp dAdd (mC (.int 1)) (mCall m_f__law_take 2 (mCons (mVar 0) (mCons (mFrz (mOp dIx (mLst (mCons (mFrz (mC (.int 3))) (mCons (mFrz (mC (.int 12))) (mCons (mFrz (mC (.int 60))) mNil)))) (mCall m_f__law_take 2 (mCons (mVar 0) (mCons (mFrz (mC (.int 3))) mNil))))) mNil)))) mNil))))
    (mSeq (mFor (mRng1 (mVar 5)) (gtN 6) (mStore 3 (mOp dIx (mVar 2) (mOp dAdd (mVar 4) (mVar 6))) (mOp dIx (mVar 2) (mOp dAdd (mVar 4) (mOp dMod (mCB bInt (mCons (mOp dAdd (mVar 6) (mC (.int 1))) mNil)) (mVar 5))))))
    (mSet 4 (mOp dAdd (mVar 4) (mVar 5))))))
    (mRet (mCB bTuple (mCons (mVar 3) mNil)))))))
def m_f__law_holds (A : Adr) : List Cell → CR := callOf 7 (
  (mSeq (mSet 1 (mC (.int 1)))
    (mSeq (mFor (mIt (mCall m_f__law_type 1 (mCons (mFrz (mVar 0)) mNil))) (gtN 2) (mSet 1 (mOp dDiv (mOp dMul (mVar 1) (mVar 2)) (mCall m_f__law_gcd 2 (mCons (mFrz (mVar 1)) (mCons (mFrz (mVar 2)) mNil))))))
    (mSeq (mSet 3 (mOp dSub (mC (.int 1)) (mOp dMul (mC (.int 2)) (mOp dMod (mCB bInt (mCons (mCall m_f__law_turns 1 (mCons (mFrz (mVar 0)) mNil)) mNil)) (mC (.int 2))))))
    (mSeq (mSet 4 (mLst (mCons (mFrz (mCall (m_f__law_told A) 2 (mCons (mFrz (mC (.ref A.f_cycles_of))) (mCons (mFrz (mTup (mCons (mFrz (mVar 0)) mNil))) mNil)))) (mCons (mFrz (mCall (m_f__law_told A) 2 (mCons (mFrz (mC (.ref A.f_cycle_type))) (mCons (mFrz (mTup (mCons (mFrz (mVar 0)) mNil))) mNil)))) (mCons (mFrz (mCall (m_f__law_told A) 2 (mCons (mFrz (mC (.ref A.f_order_of))) (mCons (mFrz (mTup (mCons (mFrz (mVar 0)) mNil))) mNil)))) (mCons (mFrz (mCall (m_f__law_told A) 2 (mCons (mFrz (mC (.ref A.f_sign_of))) (mCons (mFrz (mTup (mCons (mFrz (mVar 0)) mNil))) mNil)))) mNil))))))
    (mSeq (mSet 5 (mLst (mCons (mFrz (mCall m_f__law_cycles 1 (mCons (mFrz (mVar 0)) mNil))) (mCons (mFrz (mCall m_f__law_type 1 (mCons (mFrz (mVar 0)) mNil))) (mCons (mFrz (mVar 1)) (mCons (mFrz (mVar 3)) mNil))))))
    (mRet (mCB bAll (mCons (mLc (mRng1 (mC (.int 4))) [6] (gtN 6) mYes (mCall m_f__law_is_told 2 (mCons (mFrz (mOp dIx (mVar 4) (mVar 6))) (mCons (mFrz (mOp dIx (mVar 5) (mVar 6))) mNil)))) mNil)))))))))
def m_f_law (A : Adr) : List Cell → CR := callOf 7 (
  (mSeq (mSet 1 (mCall m_f__law_state 1 (mCons (mFrz (mVar 0)) mNil)))
    (mSeq (mSet 2 (mOp dIx (mLst (mCons (mFrz (mCall m_f__law_take 2 (mCons (mVar 1) (mCons (mFrz (mC (.int 8))) mNil)))) (mCons (mFrz (mCall m_f__law_take 2 (mCons (mVar 1) (mCons (mFrz (mC (.int 25))) mNil)))) (mCons (mFrz (mOp dSub (mC (.int 60)) (mCall m_f__law_take 2 (mCons (mVar 1) (mCons (mFrz (mC (.int 5))) mNil))))) mNil)))) (mCall m_f__law_take 2 (mCons (mVar 1) (mCons (mFrz (mC (.int 3))) mNil)))))
    (mSeq (mPar 4 5 (mCall m_f__law_made 2 (mCons (mVar 1) (mCons (mFrz (mVar 2)) mNil))) (mCall m_f__law_drawn 2 (mCons (mVar 1) (mCons (mFrz (mVar 2)) mNil))))
    (mSeq (mIfS (mOrT (mNotT (mTru (mCall (m_f__law_holds A) 1 (mCons (mFrz (mVar 4)) mNil)))) (mOrT (mNotT (mTru (mCall (m_f__law_holds A) 1 (mCons (mFrz (mVar 5)) mNil)))) (mOrT (mNotT (mTru (mCall (m_f__law_holds A) 1 (mCons (mFrz (mCall m_f__law_times 2 (mCons (mFrz (mVar 4)) (mCons (mFrz (mVar 5)) mNil)))) mNil)))) (mNotT (mTru (mCall (m_f__law_holds A) 1 (mCons (mFrz (mTupRg1 (mVar 2))) mNil))))))) (mRet (mC (.bl false))) mNext)
    (mSeq (mIfS (mTst (mOp dNe (mCall m_f_sign_of 1 (mCons (mFrz (mCall m_f_product_of 2 (mCons (mFrz (mVar 4)) (mCons (mFrz (mVar 5)) mNil)))) mNil)) (mOp dMul (mCall m_f_sign_of 1 (mCons (mFrz (mVar 4)) mNil)) (mCall m_f_sign_of 1 (mCons (mFrz (mVar 5)) mNil))))) (mRet (mC (.bl false))) mNext)
    (mSeq (mFor (mIt (mLst (mCons (mFrz (mC .non)) (mCons (mFrz (mC (.int 5))) (mCons (mFrz (mCB bList (mCons (mVar 4) mNil))) (mCons (mFrz (mIfE (mTst (mOp dGt (mVar 2) (mC (.int 0)))) (mOp dAdd (mVar 4) (mTup (mCons (mFrz (mC (.int 0))) mNil))) (mTup (mCons (mFrz (mC (.int 1))) mNil)))) (mCons (mFrz (mOp dAdd (mVar 4) (mTup (mCons (mFrz (mOp dAdd (mVar 2) (mC (.int 1)))) mNil)))) (mCons (mFrz (mTup (mCons (mFrz (mC (.bl true))) mNil))) (mCons (mFrz (mTup (mCons (mFrz (mC (.str "0"))) mNil))) mNil))))))))) (gtN 3) (mFor (mIt (mTup (mCons (mFrz (mC (.ref A.f_cycles_of))) (mCons (mFrz (mC (.ref A.f_cycle_type))) (mCons (mFrz (mC (.ref A.f_order_of))) (mCons (mFrz (mC (.ref A.f_sign_of))) mNil)))))) (gtN 6) (mIfS (mNotT (mTru (mCall m_f__law_is_raised 2 (mCons (mFrz (mCall (m_f__law_told A) 2 (mCons (mFrz (mVar 6)) (mCons (mFrz (mTup (mCons (mFrz (mVar 3)) mNil))) mNil)))) (mCons (mFrz (mC (.str "malformed"))) mNil))))) (mRet (mC (.bl false))) mNext)))
    (mRet (mC (.bl true))))))))))
structure TabOk (A : Adr) : Prop where
  ne_1_0 : A.f_cycle_type ≠ A.f_cycles_of
  ne_2_0 : A.f_order_of ≠ A.f_cycles_of
  ne_2_1 : A.f_order_of ≠ A.f_cycle_type
  ne_3_0 : A.f_sign_of ≠ A.f_cycles_of
  ne_3_1 : A.f_sign_of ≠ A.f_cycle_type
  ne_3_2 : A.f_sign_of ≠ A.f_order_of
end K05
end

set_option autoImplicit false
namespace K05
/-! ### inversions -/
def inv : List Nat → Nat
  | [] => 0
  | x :: l => l.countP (fun y => decide (y < x)) + inv l
theorem inv_snoc (x : Nat) : ∀ l : List Nat, inv (l ++ [x]) = inv l + l.countP (fun y => decide (x < y))
  | [] => by simp [inv]
  | y :: l => by
    simp only [List.cons_append, inv, inv_snoc x l, List.countP_append, List.countP_cons, List.countP_nil]
    omega
theorem inv_range : ∀ d : Nat, inv (List.range d) = 0
  | 0 => rfl
  | d + 1 => by
    rw [List.range_succ, inv_snoc, inv_range d, Nat.zero_add, List.countP_eq_zero]
    intro y hy
    have := List.mem_range.mp hy
    simp; omega
theorem inv_perm {l1 l2 : List Nat} (f : Nat → Nat) (h : l1.Perm l2) : l1.Nodup → (∀ x ∈ l1, ∀ y ∈ l1, f x = f y → x = y) → (inv l1 + inv l2 + inv (l1.map f) + inv (l2.map f)) % 2 = 0 := by
  induction h with
  | nil => intros; rfl
  | @cons x l1 l2 h ih =>
    intro nd hf
    have i := ih (List.nodup_cons.mp nd).2 fun a ha b hb => hf a (List.mem_cons_of_mem _ ha) b (List.mem_cons_of_mem _ hb)
    simp only [List.map_cons, inv, h.countP_eq, (h.map f).countP_eq]
    omega
  | swap x y l =>
    intro nd hf
    have ne : y ≠ x := fun e => by subst e; simp at nd
    have nf : f y ≠ f x := fun e => ne (hf y (by simp) x (by simp) e)
    simp only [List.map_cons, inv, List.countP_cons, decide_eq_true_eq]
    split <;> split <;> split <;> split <;> omega
  | @trans a b c h1 h2 i1 i2 =>
    intro nd hf
    have j1 := i1 nd hf
    have j2 := i2 (h1.nodup_iff.mp nd) fun a ha b hb => hf a (h1.mem_iff.mpr ha) b (h1.mem_iff.mpr hb)
    omega
/-! ### cycles turned by one -/
def Par (n : Nat) (l1 l2 : List Nat) : Prop := l1.Perm l2 ∧ (inv l1 + n + inv l2) % 2 = 0
theorem Par.refl (l : List Nat) : Par 0 l l := ⟨.refl l, by omega⟩
theorem Par.cons {n : Nat} {l1 l2 : List Nat} (x : Nat) (h : Par n l1 l2) : Par n (x :: l1) (x :: l2) := ⟨h.1.cons x, by
  have := h.2
  simp only [inv, h.1.countP_eq]
  omega⟩
theorem Par.swap {x y : Nat} (h : x ≠ y) (l : List Nat) : Par 1 (x :: y :: l) (y :: x :: l) := ⟨.swap y x l, by
  simp only [inv, List.countP_cons, decide_eq_true_eq]
  split <;> split <;> omega⟩
theorem Par.trans {m n : Nat} {a b c : List Nat} (h1 : Par m a b) (h2 : Par n b c) : Par (m + n) a c := ⟨h1.1.trans h2.1, by
  have := h1.2
  have := h2.2
  omega⟩
theorem Par.app {n : Nat} {a b : List Nat} (h : Par n a b) : ∀ l : List Nat, Par n (l ++ a) (l ++ b)
  | [] => h
  | x :: l => (Par.app h l).cons x
theorem Par.one {x : Nat} {R : List Nat} : ∀ {c : List Nat}, x ∉ c → Par c.length (x :: (c ++ R)) (c ++ x :: R)
  | [], _ => .refl _
  | y :: c, h => by
    have e : (y :: c).length = 1 + c.length := by simp; omega
    rw [e]
    exact (Par.swap (fun e => h (by simp [e])) _).trans ((Par.one (fun m => h (List.mem_cons_of_mem _ m))).cons y)
def rot : List Nat → List Nat
  | [] => []
  | x :: c => c ++ [x]
def dips (C : List (List Nat)) : Nat := (C.map fun c => c.length - 1).sum
theorem Par.turn : ∀ {C : List (List Nat)}, (∀ c ∈ C, c.Nodup) → Par (dips C) C.flatten (C.map rot).flatten
  | [], _ => .refl _
  | [] :: C, h => by
    have i := Par.turn (C := C) fun c hc => h c (List.mem_cons_of_mem _ hc)
    simpa [dips, rot] using i
  | (x :: c) :: C, h => by
    have i := Par.turn (C := C) fun c hc => h c (List.mem_cons_of_mem _ hc)
    have nd := List.nodup_cons.mp (h (x :: c) (by simp))
    have a := (Par.one (R := C.flatten) nd.1).trans (i.app (c ++ [x]) |> fun z => by simpa using z)
    simpa [dips, rot] using a
theorem dips_len : ∀ {C : List (List Nat)}, (∀ c ∈ C, c ≠ []) → dips C + C.length = C.flatten.length
  | [], _ => rfl
  | c :: C, h => by
    have i := dips_len (C := C) fun c hc => h c (List.mem_cons_of_mem _ hc)
    have n := List.length_pos_iff.mpr (h c (by simp))
    simp only [dips, List.map_cons, List.sum_cons, List.length_cons, List.flatten_cons, List.length_append] at i ⊢
    omega
/-! ### permutations -/
def pf (p : List Nat) (x : Nat) : Nat := p[x]?.getD 0
structure IsP (p : List Nat) : Prop where
  lt : ∀ x ∈ p, x < p.length
  nd : p.Nodup
theorem range_pf (p : List Nat) : (List.range p.length).map (pf p) = p := by
  apply List.ext_getElem
  · simp
  · intro i h1 h2
    simp [pf, h2]
theorem pf_lt {p : List Nat} (P : IsP p) {x : Nat} (h : x < p.length) : pf p x < p.length := by
  have : pf p x = p[x] := by simp [pf, h]
  rw [this]
  exact P.lt _ (List.getElem_mem h)
theorem pf_get {p : List Nat} {x : Nat} (h : x < p.length) : p[x]? = some (pf p x) := by simp [pf, h]
theorem pf_inj {p : List Nat} (P : IsP p) {x y : Nat} (hx : x < p.length) (hy : y < p.length) (e : pf p x = pf p y) : x = y := by
  have h1 : pf p x = p[x] := by simp [pf, hx]
  have h2 : pf p y = p[y] := by simp [pf, hy]
  rw [h1, h2] at e
  exact (List.getElem_inj P.nd).mp e
theorem sub_perm : ∀ {l m : List Nat}, l.Nodup → (∀ x ∈ l, x ∈ m) → ∃ r, (l ++ r).Perm m
  | [], m, _, _ => ⟨m, .refl _⟩
  | x :: l, m, nd, h => by
    have n := List.nodup_cons.mp nd
    obtain ⟨r, hr⟩ := sub_perm (l := l) (m := m.erase x) n.2 fun y hy => (List.mem_erase_of_ne (fun e : y = x => n.1 (e ▸ hy))).mpr (h y (List.mem_cons_of_mem _ hy))
    exact ⟨r, (hr.cons x).trans (List.perm_cons_erase (h x (by simp))).symm⟩
theorem sub_len {l m : List Nat} (nd : l.Nodup) (h : ∀ x ∈ l, x ∈ m) : l.length ≤ m.length := by
  obtain ⟨r, hr⟩ := sub_perm nd h
  have := hr.length_eq
  rw [List.length_append] at this
  omega
/-- as many distinct items below d as d: all -/
theorem perm_range {l : List Nat} {d : Nat} (nd : l.Nodup) (lt : ∀ x ∈ l, x < d) (len : d ≤ l.length) : l.Perm (List.range d) := by
  obtain ⟨r, hr⟩ := sub_perm nd fun x hx => List.mem_range.mpr (lt x hx)
  have := hr.length_eq
  rw [List.length_append, List.length_range] at this
  have e : r = [] := List.length_eq_zero_iff.mp (by omega)
  subst e
  simpa using hr
theorem IsP.perm {p : List Nat} (P : IsP p) : p.Perm (List.range p.length) := perm_range P.nd P.lt (Nat.le_refl _)
theorem mod2 (a b : Nat) (h : (a + b) % 2 = 0) : a % 2 = b % 2 := by omega
/-- multiplied -/
theorem inv_mul {p q : List Nat} (P : IsP p) (Q : IsP q) (e : p.length = q.length) : inv (p.map (pf q)) % 2 = (inv p + inv q) % 2 := by
  have h := inv_perm (pf q) P.perm P.nd fun x hx y hy z => pf_inj Q (e ▸ P.lt x hx) (e ▸ P.lt y hy) z
  rw [inv_range, e, range_pf] at h
  omega
/-- told by the cycles -/
structure Cycs (p : List Nat) (C : List (List Nat)) : Prop where
  all : C.flatten.Perm (List.range p.length)
  ne : ∀ c ∈ C, c ≠ []
  turn : ∀ c ∈ C, c.map (pf p) = rot c
theorem map_flat {p : List Nat} : ∀ {C : List (List Nat)}, (∀ c ∈ C, c.map (pf p) = rot c) → C.flatten.map (pf p) = (C.map rot).flatten
  | [], _ => rfl
  | c :: C, h => by
    rw [List.flatten_cons, List.map_append, List.map_cons, List.flatten_cons, h c (by simp), map_flat fun c hc => h c (List.mem_cons_of_mem _ hc)]
theorem nd_flat {c : List Nat} : ∀ {C : List (List Nat)}, C.flatten.Nodup → c ∈ C → c.Nodup
  | [], _, h => by cases h
  | b :: C, h, m => by
    rw [List.flatten_cons, List.nodup_append] at h
    rcases List.mem_cons.mp m with rfl | m
    · exact h.1
    · exact nd_flat h.2.1 m
theorem inv_cyc {p : List Nat} {C : List (List Nat)} (P : IsP p) (h : Cycs p C) : C.length ≤ p.length ∧ inv p % 2 = (p.length - C.length) % 2 := by
  have nd : C.flatten.Nodup := h.all.nodup_iff.mpr List.nodup_range
  have a := inv_perm (pf p) h.all nd fun x hx y hy z => pf_inj P (List.mem_range.mp (h.all.mem_iff.mp hx)) (List.mem_range.mp (h.all.mem_iff.mp hy)) z
  rw [inv_range, range_pf, map_flat h.turn] at a
  have b := (Par.turn (C := C) fun c hc => nd_flat nd hc).2
  have l := dips_len h.ne
  rw [h.all.length_eq, List.length_range] at l
  omega
/-! ### the cycles, walked -/
inductive Walk (p : List Nat) : List Nat → Nat → List Nat → Prop where
  | stop {L : List Nat} {a : Nat} : a ∈ L → Walk p L a []
  | step {L row : List Nat} {a : Nat} : a ∉ L → a < p.length → L.length < p.length → Walk p (L ++ [a]) (pf p a) row → Walk p L a (a :: row)
inductive Cyc (p : List Nat) : List Nat → List Nat → List (List Nat) → List (List Nat) → Prop where
  | nil {L : List Nat} {C : List (List Nat)} : Cyc p [] L C C
  | cons {is L row : List Nat} {i : Nat} {C C' : List (List Nat)} : i < p.length → Walk p L i row → row.length ≤ p.length → Cyc p is (L ++ row) (if row = [] then C else C ++ [row]) C' → Cyc p (i :: is) L C C'
theorem nd_len {L : List Nat} {d : Nat} (nd : L.Nodup) (lt : ∀ x ∈ L, x < d) : L.length ≤ d := by
  have s := sub_len nd fun x hx => List.mem_range.mpr (lt x hx)
  simpa using s
theorem walk {p : List Nat} (P : IsP p) {L : List Nat} (cl : ∀ y ∈ L, ∃ z ∈ L, pf p z = y) {s : Nat} : ∀ (n : Nat) (r : List Nat) (a : Nat), p.length - (L ++ r).length ≤ n → (L ++ r).Nodup → (∀ x ∈ L ++ r, x < p.length) → a < p.length → r ++ [a] = s :: r.map (pf p) →
    ∃ row, Walk p (L ++ r) a row ∧ (L ++ (r ++ row)).Nodup ∧ (∀ x ∈ L ++ (r ++ row), x < p.length) ∧ (r ++ row).map (pf p) = rot (r ++ row) ∧ a ∈ L ++ (r ++ row) := by
  intro n
  induction n with
  | zero =>
    intro r a hn nd lt ha ch
    by_cases m : a ∈ L ++ r
    · exact fin P cl r a nd lt ha ch m
    · exfalso
      have nd2 : (L ++ r ++ [a]).Nodup := by
        rw [List.nodup_append]
        exact ⟨nd, by simp, fun x hx y hy e => m (by simp at hy; rw [← hy, ← e]; exact hx)⟩
      have := nd_len nd2 (d := p.length) fun x hx => by
        rcases List.mem_append.mp hx with hx | hx
        · exact lt x hx
        · simp at hx; rw [hx]; exact ha
      rw [List.length_append] at this
      simp only [List.length_singleton] at this
      omega
  | succ n ih =>
    intro r a hn nd lt ha ch
    by_cases m : a ∈ L ++ r
    · exact fin P cl r a nd lt ha ch m
    · have nd2 : (L ++ (r ++ [a])).Nodup := by
        rw [← List.append_assoc, List.nodup_append]
        exact ⟨nd, by simp, fun x hx y hy e => m (by simp at hy; rw [← hy, ← e]; exact hx)⟩
      have lt2 : ∀ x ∈ L ++ (r ++ [a]), x < p.length := fun x hx => by
        rw [← List.append_assoc] at hx
        rcases List.mem_append.mp hx with hx | hx
        · exact lt x hx
        · simp at hx; rw [hx]; exact ha
      have len := nd_len nd2 lt2
      rw [← List.append_assoc, List.length_append, List.length_singleton] at len
      obtain ⟨row, w, h1, h2, h3, h4⟩ := ih (r ++ [a]) (pf p a) (by rw [← List.append_assoc, List.length_append, List.length_singleton]; omega) nd2 lt2 (pf_lt P ha) (by
        rw [List.map_append]
        show _ = (s :: r.map (pf p)) ++ [pf p a]
        rw [← ch])
      refine ⟨a :: row, .step m ha (by omega) (by simpa using w), by simpa using h1, fun x hx => h2 x (by simpa using hx), by simpa using h3, by simp⟩
where
  fin {p : List Nat} (P : IsP p) {L : List Nat} (cl : ∀ y ∈ L, ∃ z ∈ L, pf p z = y) {s : Nat} (r0 : List Nat) (a : Nat) (nd0 : (L ++ r0).Nodup) (lt0 : ∀ x ∈ L ++ r0, x < p.length) (ha : a < p.length) (ch0 : r0 ++ [a] = s :: r0.map (pf p)) (m0 : a ∈ L ++ r0) :
    ∃ row, Walk p (L ++ r0) a row ∧ (L ++ (r0 ++ row)).Nodup ∧ (∀ x ∈ L ++ (r0 ++ row), x < p.length) ∧ (r0 ++ row).map (pf p) = rot (r0 ++ row) ∧ a ∈ L ++ (r0 ++ row) := by
    refine ⟨[], .stop m0, by simpa using nd0, fun x hx => lt0 x (by simpa using hx), ?_, by simpa using m0⟩
    rw [List.append_nil]
    match r0, ch0, nd0, lt0, m0 with
    | [], ch, nd, lt, m => rfl
    | x :: r, ch, nd, lt, m =>
      simp only [List.cons_append, List.cons.injEq] at ch
      obtain ⟨rfl, ch⟩ := ch
      have inj : ∀ y ∈ x :: r, ∀ z ∈ L ++ (x :: r), pf p y = pf p z → y = z := fun y hy z hz e => pf_inj P (lt y (List.mem_append_right _ hy)) (lt z hz) e
      have ndm : ((x :: r).map (pf p)).Nodup := by
        have nr := (List.nodup_append.mp nd).2.1
        exact List.Pairwise.map _ (S := fun a b => a ≠ b) (R := fun a b => a ∈ (x :: r) ∧ b ∈ (x :: r) ∧ a ≠ b) (fun u v h e => h.2.2 (inj u h.1 v (List.mem_append_right _ h.2.1) e)) (List.Pairwise.and_mem.mp nr)
      rw [← ch] at ndm
      have ax : a = x := by
        rcases List.mem_append.mp m with m | m
        · exfalso
          have : a ∈ (x :: r).map (pf p) := by rw [← ch]; simp
          obtain ⟨y, hy, e⟩ := List.mem_map.mp this
          obtain ⟨z, hz, e2⟩ := cl a m
          have := inj y hy z (List.mem_append_left _ hz) (e.trans e2.symm)
          subst this
          exact (List.nodup_append.mp nd).2.2 y hz y hy rfl
        · rcases List.mem_cons.mp m with m | m
          · exact m
          · exfalso
            exact (List.nodup_append.mp ndm).2.2 a m a (by simp) rfl
      rw [← ch, ax]; rfl
theorem rot_perm : ∀ c : List Nat, (rot c).Perm c
  | [] => .refl _
  | x :: c => by
    show (c ++ [x]).Perm (x :: c)
    exact List.perm_append_comm
theorem cyc {p : List Nat} (P : IsP p) : ∀ (is : List Nat) (C : List (List Nat)), (∀ i ∈ is, i < p.length) → C.flatten.Nodup → (∀ x ∈ C.flatten, x < p.length) → (∀ c ∈ C, c ≠ []) → (∀ c ∈ C, c.map (pf p) = rot c) →
    ∃ C', Cyc p is C.flatten C C' ∧ C'.flatten.Nodup ∧ (∀ x ∈ C'.flatten, x < p.length) ∧ (∀ c ∈ C', c ≠ []) ∧ (∀ c ∈ C', c.map (pf p) = rot c) ∧ (∀ x ∈ C.flatten, x ∈ C'.flatten) ∧ (∀ i ∈ is, i ∈ C'.flatten)
  | [], C, _, nd, lt, ne, tu => ⟨C, .nil, nd, lt, ne, tu, fun _ h => h, fun _ h => by cases h⟩
  | i :: is, C, hi, nd, lt, ne, tu => by
    have cl : ∀ y ∈ C.flatten, ∃ z ∈ C.flatten, pf p z = y := fun y hy => by
      obtain ⟨c, hc, hy⟩ := List.mem_flatten.mp hy
      have : y ∈ c.map (pf p) := by rw [tu c hc]; exact (rot_perm c).mem_iff.mpr hy
      obtain ⟨z, hz, e⟩ := List.mem_map.mp this
      exact ⟨z, List.mem_flatten.mpr ⟨c, hc, hz⟩, e⟩
    obtain ⟨row, w, h1, h2, h3, h4⟩ := walk P cl (s := i) p.length [] i (by omega) (by simpa using nd) (by simpa using lt) (hi i (by simp)) rfl
    simp only [List.append_nil, List.nil_append] at w h1 h2 h3 h4
    have fl : (if row = [] then C else C ++ [row]).flatten = C.flatten ++ row := by
      split
      · rename_i e; subst e; simp
      · simp
    have mm : ∀ c ∈ (if row = [] then C else C ++ [row]), c ∈ C ∨ (c = row ∧ row ≠ []) := fun c hc => by
      split at hc
      · exact .inl hc
      · rename_i q
        rcases List.mem_append.mp hc with hc | hc
        · exact .inl hc
        · simp at hc; exact .inr ⟨hc, q⟩
    obtain ⟨C', a0, a1, a2, a3, a4, a5, a6⟩ := cyc P is (if row = [] then C else C ++ [row]) (fun j hj => hi j (List.mem_cons_of_mem _ hj)) (by rw [fl]; exact h1) (by rw [fl]; exact h2)
      (fun c hc => by rcases mm c hc with k | ⟨k, q⟩; exact ne c k; rw [k]; exact q) (fun c hc => by rcases mm c hc with k | ⟨k, _⟩; exact tu c k; rw [k]; exact h3)
    rw [fl] at a0 a5
    refine ⟨C', .cons (hi i (by simp)) w ?_ a0, a1, a2, a3, a4, fun x hx => a5 x (List.mem_append_left _ hx), fun j hj => ?_⟩
    · exact nd_len (List.nodup_append.mp h1).2.1 fun x hx => h2 x (List.mem_append_right _ hx)
    · rcases List.mem_cons.mp hj with rfl | hj
      · exact a5 _ h4
      · exact a6 j hj
theorem cycs {p : List Nat} (P : IsP p) : ∃ C, Cyc p (List.range p.length) [] [] C ∧ Cycs p C := by
  obtain ⟨C, a0, a1, a2, a3, a4, a5, a6⟩ := cyc P (List.range p.length) [] (fun i h => List.mem_range.mp h) (by simp) (by simp) (by simp) (by simp)
  refine ⟨C, a0, perm_range a1 a2 ?_, a3, a4⟩
  have s := sub_len List.nodup_range a6
  simpa using s
/-! ### lengths, the least common multiple -/
def lcmL : List Nat → Nat → Nat
  | [], a => a
  | l :: ls, a => lcmL ls (Nat.lcm a l)
theorem le_two : ∀ l : Nat, 1 ≤ l → l ≤ 2 ^ (l - 1)
  | 1, _ => by decide
  | l + 2, _ => by
    have := le_two (l + 1) (by omega)
    rw [show l + 2 - 1 = (l + 1 - 1) + 1 from by omega, Nat.pow_succ]
    omega
end K05

set_option Elab.async false
set_option linter.all false
set_option maxRecDepth 100000
set_option autoImplicit false
noncomputable section
namespace K05
open PySem L2 Mi
/-! ### loops of mirrors -/
theorem whileM_mono {c : Rho → R Bool} {b : Rho → Out} : ∀ {n m : Nat} {ρ : Rho}, n ≤ m → whileM c b n ρ ≠ .stuck → whileM c b m ρ = whileM c b n ρ
  | 0, _, _, _, h => (h rfl).elim
  | n + 1, 0, _, h, _ => by omega
  | n + 1, m + 1, ρ, h, ne => by
    unfold whileM at ne ⊢
    cases q : c ρ with
    | stuck => rfl
    | exn x ρ1 => rfl
    | ok k ρ1 =>
      rw [q] at ne
      cases k with
      | false => rfl
      | true =>
        simp only [R.out] at ne ⊢
        cases q2 : b ρ1 with
        | nx ρ2 => rw [q2] at ne; exact whileM_mono (by omega) ne
        | ct ρ2 => rw [q2] at ne; exact whileM_mono (by omega) ne
        | bk ρ2 => rfl
        | rt e ρ2 => rfl
        | exn x ρ2 => rfl
        | stuck => rfl
theorem mWhile_eq {c : Rho → R Bool} {b : Rho → Out} {n : Nat} {ρ : Rho} (h : whileM c b n ρ ≠ .stuck) : mWhile c b ρ = whileM c b n ρ := by
  have ex : ∃ n, whileM c b n ρ ≠ .stuck := ⟨n, h⟩
  unfold mWhile
  rw [dif_pos ex]
  have h2 := Classical.choose_spec ex
  rcases Nat.le_total n (Classical.choose ex) with k | k
  · exact whileM_mono k h
  · exact (whileM_mono k h2).symm
theorem mWhile_ex {c : Rho → R Bool} {b : Rho → Out} {ρ : Rho} {o : Out} (h : mWhile c b ρ = o) (ne : o ≠ .stuck) : ∃ n, whileM c b n ρ = o := by
  unfold mWhile at h
  split at h
  · exact ⟨_, h⟩
  · exact (ne h.symm).elim
theorem while_stop {c : Rho → R Bool} {b : Rho → Out} {ρ ρ1 : Rho} (h : c ρ = .ok false ρ1) : mWhile c b ρ = .nx ρ1 := by
  have e : whileM c b 1 ρ = .nx ρ1 := by unfold whileM; rw [h]; rfl
  rw [mWhile_eq (n := 1) (by rw [e]; exact fun z => by cases z), e]
theorem while_go {c : Rho → R Bool} {b : Rho → Out} {ρ ρ1 ρ2 : Rho} {o : Out} (h : c ρ = .ok true ρ1) (hb : b ρ1 = .nx ρ2) (h2 : mWhile c b ρ2 = o) (ne : o ≠ .stuck) : mWhile c b ρ = o := by
  obtain ⟨n, hn⟩ := mWhile_ex h2 ne
  have e : whileM c b (n + 1) ρ = o := by
    unfold whileM
    rw [h]
    simp only [R.out, hb]
    exact hn
  rw [mWhile_eq (n := n + 1) (by rw [e]; exact ne), e]
/-! ### data of lists of sheets -/
def dI (n : Nat) : D := .int n
def row (l : List Nat) : D := .tup (l.map dI)
@[simp] theorem row_at {l : List Nat} {i : Nat} (h : i < l.length) : dIx (row l) (.int i) = some (.d (dI (l[i]'h))) := by
  simp [row, dIx, atI, ixN, h]
@[simp] theorem bind_ok {α β : Type} {a : α} {ρ : Rho} {f : α → Rho → R β} : (R.ok a ρ).bind f = f a ρ := rfl
@[simp] theorem out_ok {α : Type} {a : α} {ρ : Rho} {f : α → Rho → Out} : (R.ok a ρ).out f = f a ρ := rfl
@[simp] theorem of_some {α : Type} {a : α} {ρ : Rho} : R.of (some a) ρ = .ok a ρ := rfl
@[simp] theorem oof_some {ρ : Rho} : Out.of (some ρ) = .nx ρ := rfl
/-! ### demand, is_integer -/
theorem x_is_integer (d : D) (h : ∀ a, d ≠ .ref a) : m_f_is_integer [.val d] = .ok (.d (.bl (match d with | .int _ => true | _ => false))) [.no] := by
  cases d <;> first | rfl | exact (h _ rfl).elim
theorem x_demand (b : Bool) (x : Str) (hx : x.length ≤ 1000) : m_f_demand [.val (.bl b), .val (.str x)] = if b then .ok (.d .non) [.no, .no] else .exn .mal := by
  cases b with
  | true => rfl
  | false => 
    simp [m_f_demand, callOf, mIfS, mNotT, mTru, mVar, rd, truD, mRaiseM, mCons, mNil, mFs2, hx, noOwn, szOk]

/-! ### calls by value -/
def atR (r : CR) (ρ : Rho) : R EV := match r with
  | .ok (.slot _) _ => .stuck
  | .ok e _ => .ok e ρ
  | .exn x => .exn x ρ
  | .stuck => .stuck
@[simp] theorem at_d {d : D} {o : List Cell} {ρ : Rho} : atR (.ok (.d d) o) ρ = .ok (.d d) ρ := rfl
@[simp] theorem at_n {d : Mo} {o : List Cell} {ρ : Rho} : atR (.ok (.new d) o) ρ = .ok (.new d) ρ := rfl
@[simp] theorem at_x {x : Exn} {ρ : Rho} : atR (.exn x) ρ = .exn x ρ := rfl
theorem wb_no {evs : List EV} {outs : List Cell} (h : ∀ j, slotPos j evs = none) (ρ : Rho) : wback evs outs ρ = ρ := by
  unfold wback
  apply List.ext_getElem?
  intro i
  rw [List.getElem?_mapIdx]
  cases ρ[i]? with
  | none => rfl
  | some c =>
    cases c with
    | no => rfl
    | val d => rfl
    | own b o => simp only [Option.map_some, wbCell, h]
theorem wb_one {j : Nat} {d : D} {b : Bool} {o o' : Mo} {c : Cell} {ρ : Rho} (h : ρ[j]? = some (.own b o)) : wback [.slot j, .d d] [.own true o', c] ρ = ρ.set j (.own b o') := by
  unfold wback
  apply List.ext_getElem?
  intro i
  rw [List.getElem?_mapIdx, get_set]
  have hj := (List.getElem?_eq_some_iff.mp h).1
  by_cases e : j = i
  · subst e
    rw [h, if_pos rfl, if_pos hj]
    simp [wbCell, slotPos]
  · rw [if_neg e]
    cases ρ[i]? with
    | none => rfl
    | some c =>
      cases c with
      | no => rfl
      | val d => rfl
      | own b o => simp [wbCell, slotPos, e]
theorem toR_no {r : CR} {evs : List EV} (h : ∀ j, slotPos j evs = none) (ρ : Rho) : r.toR evs ρ = atR r ρ := by
  cases r with
  | ok e o => cases e <;> simp only [CR.toR, atR, wb_no h]
  | exn x => rfl
  | stuck => rfl
theorem call1 {f : List Cell → CR} {m : Rho → R EV} {ρ ρ1 : Rho} {d : D} (h : mFrz m ρ = .ok (.d d) ρ1) : mCall f 1 (mCons (mFrz m) mNil) ρ = atR (f [.val d]) ρ1 := by
  simp only [mCall, mCons, h, mNil, bind_ok, callR, cellsOf, Mi.cellOf, Option.bind_some, slotsNd, List.length_singleton, decide_true, Bool.and_true, if_true]
  exact toR_no (fun j => rfl) _
theorem call2 {f : List Cell → CR} {m n : Rho → R EV} {ρ ρ1 ρ2 : Rho} {d e : D} (h : mFrz m ρ = .ok (.d d) ρ1) (h2 : mFrz n ρ1 = .ok (.d e) ρ2) : mCall f 2 (mCons (mFrz m) (mCons (mFrz n) mNil)) ρ = atR (f [.val d, .val e]) ρ2 := by
  simp only [mCall, mCons, h, h2, mNil, bind_ok, callR, cellsOf, Mi.cellOf, Option.bind_some, slotsNd, List.length_cons, List.length_nil, decide_true, Bool.and_true, if_true]
  exact toR_no (fun j => rfl) _
theorem callB {f : List Cell → CR} {m : Rho → R EV} {ρ : Rho} {j : Nat} {b : Bool} {o o' : Mo} {d : D} {e : D} {c : Cell} (hj : ρ[j]? = some (.own b o)) (h : mFrz m ρ = .ok (.d d) ρ) (hf : f [.own true o, .val d] = .ok (.d e) [.own true o', c]) :
    mCall f 2 (mCons (mVar j) (mCons (mFrz m) mNil)) ρ = .ok (.d e) (ρ.set j (.own b o')) := by
  have hv : mVar j ρ = .ok (.slot j) ρ := by simp only [mVar, hj]
  simp only [mCall, mCons, hv, h, mNil, bind_ok, callR, cellsOf, Mi.cellOf, hj, Option.bind_some, slotsNd, hasSlot, Bool.not_false, List.length_cons, List.length_nil, decide_true, Bool.and_true, if_true, hf, CR.toR, wb_one hj]
/-! ### state, take -/
def stt (a b : Int) : Mo := .lst [.int a, .int b]
theorem x_take (a b M : Int) (h0 : 0 < M) (h1 : M < 1073741824) : ∃ v a' b', m_f__law_take [.own true (stt a b), .val (.int M)] = .ok (.d (.int v)) [.own true (stt a' b'), .no] ∧ 0 ≤ v ∧ v < M := by
  by_cases c : 0 < a
  · refine ⟨a % M, a / M, b, ?_, Int.emod_nonneg _ (by omega), Int.emod_lt_of_pos _ h0⟩
    simp [m_f__law_take, callOf, mSeq, mIfS, mTst, mOp, mVar, rd, Cell.rd, Mo.rd, stt, mC, dIx, atI, ixN, dGt, dI2, c, mSet, mCB, mCons, mNil, rds, bInt, dMod, dI2c, h0, setC, giveOut, putC, mStore, mFrz, frz, ownL, stAt, dDiv, divOk, h1, mRet, keepB]
  · have h2 : ∀ x : Int, 0 ≤ x % 2147483647 := fun x => Int.emod_nonneg _ (by omega)
    refine ⟨((b * 48271 + 11) % 2147483647 / 7) % M, a, (b * 48271 + 11) % 2147483647, ?_, Int.emod_nonneg _ (by omega), Int.emod_lt_of_pos _ h0⟩
    simp [m_f__law_take, callOf, mSeq, mIfS, mTst, mOp, mVar, rd, Cell.rd, Mo.rd, stt, mC, dIx, atI, ixN, dGt, dI2, c, mSet, mCB, mCons, mNil, rds, bInt, dMod, dI2c, h0, setC, giveOut, putC, mStore, mFrz, frz, ownL, stAt, dDiv, divOk, h1, mRet, keepB, mNext, dAdd, dMul, mulOk]

def bState : Rho → Out := mSeq (mSet 1 (mOp dAdd (mOp dMul (mVar 1) (mC (.int 1000003))) (mCB bAbs (mCons (mVar 3) mNil))))
    (mSet 2 (mOp dMod (mCB bInt (mCons (mOp dAdd (mOp dMul (mVar 2) (mC (.int 48271))) (mVar 3)) mNil)) (mC (.int 2147483647))))
theorem seq_nx {m n : Rho → Out} {ρ ρ1 : Rho} (h : m ρ = .nx ρ1) : mSeq m n ρ = n ρ1 := by unfold mSeq; rw [h]
theorem seq_rt {m n : Rho → Out} {ρ ρ1 : Rho} {e : EV} (h : m ρ = .rt e ρ1) : mSeq m n ρ = .rt e ρ1 := by unfold mSeq; rw [h]
theorem seq_ex {m n : Rho → Out} {ρ ρ1 : Rho} {e : Exn} (h : m ρ = .exn e ρ1) : mSeq m n ρ = .exn e ρ1 := by unfold mSeq; rw [h]
theorem call_rt {n : Nat} {body : Rho → Out} {cs : List Cell} {e : EV} {ρ : Rho} (h : body (cs ++ List.replicate (n - cs.length) .no) = .rt e ρ) (he : ∀ i, e ≠ .slot i) : callOf n body cs = .ok e (keepB cs ρ) := by
  unfold callOf
  rw [h]
  cases e with
  | slot i => exact (he i rfl).elim
  | d d => rfl
  | new o => rfl
theorem call_nx {n : Nat} {body : Rho → Out} {cs : List Cell} {ρ : Rho} (h : body (cs ++ List.replicate (n - cs.length) .no) = .nx ρ) : callOf n body cs = .ok (.d .non) (keepB cs ρ) := by
  unfold callOf
  rw [h]
theorem call_ex {n : Nat} {body : Rho → Out} {cs : List Cell} {x : Exn} {ρ : Rho} (h : body (cs ++ List.replicate (n - cs.length) .no) = .exn x ρ) (k : noOwn cs = true) : callOf n body cs = .exn x := by
  unfold callOf
  rw [h]
  simp [k]
theorem bState_step (d : D) (a b n : Int) : bState [.val d, .val (.int a), .val (.int b), .val (.int n)] = .nx [.val d, .val (.int (a * 1000003 + (if n < 0 then -n else n))), .val (.int ((b * 48271 + n) % 2147483647)), .val (.int n)] := by
  unfold bState
  simp [mSeq, mIfS, mTst, mTru, mNotT, mOrT, mAndT, mNotV, mAndV, mOp, mUn, mVar, rd, Cell.rd, Mo.rd, mC, dIx, atI, ixN, dGt, dGe, dLt, dLe, dSub, dAdd, dMul, mulOk, dNeg, dAnd, dEq, dNe, eqD, dI2, mSet, mCB, mCons, mNil, rds, bInt, bAbs, bLen, bTuple, dMod, dI2c, setC, giveOut, putC, mStore, mFrz, frz, ownL, stAt, dDiv, divOk, mRet, keepB, mNext, mDrop, mApp, mRep, mLst, mTup, dsOf, szOk, mIsi, dIsi, truD, mIfE]
theorem state_loop : ∀ (ns : List Int) (d : D) (a b : Int) (c : Cell), (∀ b o, c ≠ .own b o) → ∃ a' b' c', (∀ b o, c' ≠ .own b o) ∧ forL (gtN 3) bState (ns.map D.int) [.val d, .val (.int a), .val (.int b), c] = .nx [.val d, .val (.int a'), .val (.int b'), c']
  | [], d, a, b, c, hc => ⟨a, b, c, hc, rfl⟩
  | n :: ns, d, a, b, c, hc => by
    obtain ⟨a', b', c', h1, h2⟩ := state_loop ns d (a * 1000003 + (if n < 0 then -n else n)) ((b * 48271 + n) % 2147483647) (.val (.int n)) (by simp)
    refine ⟨a', b', c', h1, ?_⟩
    rw [List.map_cons]
    unfold forL
    have e : gtN 3 (.int n) [.val d, .val (.int a), .val (.int b), c] = some [.val d, .val (.int a), .val (.int b), .val (.int n)] := by
      cases c <;> first | rfl | exact (hc _ _ rfl).elim
    simp only [e, bState_step]
    exact h2
theorem x_state (ns : List Int) : ∃ a b, m_f__law_state [.val (.lst (ns.map D.int))] = .ok (.new (stt a b)) [.no] := by
  obtain ⟨k, hk⟩ : ∃ k, cutD (ns.map D.int) none (some 63) = (ns.take k).map D.int := by
    refine ⟨HT.sIx (ns.map D.int).length (ns.map D.int).length (some 63) - HT.sIx (ns.map D.int).length 0 none, ?_⟩
    unfold cutD
    rw [show HT.sIx (ns.map D.int).length 0 none = 0 from rfl, List.drop_zero, List.map_take]
  obtain ⟨a, b, c', hc, h⟩ := state_loop (ns.take k) (.lst (ns.map D.int)) 0 1 .no (by simp)
  refine ⟨a, b, ?_⟩
  have e : mIt (mCut none (some 63) (mVar 0)) [.val (.lst (ns.map D.int)), .val (.int 0), .val (.int 1), .no] = .ok ((ns.take k).map D.int) [.val (.lst (ns.map D.int)), .val (.int 0), .val (.int 1), .no] := by
    simp [mIt, mFrz, mCut, mVar, rd, frz, hk]
  have e3 : mFor (mIt (mCut none (some 63) (mVar 0))) (gtN 3) bState [.val (.lst (ns.map D.int)), .val (.int 0), .val (.int 1), .no] = .nx [.val (.lst (ns.map D.int)), .val (.int a), .val (.int b), c'] := by
    unfold mFor
    rw [e]
    exact h
  exact call_rt (e := .new (stt a b)) (ρ := [.val (.lst (ns.map D.int)), .val (.int a), .val (.int b), c']) ((seq_nx rfl).trans ((seq_nx rfl).trans ((seq_nx e3).trans (by simp [mSeq, mIfS, mTst, mTru, mNotT, mOrT, mAndT, mNotV, mAndV, mOp, mUn, mVar, rd, Cell.rd, Mo.rd, mC, dIx, atI, ixN, dGt, dGe, dLt, dLe, dSub, dAdd, dMul, mulOk, dNeg, dAnd, dEq, dNe, eqD, dI2, mSet, mCB, mCons, mNil, rds, bInt, bAbs, bLen, bTuple, dMod, dI2c, setC, giveOut, putC, mStore, mFrz, frz, ownL, stAt, dDiv, divOk, mRet, keepB, mNext, mDrop, mApp, mRep, mLst, mTup, dsOf, szOk, mIsi, dIsi, truD, mIfE, stt])))) (fun i z => by cases z)
end K05
end

set_option Elab.async false
set_option linter.all false
set_option maxRecDepth 100000
set_option autoImplicit false
noncomputable section
namespace K05
open PySem L2 Mi
theorem rng_eq (n : Nat) : rngD 0 n = (List.range n).map dI := by
  unfold rngD dI
  simp
theorem er_map : ∀ (l : List Nat) (i : Nat), (l.map dI).eraseIdx i = (l.eraseIdx i).map dI
  | [], _ => rfl
  | _ :: _, 0 => rfl
  | x :: l, i + 1 => by
    show dI x :: (l.map dI).eraseIdx i = dI x :: (l.eraseIdx i).map dI
    rw [er_map l i]
theorem er_perm : ∀ (l : List Nat) (i : Nat) (h : i < l.length), (l[i] :: l.eraseIdx i).Perm l
  | x :: l, 0, _ => .refl _
  | x :: l, i + 1, h => by
    have h' : i < l.length := by simpa using h
    show (l[i] :: x :: l.eraseIdx i).Perm (x :: l)
    exact (List.Perm.swap x l[i] _).trans ((er_perm l i h').cons x)
theorem pop_eq {l : List Nat} {v : Int} (h0 : 0 ≤ v) (h1 : v < l.length) (h2 : l.length ≤ 1000) : ∃ h : v.toNat < l.length, popAt (l.map dI) v = some (dI (l[v.toNat]'h), (l.eraseIdx v.toNat).map dI) := by
  have h : v.toNat < l.length := by omega
  refine ⟨h, ?_⟩
  have e : PySem.seqIndex? v (l.map dI).length = some v.toNat := (ixN_seq (by unfold ixN; rw [List.length_map, if_pos h0, if_pos h1])).1
  unfold popAt
  rw [e]
  have c1 : -(2 ^ 63) ≤ v := by omega
  have c2 : v < 2 ^ 63 := by omega
  rw [decide_eq_true c1, decide_eq_true c2]
  simp [h, er_map, List.getElem?_map]
theorem isP_of {p : List Nat} {n : Nat} (h : p.Perm (List.range n)) : IsP p ∧ p.length = n := by
  have l : p.length = n := by rw [h.length_eq, List.length_range]
  exact ⟨⟨fun x hx => by rw [l]; exact List.mem_range.mp (h.mem_iff.mp hx), h.nodup_iff.mpr List.nodup_range⟩, l⟩
theorem frz_d {m : Rho → R EV} {ρ ρ1 : Rho} {d : D} (h : m ρ = .ok (.d d) ρ1) : mFrz m ρ = .ok (.d d) ρ1 := by
  unfold mFrz
  rw [h]; rfl
theorem app_nx {i : Nat} {m : Rho → R EV} {ρ ρ1 : Rho} {d : D} {b b0 : Bool} {xs ys : List D} (h0 : ρ[i]? = some (.own b0 (.lst ys))) (h : mFrz m ρ = .ok (.d d) ρ1) (h1 : ρ1[i]? = some (.own b (.lst xs))) (hl : xs.length ≤ 1000000) :
    mDrop (mApp i m) ρ = .nx (ρ1.set i (.own b (.lst (xs ++ [d])))) := by
  have o0 : ownL i ρ = some (b0, ys) := by unfold ownL; rw [h0]
  have o1 : ownL i ρ1 = some (b, xs) := by unfold ownL; rw [h1]
  unfold mDrop mApp
  simp [o0, h, o1, szOk, hl]
def bDraw : Rho → Out := mDrop (mApp 3 (mPop 2 (mCall m_f__law_take 2 (mCons (mVar 0) (mCons (mFrz (mCB bLen (mCons (mVar 2) mNil))) mNil)))))
def cDraw : Rho → R Bool := mTst (mOp dGt (mCB bLen (mCons (mVar 2) mNil)) (mC (.int 0)))
theorem cDraw_eq (c0 c1 c3 : Cell) (rest : List Nat) : cDraw [c0, c1, .own false (.lst (rest.map dI)), c3] = .ok (decide (0 < rest.length)) [c0, c1, .own false (.lst (rest.map dI)), c3] := by
  unfold cDraw
  simp [mSeq, mIfS, mTst, mTru, mNotT, mOrT, mAndT, mNotV, mAndV, mOp, mUn, mVar, rd, Cell.rd, Mo.rd, mC, dIx, atI, ixN, dGt, dGe, dLt, dLe, dSub, dAdd, dMul, mulOk, dNeg, dAnd, dEq, dNe, eqD, dI2, mSet, mCB, mCons, mNil, rds, bInt, bAbs, bLen, bTuple, dMod, dI2c, setC, giveOut, putC, mStore, mFrz, frz, ownL, stAt, dDiv, divOk, mRet, keepB, mNext, mDrop, mApp, mRep, mLst, mTup, dsOf, szOk, mIsi, dIsi, truD, mIfE]
theorem bDraw_step (a b : Int) (c1 : Cell) (rest out : List Nat) (h0 : 0 < rest.length) (h1 : rest.length ≤ 1000) (h2 : out.length ≤ 1000) :
    ∃ (a' b' : Int) (rest' out' : List Nat), bDraw [.own true (stt a b), c1, .own false (.lst (rest.map dI)), .own false (.lst (out.map dI))] = .nx [.own true (stt a' b'), c1, .own false (.lst (rest'.map dI)), .own false (.lst (out'.map dI))] ∧
      rest'.length + 1 = rest.length ∧ (rest' ++ out').Perm (rest ++ out) := by
  obtain ⟨v, a', b', ht, v0, v1⟩ := x_take a b rest.length (by omega) (by omega)
  obtain ⟨hv, hp⟩ := pop_eq v0 v1 h1
  refine ⟨a', b', rest.eraseIdx v.toNat, out ++ [rest[v.toNat]], ?_, by rw [List.length_eraseIdx_of_lt hv]; omega, ?_⟩
  · have e : mCall m_f__law_take 2 (mCons (mVar 0) (mCons (mFrz (mCB bLen (mCons (mVar 2) mNil))) mNil)) [.own true (stt a b), c1, .own false (.lst (rest.map dI)), .own false (.lst (out.map dI))] = .ok (.d (.int v)) [.own true (stt a' b'), c1, .own false (.lst (rest.map dI)), .own false (.lst (out.map dI))] :=
      callB (j := 0) (o := stt a b) (o' := stt a' b') (d := .int rest.length) rfl (by simp [mSeq, mIfS, mTst, mTru, mNotT, mOrT, mAndT, mNotV, mAndV, mOp, mUn, mVar, rd, Cell.rd, Mo.rd, mC, dIx, atI, ixN, dGt, dGe, dLt, dLe, dSub, dAdd, dMul, mulOk, dNeg, dAnd, dEq, dNe, eqD, dI2, mSet, mCB, mCons, mNil, rds, bInt, bAbs, bLen, bTuple, dMod, dI2c, setC, giveOut, putC, mStore, mFrz, frz, ownL, stAt, dDiv, divOk, mRet, keepB, mNext, mDrop, mApp, mRep, mLst, mTup, dsOf, szOk, mIsi, dIsi, truD, mIfE]) ht
    have e2 : mPop 2 (mCall m_f__law_take 2 (mCons (mVar 0) (mCons (mFrz (mCB bLen (mCons (mVar 2) mNil))) mNil))) [.own true (stt a b), c1, .own false (.lst (rest.map dI)), .own false (.lst (out.map dI))] = .ok (.d (dI rest[v.toNat])) [.own true (stt a' b'), c1, .own false (.lst ((rest.eraseIdx v.toNat).map dI)), .own false (.lst (out.map dI))] := by
      unfold mPop
      rw [e]
      simp [ownL, hp]
    have h3 : out.length ≤ 1000000 := by omega
    exact (app_nx rfl (frz_d e2) rfl (by simpa using h3)).trans (by simp [dI])
  · have p1 : (rest[v.toNat] :: rest.eraseIdx v.toNat).Perm rest := er_perm _ _ hv
    have p2 : (rest.eraseIdx v.toNat ++ (out ++ [rest[v.toNat]])).Perm ((rest[v.toNat] :: rest.eraseIdx v.toNat) ++ out) := by
      rw [← List.append_assoc]
      exact List.perm_append_comm
    exact p2.trans (p1.append_right out)
theorem draw_loop (c1 : Cell) : ∀ (m : Nat) (a b : Int) (rest out : List Nat), rest.length = m → rest.length + out.length ≤ 1000 →
    ∃ (a' b' : Int) (res : List Nat), mWhile cDraw bDraw [.own true (stt a b), c1, .own false (.lst (rest.map dI)), .own false (.lst (out.map dI))] = .nx [.own true (stt a' b'), c1, .own false (.lst []), .own false (.lst (res.map dI))] ∧ res.Perm (rest ++ out)
  | 0, a, b, rest, out, h, hb => by
    have e : rest = [] := List.length_eq_zero_iff.mp h
    subst e
    exact ⟨a, b, out, while_stop (cDraw_eq _ _ _ []), .refl _⟩
  | m + 1, a, b, rest, out, h, hb => by
    obtain ⟨a1, b1, r1, o1, e, hl, hp⟩ := bDraw_step a b c1 rest out (by omega) (by omega) (by omega)
    have hl2 := hp.length_eq
    rw [List.length_append, List.length_append] at hl2
    obtain ⟨a2, b2, res, e2, hp2⟩ := draw_loop c1 m a1 b1 r1 o1 (by omega) (by omega)
    refine ⟨a2, b2, res, while_go ?_ e e2 (fun z => by cases z), hp2.trans hp⟩
    rw [cDraw_eq]
    rw [decide_eq_true (by omega)]
theorem x_drawn (a b : Int) (n : Nat) (hn : n ≤ 1000) : ∃ (p : List Nat) (a' b' : Int), m_f__law_drawn [.own true (stt a b), .val (.int n)] = .ok (.d (row p)) [.own true (stt a' b'), .no] ∧ IsP p ∧ p.length = n := by
  obtain ⟨a', b', res, e, hp⟩ := draw_loop (.val (.int n)) n a b (List.range n) [] (by simp) (by simpa using hn)
  rw [List.append_nil] at hp
  have i := isP_of hp
  refine ⟨res, a', b', ?_, i.1, i.2⟩
  have h1 : (n : Int) ≤ 1000000 := by omega
  have h2 : (-1000000 : Int) ≤ n := by omega
  have e0 : mPar 2 3 (mLstRg1 (mVar 1)) (mLst mNil) [.own true (stt a b), .val (.int n), .no, .no] = .nx [.own true (stt a b), .val (.int n), .own false (.lst ((List.range n).map dI)), .own false (.lst ([].map dI))] := by
    simp [mPar, mLstRg1, mRng1, mVar, rngOk, h1, h2, rng_eq, mLst, mNil, dsOf, szOk, putC]
  exact call_rt (e := .d (row res)) (ρ := [.own true (stt a' b'), .val (.int n), .own false (.lst []), .own false (.lst (res.map dI))]) ((seq_nx e0).trans ((seq_nx e).trans (by simp [mSeq, mIfS, mTst, mTru, mNotT, mOrT, mAndT, mNotV, mAndV, mOp, mUn, mVar, rd, Cell.rd, Mo.rd, mC, dIx, atI, ixN, dGt, dGe, dLt, dLe, dSub, dAdd, dMul, mulOk, dNeg, dAnd, dEq, dNe, eqD, dI2, mSet, mCB, mCons, mNil, rds, bInt, bAbs, bLen, bTuple, dMod, dI2c, setC, giveOut, putC, mStore, mFrz, frz, ownL, stAt, dDiv, divOk, mRet, keepB, mNext, mDrop, mApp, mRep, mLst, mTup, dsOf, szOk, mIsi, dIsi, truD, mIfE, row]))) (fun i z => by cases z)
end K05
end

set_option Elab.async false
set_option linter.all false
set_option maxRecDepth 100000
set_option autoImplicit false
noncomputable section
namespace K05
open PySem L2 Mi
/-! ### pure -/
def inner (r : List Nat) (at_ k : Nat) : List Nat → Nat → List Nat
  | o, 0 => o
  | o, j + 1 => (inner r at_ k o j).set (pf r (at_ + j)) (pf r (at_ + (j + 1) % k))
theorem pf_set {o : List Nat} {x v : Nat} (h : x < o.length) (y : Nat) : pf (o.set x v) y = if x = y then v else pf o y := by
  unfold pf
  rw [get_set]
  split
  · rw [if_pos (by omega)]; rfl
  · rfl
theorem inner_len (r : List Nat) (at_ k : Nat) (o : List Nat) : ∀ j, (inner r at_ k o j).length = o.length
  | 0 => rfl
  | j + 1 => by rw [inner, List.length_set, inner_len r at_ k o j]
structure Half (r o : List Nat) (at_ : Nat) : Prop where
  len : o.length = r.length
  le : at_ ≤ r.length
  ex : ∃ τ : Nat → Nat, (∀ i, i < at_ → τ i < at_) ∧ (∀ i j, i < at_ → j < at_ → τ i = τ j → i = j) ∧ ∀ i, i < at_ → pf o (pf r i) = pf r (τ i)
theorem inner_eq {r o : List Nat} {at_ k : Nat} (P : IsP r) (len : o.length = r.length) (hk : at_ + k ≤ r.length) : ∀ j, j ≤ k → (∀ i, i < at_ → pf (inner r at_ k o j) (pf r i) = pf o (pf r i)) ∧ ∀ j', j' < j → pf (inner r at_ k o j) (pf r (at_ + j')) = pf r (at_ + (j' + 1) % k)
  | 0, _ => ⟨fun i _ => rfl, fun j' h => by omega⟩
  | j + 1, hj => by
    obtain ⟨h1, h2⟩ := inner_eq P len hk j (by omega)
    have lt : pf r (at_ + j) < (inner r at_ k o j).length := by rw [inner_len, len]; exact pf_lt P (by omega)
    refine ⟨fun i hi => ?_, fun j' hj' => ?_⟩
    · rw [inner, pf_set lt, if_neg fun e => by have := pf_inj P (by omega) (by omega) e; omega]
      exact h1 i hi
    · rw [inner, pf_set lt]
      by_cases e : j' = j
      · subst e; rw [if_pos rfl]
      · rw [if_neg fun z => e (by have := pf_inj P (by omega) (by omega) z; omega)]
        exact h2 j' (by omega)
theorem half_step {r o : List Nat} {at_ k : Nat} (P : IsP r) (h : Half r o at_) (k0 : 0 < k) (hk : at_ + k ≤ r.length) : Half r (inner r at_ k o k) (at_ + k) := by
  obtain ⟨τ, t1, t2, t3⟩ := h.ex
  obtain ⟨e1, e2⟩ := inner_eq P h.len hk k (Nat.le_refl k)
  refine ⟨by rw [inner_len, h.len], hk, fun i => if i < at_ then τ i else at_ + (i - at_ + 1) % k, fun i hi => ?_, fun i j hi hj e => ?_, fun i hi => ?_⟩
  · dsimp only
    split
    · rename_i c; have := t1 i c; omega
    · have := Nat.mod_lt (i - at_ + 1) k0; omega
  · dsimp only at e
    have m1 := Nat.mod_lt (i - at_ + 1) k0
    have m2 := Nat.mod_lt (j - at_ + 1) k0
    split at e <;> split at e
    · rename_i c1 c2; exact t2 i j c1 c2 e
    · rename_i c1 c2; have := t1 i c1; omega
    · rename_i c1 c2; have := t1 j c2; omega
    · rename_i c1 c2
      have e3 : (i - at_ + 1) % k = (j - at_ + 1) % k := by omega
      have b1 : i - at_ + 1 ≤ k := by omega
      have b2 : j - at_ + 1 ≤ k := by omega
      rcases Nat.lt_or_ge (i - at_ + 1) k with c3 | c3 <;> rcases Nat.lt_or_ge (j - at_ + 1) k with c4 | c4
      · rw [Nat.mod_eq_of_lt c3, Nat.mod_eq_of_lt c4] at e3; omega
      · have : j - at_ + 1 = k := by omega
        rw [Nat.mod_eq_of_lt c3, this, Nat.mod_self] at e3; omega
      · have : i - at_ + 1 = k := by omega
        rw [Nat.mod_eq_of_lt c4, this, Nat.mod_self] at e3; omega
      · omega
  · dsimp only
    split
    · rename_i c; rw [e1 i c]; exact t3 i c
    · rename_i c
      have := e2 (i - at_) (by omega)
      rw [show at_ + (i - at_) = i from by omega] at this
      exact this
theorem isP_inj {o : List Nat} (lt : ∀ x, x < o.length → pf o x < o.length) (inj : ∀ x y, x < o.length → y < o.length → pf o x = pf o y → x = y) : IsP o := by
  refine ⟨fun x hx => ?_, ?_⟩
  · obtain ⟨i, hi, e⟩ := List.getElem_of_mem hx
    have := lt i hi
    rw [show pf o i = o[i] from by simp [pf, hi]] at this
    omega
  · rw [List.Nodup, List.pairwise_iff_getElem]
    intro i j hi hj hij e
    have := inj i j hi hj (by simp [pf, hi, hj, e])
    omega
theorem half_end {r o : List Nat} (P : IsP r) (h : Half r o r.length) : IsP o := by
  obtain ⟨τ, t1, t2, t3⟩ := h.ex
  have sur : ∀ x, x < o.length → ∃ i, i < r.length ∧ pf r i = x := fun x hx => by
    have : x ∈ r := P.perm.mem_iff.mpr (List.mem_range.mpr (by rw [← h.len]; exact hx))
    obtain ⟨i, hi, e⟩ := List.getElem_of_mem this
    exact ⟨i, hi, by simp [pf, hi, e]⟩
  refine isP_inj (fun x hx => ?_) fun x y hx hy e => ?_
  · obtain ⟨i, hi, e⟩ := sur x hx
    rw [← e, t3 i hi, h.len]
    exact pf_lt P (t1 i hi)
  · obtain ⟨i, hi, e1⟩ := sur x hx
    obtain ⟨j, hj, e2⟩ := sur y hy
    rw [← e1, ← e2, t3 i hi, t3 j hj] at e
    have := t2 i j hi hj (pf_inj P (t1 i hi) (t1 j hj) e)
    rw [← e1, ← e2, this]
/-! ### steps -/
theorem for_inv {mt : D → Rho → Option Rho} {b : Rho → Out} {n : Nat} {P : Nat → Rho → Prop} (h : ∀ i ρ, i < n → P i ρ → ∃ ρ1 ρ2, mt (dI i) ρ = some ρ1 ∧ b ρ1 = .nx ρ2 ∧ P (i + 1) ρ2) : ∀ (m s : Nat) (ρ : Rho), s + m = n → P s ρ → ∃ ρ', forL mt b ((List.range' s m).map dI) ρ = .nx ρ' ∧ P n ρ'
  | 0, s, ρ, e, p => ⟨ρ, rfl, by rw [← e]; exact p⟩
  | m + 1, s, ρ, e, p => by
    obtain ⟨ρ1, ρ2, h1, h2, h3⟩ := h s ρ (by omega) p
    obtain ⟨ρ', h4, h5⟩ := for_inv h m (s + 1) ρ2 (by omega) h3
    refine ⟨ρ', ?_, h5⟩
    rw [List.range'_succ, List.map_cons]
    unfold forL
    simp only [h1, h2]
    exact h4
theorem for_range {mt : D → Rho → Option Rho} {b : Rho → Out} {n : Nat} {P : Nat → Rho → Prop} (h : ∀ i ρ, i < n → P i ρ → ∃ ρ1 ρ2, mt (dI i) ρ = some ρ1 ∧ b ρ1 = .nx ρ2 ∧ P (i + 1) ρ2) {m : Rho → R EV} {ρ ρ1 : Rho} (hm : m ρ = .ok (.d (dI n)) ρ1) (hn : n ≤ 1000000) (p : P 0 ρ1) : ∃ ρ', mFor (mRng1 m) mt b ρ = .nx ρ' ∧ P n ρ' := by
  obtain ⟨ρ', h1, h2⟩ := for_inv h n 0 ρ1 (by omega) p
  refine ⟨ρ', ?_, h2⟩
  have c1 : (n : Int) ≤ 1000000 := by omega
  have c2 : (-1000000 : Int) ≤ n := by omega
  unfold mFor mRng1
  rw [hm]
  simp [dI, rngOk, c1, c2, rng_eq]
  rw [List.range_eq_range']
  exact h1
theorem dIx_row {r : List Nat} {z : Int} (i : Nat) (hz : z = i) (h : i < r.length) : dIx (row r) (.int z) = some (.d (dI (pf r i))) := by
  subst hz
  rw [row_at h]
  simp [pf, h]
theorem stAt_eq {o : List Nat} {x v : Nat} (h : x < o.length) : stAt (o.map dI) (x : Int) (dI v) = some ((o.set x v).map dI) := by
  unfold stAt ixN
  simp [h, List.map_set]
def Clear (c : Cell) : Prop := ∀ b o, c ≠ .own b o
theorem put_clear {c : Cell} {d : D} (h : Clear c) (a b cc dd ee ff : Cell) : gtN 6 d [a, b, cc, dd, ee, ff, c] = some [a, b, cc, dd, ee, ff, .val d] := by
  cases c with
  | own b o => exact (h _ _ rfl).elim
  | no => rfl
  | val d => rfl
def bMade : Rho → Out := mStore 3 (mOp dIx (mVar 2) (mOp dAdd (mVar 4) (mVar 6))) (mOp dIx (mVar 2) (mOp dAdd (mVar 4) (mOp dMod (mCB bInt (mCons (mOp dAdd (mVar 6) (mC (.int 1))) mNil)) (mVar 5))))
theorem bMade_step {st : Cell} {r o : List Nat} {n at_ k j : Nat} (len : o.length = r.length) (P : IsP r) (hk : at_ + k ≤ r.length) (hj : j < k) :
    bMade [st, .val (dI n), .val (row r), .own false (.lst (o.map dI)), .val (dI at_), .val (dI k), .val (dI j)] = .nx [st, .val (dI n), .val (row r), .own false (.lst ((o.set (pf r (at_ + j)) (pf r (at_ + (j + 1) % k))).map dI)), .val (dI at_), .val (dI k), .val (dI j)] := by
  have m := Nat.mod_lt (j + 1) (show 0 < k by omega)
  have k0 : 0 < k := by omega
  have i1 : dIx (row r) (.int ((at_ : Int) + j)) = some (.d (dI (pf r (at_ + j)))) := dIx_row (at_ + j) (by omega) (by omega)
  have i2 : dIx (row r) (.int ((at_ : Int) + ((j : Int) + 1) % k)) = some (.d (dI (pf r (at_ + (j + 1) % k)))) := dIx_row (at_ + (j + 1) % k) (by push_cast; rfl) (by omega)
  have lt : pf r (at_ + j) < o.length := by rw [len]; exact pf_lt P (by omega)
  have s := stAt_eq (v := pf r (at_ + (j + 1) % k)) lt
  unfold bMade
  simp only [dI] at i1 i2 s ⊢
  simp [mSeq, mIfS, mTst, mTru, mNotT, mOrT, mAndT, mNotV, mAndV, mOp, mUn, mVar, rd, Cell.rd, Mo.rd, mC, dGt, dGe, dLt, dLe, dSub, dAdd, dMul, mulOk, dNeg, dAnd, dI2, mSet, mCB, mCons, mNil, rds, bInt, bAbs, bLen, dMod, dI2c, setC, giveOut, putC, mStore, mFrz, frz, ownL, dDiv, divOk, mRet, keepB, mNext, mDrop, mApp, mRep, mLst, mTup, dsOf, szOk, mIsi, truD, mIfE, i1, i2, k0, s]
theorem nil_ok (ρ : Rho) : mNil ρ = .ok [] ρ := rfl
theorem cons_ok {m : Rho → R EV} {mr : Rho → R (List EV)} {ρ ρ1 ρ2 : Rho} {e : EV} {es : List EV} (h : m ρ = .ok e ρ1) (h2 : mr ρ1 = .ok es ρ2) : mCons m mr ρ = .ok (e :: es) ρ2 := by
  unfold mCons
  rw [h, bind_ok, h2, bind_ok]
theorem cb_ok {f : List D → Option EV} {ma : Rho → R (List EV)} {ρ ρ1 : Rho} {es : List EV} {ds : List D} {ev : EV} (h : ma ρ = .ok es ρ1) (h1 : rds ρ1 es = some ds) (h2 : f ds = some ev) : mCB f ma ρ = .ok ev ρ1 := by
  unfold mCB
  rw [h, bind_ok, h1, Option.bind_some, h2, of_some]
theorem set_ok {i : Nat} {m : Rho → R EV} {ρ ρ1 : Rho} {e : EV} (h : m ρ = .ok e ρ1) : mSet i m ρ = Out.of (setC i e ρ1) := by
  unfold mSet
  rw [h, out_ok]
theorem op_ok {f : D → D → Option EV} {m n : Rho → R EV} {ρ ρ1 ρ2 : Rho} {e e' : EV} {x y : D} {ev : EV} (h : m ρ = .ok e ρ1) (h2 : n ρ1 = .ok e' ρ2) (h3 : rd ρ2 e = some x) (h4 : rd ρ2 e' = some y) (h5 : f x y = some ev) : mOp f m n ρ = .ok ev ρ2 := by
  unfold mOp
  rw [h, bind_ok, h2, bind_ok, h3, h4, Option.bind_some, Option.bind_some, h5, of_some]
theorem ret_ok {m : Rho → R EV} {ρ ρ1 : Rho} {d : D} (h : m ρ = .ok (.d d) ρ1) : mRet m ρ = .rt (.d d) ρ1 := by
  unfold mRet
  rw [h, out_ok]; rfl
theorem drop_ok {m : Rho → R EV} {ρ ρ1 : Rho} {e : EV} (h : m ρ = .ok e ρ1) : mDrop m ρ = .nx ρ1 := by
  unfold mDrop
  rw [h, out_ok]
def cMade : Rho → R Bool := mTst (mOp dLt (mVar 4) (mVar 1))
def kMade : Rho → Out := mSet 5 (mCB bMin (mCons (mOp dSub (mVar 1) (mVar 4)) (mCons (mOp dAdd (mC (.int 1)) (mCall m_f__law_take 2 (mCons (mVar 0) (mCons (mFrz (mOp dIx (mLst (mCons (mFrz (mC (.int 3))) (mCons (mFrz (mC (.int 12))) (mCons (mFrz (mC (.int 60))) mNil)))) (mCall m_f__law_take 2 (mCons (mVar 0) (mCons (mFrz (mC (.int 3))) mNil))))) mNil)))) mNil)))
def eMade : Rho → Out := mSeq kMade (mSeq (mFor (mRng1 (mVar 5)) (gtN 6) bMade) (mSet 4 (mOp dAdd (mVar 4) (mVar 5))))
theorem callB' {f : List Cell → CR} {m : Rho → R EV} {ρ ρ1 : Rho} {j : Nat} {b b1 : Bool} {o o1 o' : Mo} {d : D} {e : D} {c : Cell} (hj : ρ[j]? = some (.own b o)) (h : mFrz m ρ = .ok (.d d) ρ1) (hj1 : ρ1[j]? = some (.own b1 o1)) (hf : f [.own true o1, .val d] = .ok (.d e) [.own true o', c]) :
    mCall f 2 (mCons (mVar j) (mCons (mFrz m) mNil)) ρ = .ok (.d e) (ρ1.set j (.own b1 o')) := by
  have hv : mVar j ρ = .ok (.slot j) ρ := by simp only [mVar, hj]
  simp only [mCall, mCons, hv, h, mNil, bind_ok, callR, cellsOf, Mi.cellOf, hj1, Option.bind_some, slotsNd, hasSlot, Bool.not_false, List.length_cons, List.length_nil, decide_true, Bool.and_true, if_true, hf, CR.toR, wb_one hj1]
theorem kMade_step (a b : Int) {n at_ : Nat} (h : at_ < n) (c2 c3 : Cell) {c5 c6 : Cell} (h5 : Clear c5) : ∃ (a' b' : Int) (k : Nat), 0 < k ∧ at_ + k ≤ n ∧ kMade [.own true (stt a b), .val (dI n), c2, c3, .val (dI at_), c5, c6] = .nx [.own true (stt a' b'), .val (dI n), c2, c3, .val (dI at_), .val (dI k), c6] := by
  obtain ⟨v, a1, b1, t1, v0, v1⟩ := x_take a b 3 (by omega) (by omega)
  obtain ⟨M, hM0, hM1, hM⟩ : ∃ M : Int, 0 < M ∧ M < 1073741824 ∧ dIx (.lst [.int 3, .int 12, .int 60]) (.int v) = some (.d (.int M)) := by
    have : v = 0 ∨ v = 1 ∨ v = 2 := by omega
    rcases this with rfl | rfl | rfl
    · exact ⟨3, by omega, by omega, rfl⟩
    · exact ⟨12, by omega, by omega, rfl⟩
    · exact ⟨60, by omega, by omega, rfl⟩
  obtain ⟨w, a2, b2, t2, w0, w1⟩ := x_take a1 b1 M hM0 hM1
  have e1 : mCall m_f__law_take 2 (mCons (mVar 0) (mCons (mFrz (mC (.int 3))) mNil)) [.own true (stt a b), .val (dI n), c2, c3, .val (dI at_), c5, c6] = .ok (.d (.int v)) [.own true (stt a1 b1), .val (dI n), c2, c3, .val (dI at_), c5, c6] :=
    callB (j := 0) (o := stt a b) (o' := stt a1 b1) (d := .int 3) rfl rfl t1
  have e2 : mOp dIx (mLst (mCons (mFrz (mC (.int 3))) (mCons (mFrz (mC (.int 12))) (mCons (mFrz (mC (.int 60))) mNil)))) (mCall m_f__law_take 2 (mCons (mVar 0) (mCons (mFrz (mC (.int 3))) mNil))) [.own true (stt a b), .val (dI n), c2, c3, .val (dI at_), c5, c6] = .ok (.d (.int M)) [.own true (stt a1 b1), .val (dI n), c2, c3, .val (dI at_), c5, c6] := by
    unfold mOp
    rw [show mLst (mCons (mFrz (mC (.int 3))) (mCons (mFrz (mC (.int 12))) (mCons (mFrz (mC (.int 60))) mNil))) [.own true (stt a b), .val (dI n), c2, c3, .val (dI at_), c5, c6] = .ok (.new (.lst [.int 3, .int 12, .int 60])) [.own true (stt a b), .val (dI n), c2, c3, .val (dI at_), c5, c6] from rfl]
    rw [bind_ok, e1]
    simp [rd, Mo.rd, hM]
  have e3 := callB' (j := 0) (o := stt a b) (b := true) (ρ := [.own true (stt a b), .val (dI n), c2, c3, .val (dI at_), c5, c6]) rfl (frz_d e2) rfl t2
  obtain ⟨k, hk⟩ : ∃ k : Nat, (k : Int) = if 1 + w < (n : Int) - at_ then 1 + w else (n : Int) - at_ := ⟨(if 1 + w < (n : Int) - at_ then 1 + w else (n : Int) - at_).toNat, by split <;> omega⟩
  refine ⟨a2, b2, k, by split at hk <;> omega, by split at hk <;> omega, ?_⟩
  have e4 : mOp dSub (mVar 1) (mVar 4) [.own true (stt a b), .val (dI n), c2, c3, .val (dI at_), c5, c6] = .ok (.d (.int ((n : Int) - at_))) [.own true (stt a b), .val (dI n), c2, c3, .val (dI at_), c5, c6] := rfl
  have e5 : ∀ (m : Rho → R EV) (ρ ρ1 : Rho), m ρ = .ok (.d (.int w)) ρ1 → mOp dAdd (mC (.int 1)) m ρ = .ok (.d (.int (1 + w))) ρ1 := fun m ρ ρ1 h => by
    unfold mOp mC
    rw [bind_ok, h]
    rfl
  have e6 := e5 _ _ _ e3
  have e7 := cb_ok (f := bMin) (cons_ok e4 (cons_ok e6 (nil_ok _))) (ds := [.int ((n : Int) - at_), .int (1 + w)]) rfl (ev := .d (dI k)) (by rw [dI, hk]; rfl)
  refine (set_ok e7).trans ?_
  cases c5 with
  | own b o => exact (h5 _ _ rfl).elim
  | no => rfl
  | val d => rfl
theorem eMade_step (a b : Int) {r o : List Nat} {n at_ : Nat} (P : IsP r) (hn : r.length = n) (hn2 : n ≤ 1000) (H : Half r o at_) (h : at_ < n) {c5 c6 : Cell} (h5 : Clear c5) (h6 : Clear c6) : ∃ (a' b' : Int) (k : Nat) (o' : List Nat) (c6' : Cell), 0 < k ∧ at_ + k ≤ n ∧ Half r o' (at_ + k) ∧ Clear c6' ∧
    eMade [.own true (stt a b), .val (dI n), .val (row r), .own false (.lst (o.map dI)), .val (dI at_), c5, c6] = .nx [.own true (stt a' b'), .val (dI n), .val (row r), .own false (.lst (o'.map dI)), .val (dI (at_ + k)), .val (dI k), c6'] := by
  obtain ⟨a', b', k, k0, hk, e1⟩ := kMade_step a b h (.val (row r)) (.own false (.lst (o.map dI))) (c6 := c6) h5
  obtain ⟨ρ', e2, c6', hc, rfl⟩ := for_range (b := bMade) (mt := gtN 6) (n := k) (m := mVar 5) (ρ := [.own true (stt a' b'), .val (dI n), .val (row r), .own false (.lst (o.map dI)), .val (dI at_), .val (dI k), c6]) (ρ1 := [.own true (stt a' b'), .val (dI n), .val (row r), .own false (.lst (o.map dI)), .val (dI at_), .val (dI k), c6])
    (P := fun j ρ => ∃ c, Clear c ∧ ρ = [.own true (stt a' b'), .val (dI n), .val (row r), .own false (.lst ((inner r at_ k o j).map dI)), .val (dI at_), .val (dI k), c])
    (fun j ρ hj ⟨c, hc, e⟩ => by
      subst e
      exact ⟨_, _, put_clear hc _ _ _ _ _ _, bMade_step (by rw [inner_len, H.len]) P (by omega) hj, .val (dI j), (fun _ _ z => by cases z), rfl⟩) rfl (by omega) ⟨c6, h6, rfl⟩
  refine ⟨a', b', k, inner r at_ k o k, c6', k0, hk, half_step P H k0 (by omega), hc, ?_⟩
  exact (seq_nx e1).trans ((seq_nx e2).trans (by rfl))
theorem made_loop {r : List Nat} {n : Nat} (P : IsP r) (hn : r.length = n) (hn2 : n ≤ 1000) : ∀ (m : Nat) (a b : Int) (o : List Nat) (at_ : Nat) (c5 c6 : Cell), n - at_ ≤ m → Half r o at_ → Clear c5 → Clear c6 → ∃ (a' b' : Int) (o' : List Nat) (c5' c6' : Cell), Half r o' n ∧
    mWhile cMade eMade [.own true (stt a b), .val (dI n), .val (row r), .own false (.lst (o.map dI)), .val (dI at_), c5, c6] = .nx [.own true (stt a' b'), .val (dI n), .val (row r), .own false (.lst (o'.map dI)), .val (dI n), c5', c6'] := by
  intro m
  have cm : ∀ (s c2 c3 c5 c6 : Cell) (at_ : Nat), cMade [s, .val (dI n), c2, c3, .val (dI at_), c5, c6] = .ok (decide ((at_ : Int) < n)) [s, .val (dI n), c2, c3, .val (dI at_), c5, c6] := fun s c2 c3 c5 c6 at_ => rfl
  have fin : ∀ (a b : Int) (o : List Nat) (at_ : Nat) (c5 c6 : Cell), ¬ at_ < n → Half r o at_ → ∃ (a' b' : Int) (o' : List Nat) (c5' c6' : Cell), Half r o' n ∧
    mWhile cMade eMade [.own true (stt a b), .val (dI n), .val (row r), .own false (.lst (o.map dI)), .val (dI at_), c5, c6] = .nx [.own true (stt a' b'), .val (dI n), .val (row r), .own false (.lst (o'.map dI)), .val (dI n), c5', c6'] := fun a b o at_ c5 c6 c H => by
    have e : at_ = n := by have := H.le; omega
    subst e
    exact ⟨a, b, o, c5, c6, H, while_stop (by rw [cm]; rw [decide_eq_false (by omega)])⟩
  induction m with
  | zero =>
    intro a b o at_ c5 c6 hm H h5 h6
    exact fin a b o at_ c5 c6 (by omega) H
  | succ m ih =>
    intro a b o at_ c5 c6 hm H h5 h6
    by_cases c : at_ < n
    · obtain ⟨a1, b1, k, o1, c61, k0, hk, H1, hc, e⟩ := eMade_step a b P hn hn2 H c h5 h6
      obtain ⟨a2, b2, o2, c52, c62, H2, e2⟩ := ih a1 b1 o1 (at_ + k) (.val (dI k)) c61 (by omega) H1 (fun _ _ z => by cases z) hc
      exact ⟨a2, b2, o2, c52, c62, H2, while_go (by rw [cm]; rw [decide_eq_true (by omega)]) e e2 (fun z => by cases z)⟩
    · exact fin a b o at_ c5 c6 c H
theorem x_made (a b : Int) (n : Nat) (hn : n ≤ 1000) : ∃ (p : List Nat) (a' b' : Int), m_f__law_made [.own true (stt a b), .val (dI n)] = .ok (.d (row p)) [.own true (stt a' b'), .no] ∧ IsP p ∧ p.length = n := by
  obtain ⟨r, a1, b1, e1, P, l⟩ := x_drawn a b n hn
  obtain ⟨a2, b2, o, c5, c6, H, e2⟩ := made_loop P l hn n a1 b1 (List.replicate n 0) 0 .no .no (by omega) ⟨by simp [l], by omega, fun i => i, fun i h => by omega, fun i j h => by omega, fun i h => by omega⟩ (fun _ _ z => by cases z) (fun _ _ z => by cases z)
  rw [← l] at H
  have I := half_end P H
  refine ⟨o, a2, b2, ?_, I, by rw [H.len, l]⟩
  have h1 : (n : Int) ≤ 1000000 := by omega
  have h2 : (-1000000 : Int) ≤ n := by omega
  have h3 : n ≤ 1000000 := by omega
  have fl : (List.replicate n [D.int 0]).flatten = (List.replicate n 0).map dI := by
    rw [List.map_replicate]
    clear h1 h2 h3 e1 e2 I H P l hn
    induction n with
    | zero => rfl
    | succ n ih => rw [List.replicate_succ, List.flatten_cons, ih, List.replicate_succ]; rfl
  have e0 : mPar 3 4 (mRep (mLst (mCons (mFrz (mC (.int 0))) mNil)) (mVar 1)) (mC (.int 0)) [.own true (stt a b), .val (dI n), .no, .no, .no, .no, .no] = .nx [.own true (stt a b), .val (dI n), .no, .own false (.lst ((List.replicate n 0).map dI)), .val (dI 0), .no, .no] := by
    rw [← fl]
    simp [mPar, mRep, mLst, mCons, mFrz, mC, frz, mNil, dsOf, szOk, mVar, dI, h1, h2, h3, putC]
  have e3 : mSet 2 (mCall m_f__law_drawn 2 (mCons (mVar 0) (mCons (mFrz (mVar 1)) mNil))) [.own true (stt a b), .val (dI n), .no, .own false (.lst ((List.replicate n 0).map dI)), .val (dI 0), .no, .no] = .nx [.own true (stt a1 b1), .val (dI n), .val (row r), .own false (.lst ((List.replicate n 0).map dI)), .val (dI 0), .no, .no] := by
    unfold mSet
    rw [callB (j := 0) (o := stt a b) (o' := stt a1 b1) (d := dI n) rfl rfl e1]
    rfl
  exact call_rt (e := .d (row o)) (ρ := [.own true (stt a2 b2), .val (dI n), .val (row r), .own false (.lst (o.map dI)), .val (dI n), c5, c6]) ((seq_nx e0).trans ((seq_nx e3).trans ((seq_nx e2).trans (by simp [mSeq, mIfS, mTst, mTru, mNotT, mOrT, mAndT, mNotV, mAndV, mOp, mUn, mVar, rd, Cell.rd, Mo.rd, mC, dIx, atI, ixN, dGt, dGe, dLt, dLe, dSub, dAdd, dMul, mulOk, dNeg, dAnd, dEq, dNe, eqD, dI2, mSet, mCB, mCons, mNil, rds, bInt, bAbs, bLen, bTuple, dMod, dI2c, setC, giveOut, putC, mStore, mFrz, frz, ownL, stAt, dDiv, divOk, mRet, keepB, mNext, mDrop, mApp, mRep, mLst, mTup, dsOf, szOk, mIsi, dIsi, truD, mIfE, row])))) (fun i z => by cases z)
end K05
end

set_option Elab.async false
set_option linter.all false
set_option maxRecDepth 100000
set_option autoImplicit false
noncomputable section
namespace K05
open PySem L2 Mi
/-! ### list comprehensions -/
theorem set_no {ρ : Rho} {v : Nat} (h : ρ[v]? = some .no) (d : D) : (ρ.set v (.val d)).set v .no = ρ := by
  rw [List.set_set]
  apply List.ext_getElem?
  intro i
  rw [get_set]
  split
  · rename_i e; subst e
    rw [if_pos (List.getElem?_eq_some_iff.mp h).1, h]
  · rfl
theorem wipe1 (ρ : Rho) (v : Nat) : wipeR ρ [v] = ρ.set v .no := rfl
theorem lcL_ok {v : Nat} {tst : Rho → R Bool} {el : Rho → R EV} {ρ : Rho} {g : D → D} {t : D → Bool} (hv : ρ[v]? = some .no) : ∀ (ds acc : List D), acc.length + ds.length ≤ 1000000 →
    (∀ d ∈ ds, tst (ρ.set v (.val d)) = .ok (t d) (ρ.set v (.val d))) → (∀ d ∈ ds, t d = true → mFrz el (ρ.set v (.val d)) = .ok (.d (g d)) (ρ.set v (.val d))) →
    lcL [v] (gtN v) tst el ds acc ρ = .ok (acc ++ (ds.filter t).map g) ρ
  | [], acc, _, _, _ => by simp [lcL]
  | d :: ds, acc, hl, ht, he => by
    have hp : gtN v d ρ = some (ρ.set v (.val d)) := by unfold gtN putC; rw [hv]
    unfold lcL
    have hl' : acc.length ≤ 1000000 := by simp at hl; omega
    simp only [hp, ht d (by simp)]
    cases q : t d with
    | false =>
      simp only [wipe1, set_no hv]
      rw [lcL_ok hv ds acc (by simp at hl; omega) (fun x hx => ht x (List.mem_cons_of_mem _ hx)) (fun x hx => he x (List.mem_cons_of_mem _ hx))]
      simp [q]
    | true =>
      simp only [he d (by simp) q, szOk, decide_eq_true hl', if_true, wipe1, set_no hv]
      rw [lcL_ok hv ds (acc ++ [g d]) (by simp at hl ⊢; omega) (fun x hx => ht x (List.mem_cons_of_mem _ hx)) (fun x hx => he x (List.mem_cons_of_mem _ hx))]
      simp [q]
theorem lc_ok {v : Nat} {mi : Rho → R (List D)} {tst : Rho → R Bool} {el : Rho → R EV} {ρ0 ρ : Rho} {ds : List D} (g : D → D) (t : D → Bool) (hi : mi ρ0 = .ok ds ρ) (hv : ρ[v]? = some .no) (hl : ds.length ≤ 1000000)
    (ht : ∀ d ∈ ds, tst (ρ.set v (.val d)) = .ok (t d) (ρ.set v (.val d))) (he : ∀ d ∈ ds, t d = true → mFrz el (ρ.set v (.val d)) = .ok (.d (g d)) (ρ.set v (.val d))) :
    mLc mi [v] (gtN v) tst el ρ0 = .ok (.new (.lst ((ds.filter t).map g))) ρ := by
  unfold mLc
  have w : wipeOk ρ [v] = true := by simp [wipeOk, hv]
  have w2 : wipeR ρ [v] = ρ := by
    rw [wipe1]
    apply List.ext_getElem?
    intro i
    rw [get_set]
    split
    · rename_i e; subst e
      rw [if_pos (List.getElem?_eq_some_iff.mp hv).1, hv]
    · rfl
  rw [hi, bind_ok, if_pos w, w2, lcL_ok hv ds [] (by simpa using hl) ht he]
  rfl
theorem lc_map {v : Nat} {mi : Rho → R (List D)} {el : Rho → R EV} {ρ0 ρ : Rho} {ds : List D} (g : D → D) (hi : mi ρ0 = .ok ds ρ) (hv : ρ[v]? = some .no) (hl : ds.length ≤ 1000000)
    (he : ∀ d ∈ ds, mFrz el (ρ.set v (.val d)) = .ok (.d (g d)) (ρ.set v (.val d))) :
    mLc mi [v] (gtN v) mYes el ρ0 = .ok (.new (.lst (ds.map g))) ρ := by
  have := lc_ok (tst := mYes) g (fun _ => true) hi hv hl (fun d _ => rfl) (fun d hd _ => he d hd)
  rwa [show ds.filter (fun _ => true) = ds from by simp] at this
/-! ### is_permutation -/
def marks (d : Nat) (L : List Nat) : List D := (List.range d).map fun i => D.bl (decide (i ∈ L))
theorem marks_len (d : Nat) (L : List Nat) : (marks d L).length = d := by simp [marks]
theorem marks_at {d k : Nat} (L : List Nat) (h : k < d) : dIx (.lst (marks d L)) (.int (k : Int)) = some (.d (.bl (decide (k ∈ L)))) := by
  have e : ixN (marks d L).length (k : Int) = some k := by
    unfold ixN
    rw [marks_len, if_pos (by omega), if_pos (by omega)]
    simp
  unfold dIx atI
  simp only [e, Option.bind_some]
  simp [marks, h]
theorem marks_set {d k : Nat} (L : List Nat) (h : k < d) : stAt (marks d L) (k : Int) (.bl true) = some (marks d (L ++ [k])) := by
  have e : ixN (marks d L).length (k : Int) = some k := by
    unfold ixN
    rw [marks_len, if_pos (by omega), if_pos (by omega)]
    simp
  unfold stAt
  rw [e]
  simp only [Option.map_some, Option.some.injEq]
  apply List.ext_getElem?
  intro i
  rw [get_set, marks_len]
  by_cases c : i < d
  · simp only [marks, List.getElem?_map, List.getElem?_range c, Option.map_some, List.mem_append, List.mem_singleton]
    split
    · rename_i e2; subst e2; simp [c]
    · rename_i e2
      have : ¬ i = k := fun z => e2 z.symm
      simp [this]
  · have n1 : (marks d L)[i]? = none := by simp [marks]; omega
    have n2 : (marks d (L ++ [k]))[i]? = none := by simp [marks]; omega
    rw [n1, n2]
    split <;> first | rfl | (rename_i e2; subst e2; rw [if_neg c])
theorem marks_nil (d : Nat) : (List.replicate d [D.bl false]).flatten = marks d [] := by
  unfold marks
  apply List.ext_getElem?
  intro i
  have : (List.replicate d [D.bl false]).flatten = List.replicate d (D.bl false) := by
    induction d with
    | zero => rfl
    | succ n ih => rw [List.replicate_succ, List.flatten_cons, ih, List.replicate_succ]; rfl
  rw [this]
  by_cases c : i < d
  · simp [c]
  · simp [c]
def cPerm : Rho → R Bool := mOrT (mNotT (mTru (mCall m_f_is_integer 1 (mCons (mFrz (mVar 2)) mNil)))) (mOrT (mTst (mOp dLt (mVar 2) (mC (.int 0)))) (mOrT (mTst (mOp dGe (mVar 2) (mCB bLen (mCons (mVar 0) mNil)))) (mTru (mOp dIx (mVar 1) (mVar 2)))))
def bPerm : Rho → Out := mSeq (mIfS cPerm (mRet (mC (.bl false))) mNext) (mStore 1 (mVar 2) (mC (.bl true)))
theorem int_call {x : D} (hx : ∀ a, x ≠ .ref a) (c0 c1 : Cell) : mCall m_f_is_integer 1 (mCons (mFrz (mVar 2)) mNil) [c0, c1, .val x] = .ok (.d (.bl (match x with | .int _ => true | _ => false))) [c0, c1, .val x] := by
  rw [call1 (d := x) (ρ1 := [c0, c1, .val x]) rfl, x_is_integer x hx]; rfl
def Bad (d : Nat) (L : List Nat) : D → Prop
  | .int i => i < 0 ∨ (d : Int) ≤ i ∨ ∃ k : Nat, i = k ∧ k < d ∧ k ∈ L
  | .ref _ => False
  | _ => True
theorem cPerm_bad {ds : List D} {L : List Nat} {x : D} (h : Bad ds.length L x) : cPerm [.val (.tup ds), .own false (.lst (marks ds.length L)), .val x] = .ok true [.val (.tup ds), .own false (.lst (marks ds.length L)), .val x] := by
  have nr : ∀ a, x ≠ .ref a := fun a e => by subst e; exact h
  have e1 := int_call nr (.val (.tup ds)) (.own false (.lst (marks ds.length L)))
  unfold cPerm
  cases x with
  | ref a => exact h.elim
  | int i =>
    have c : decide (i < 0) = true ∨ (decide (i < 0) = false ∧ decide ((ds.length : Int) ≤ i) = true) ∨ (∃ k : Nat, i = k ∧ k < ds.length ∧ k ∈ L) := by
      rcases h with h | h | h
      · exact .inl (decide_eq_true h)
      · by_cases c : i < 0
        · exact .inl (decide_eq_true c)
        · exact .inr (.inl ⟨decide_eq_false c, decide_eq_true h⟩)
      · exact .inr (.inr h)
    rcases c with c | ⟨c, c2⟩ | ⟨k, rfl, c, m⟩
    · simp [mOrT, mNotT, mTru, e1, rd, truD, mTst, mOp, mVar, mC, dLt, dI2, c]
    · simp at c c2
      have c3 : ¬ i < 0 := by omega
      simp [mOrT, mNotT, mTru, e1, rd, truD, mTst, mOp, mVar, mC, dLt, dI2, c3, dGe, mCB, mCons, mNil, rds, bLen, c2]
    · have m1 := marks_at L c
      have c3 : ¬ ((k : Int) < 0) := by omega
      simp [mOrT, mNotT, mTru, e1, rd, Cell.rd, Mo.rd, truD, mTst, mOp, mVar, mC, dLt, dI2, c3, dGe, mCB, mCons, mNil, rds, bLen, m1, m]
      cases decide (ds.length ≤ k) <;> rfl
  | non => simp [mOrT, mNotT, mTru, e1, rd, truD]
  | bl b => simp [mOrT, mNotT, mTru, e1, rd, truD]
  | str s => simp [mOrT, mNotT, mTru, e1, rd, truD]
  | tup s => simp [mOrT, mNotT, mTru, e1, rd, truD]
  | lst s => simp [mOrT, mNotT, mTru, e1, rd, truD]
theorem cPerm_good {ds : List D} {L : List Nat} {k : Nat} (h : k < ds.length) (m : k ∉ L) : cPerm [.val (.tup ds), .own false (.lst (marks ds.length L)), .val (dI k)] = .ok false [.val (.tup ds), .own false (.lst (marks ds.length L)), .val (dI k)] := by
  have e1 := int_call (x := dI k) (fun a e => by cases e) (.val (.tup ds)) (.own false (.lst (marks ds.length L)))
  have m1 := marks_at L h
  have c3 : ¬ ((k : Int) < 0) := by omega
  have c4 : ¬ (ds.length ≤ k) := by omega
  unfold cPerm
  simp only [dI] at e1 ⊢
  simp [mOrT, mNotT, mTru, e1, rd, Cell.rd, Mo.rd, truD, mTst, mOp, mVar, mC, dLt, dI2, c3, c4, dGe, mCB, mCons, mNil, rds, bLen, m1, m]
theorem bPerm_bad {ds : List D} {L : List Nat} {x : D} (h : Bad ds.length L x) : bPerm [.val (.tup ds), .own false (.lst (marks ds.length L)), .val x] = .rt (.d (.bl false)) [.val (.tup ds), .own false (.lst (marks ds.length L)), .val x] := by
  unfold bPerm
  refine seq_rt ?_
  unfold mIfS
  rw [cPerm_bad h]; rfl
theorem bPerm_good {ds : List D} {L : List Nat} {k : Nat} (h : k < ds.length) (m : k ∉ L) : bPerm [.val (.tup ds), .own false (.lst (marks ds.length L)), .val (dI k)] = .nx [.val (.tup ds), .own false (.lst (marks ds.length (L ++ [k]))), .val (dI k)] := by
  unfold bPerm
  have e : mIfS cPerm (mRet (mC (.bl false))) mNext [.val (.tup ds), .own false (.lst (marks ds.length L)), .val (dI k)] = .nx [.val (.tup ds), .own false (.lst (marks ds.length L)), .val (dI k)] := by
    unfold mIfS
    rw [cPerm_good h m]; rfl
  refine (seq_nx e).trans ?_
  have s := marks_set L h
  simp [mStore, mFrz, mC, frz, ownL, mVar, dI, s]
theorem put2 {c : Cell} {d : D} (h : Clear c) (a b : Cell) : gtN 2 d [a, b, c] = some [a, b, .val d] := by
  cases c with
  | own b o => exact (h _ _ rfl).elim
  | no => rfl
  | val d => rfl
theorem forL_cons {mt : D → Rho → Option Rho} {b : Rho → Out} {d : D} {ds : List D} {ρ ρ1 ρ2 : Rho} (h : mt d ρ = some ρ1) (h2 : b ρ1 = .nx ρ2) : forL mt b (d :: ds) ρ = forL mt b ds ρ2 := by
  show (match mt d ρ with | none => Out.stuck | some ρ1 => match b ρ1 with | .nx ρ2 => forL mt b ds ρ2 | .ct ρ2 => forL mt b ds ρ2 | .bk ρ2 => .nx ρ2 | o => o) = _
  rw [h]
  simp only [h2]
theorem perm_loop {ds : List D} {more : List D} : ∀ (l L : List Nat) (c : Cell), Clear c → (∀ x ∈ l, x < ds.length) → (L ++ l).Nodup → ∃ c', Clear c' ∧ forL (gtN 2) bPerm (l.map dI ++ more) [.val (.tup ds), .own false (.lst (marks ds.length L)), c] = forL (gtN 2) bPerm more [.val (.tup ds), .own false (.lst (marks ds.length (L ++ l))), c']
  | [], L, c, hc, _, _ => ⟨c, hc, by simp⟩
  | k :: l, L, c, hc, lt, nd => by
    obtain ⟨c', h1, h2⟩ := perm_loop l (L ++ [k]) (.val (dI k)) (fun _ _ z => by cases z) (fun x hx => lt x (List.mem_cons_of_mem _ hx)) (by simpa using nd)
    refine ⟨c', h1, ?_⟩
    have m : k ∉ L := fun hk => (List.nodup_append.mp nd).2.2 k hk k (by simp) rfl
    rw [List.map_cons, List.cons_append]
    rw [forL_cons (put2 hc _ _) (bPerm_good (lt k (by simp)) m), h2]
    simp
theorem perm_pre (ds : List D) (h : ds.length ≤ 1000000) (rest : Rho → Out) : mSeq (mIfS (mNotT (mTru (mIsi .tuple (mVar 0)))) (mRet (mC (.bl false))) mNext) (mSeq (mSet 1 (mRep (mLst (mCons (mFrz (mC (.bl false))) mNil)) (mCB bLen (mCons (mVar 0) mNil)))) rest) [.val (.tup ds), .no, .no] = rest [.val (.tup ds), .own false (.lst (marks ds.length [])), .no] := by
  have h1 : (ds.length : Int) ≤ 1000000 := by omega
  have h2 : (-1000000 : Int) ≤ ds.length := by omega
  refine (seq_nx (ρ1 := [.val (.tup ds), .no, .no]) rfl).trans (seq_nx ?_)
  rw [← marks_nil]
  simp [mSet, mRep, mLst, mCons, mFrz, mC, frz, mNil, dsOf, szOk, mCB, mVar, rds, rd, bLen, h, h1, h2, setC, giveOut, putC]
theorem it_tup (ds : List D) (c1 c2 : Cell) : mIt (mVar 0) [.val (.tup ds), c1, c2] = .ok ds [.val (.tup ds), c1, c2] := rfl
theorem x_perm_row {p : List Nat} (P : IsP p) (hp : p.length ≤ 1000000) : m_f_is_permutation [.val (row p)] = .ok (.d (.bl true)) [.no] := by
  obtain ⟨c', hc, e⟩ := perm_loop (ds := p.map dI) (more := []) p [] .no (fun _ _ z => by cases z) (fun x hx => by rw [List.length_map]; exact P.lt x hx) (by simpa using P.nd)
  rw [List.append_nil] at e
  have e3 : mFor (mIt (mVar 0)) (gtN 2) bPerm [.val (.tup (p.map dI)), .own false (.lst (marks (p.map dI).length [])), .no] = .nx [.val (.tup (p.map dI)), .own false (.lst (marks (p.map dI).length ([] ++ p))), c'] := by
    unfold mFor
    rw [it_tup, out_ok]
    exact e
  exact call_rt (e := .d (.bl true)) (ρ := [.val (.tup (p.map dI)), .own false (.lst (marks (p.map dI).length ([] ++ p))), c']) (cs := [.val (row p)]) ((perm_pre (p.map dI) (by simpa using hp) _).trans ((seq_nx e3).trans rfl)) (fun i z => by cases z)
theorem x_perm_bad {l : List Nat} {x : D} (lt : ∀ y ∈ l, y < l.length + 1) (nd : l.Nodup) (hl : l.length ≤ 1000) (hb : Bad (l.length + 1) l x) : m_f_is_permutation [.val (.tup (l.map dI ++ [x]))] = .ok (.d (.bl false)) [.no] := by
  have len : (l.map dI ++ [x]).length = l.length + 1 := by simp
  obtain ⟨c', hc, e⟩ := perm_loop (ds := l.map dI ++ [x]) (more := [x]) l [] .no (fun _ _ z => by cases z) (fun y hy => by rw [len]; exact lt y hy) (by simpa using nd)
  have e3 : mFor (mIt (mVar 0)) (gtN 2) bPerm [.val (.tup (l.map dI ++ [x])), .own false (.lst (marks (l.map dI ++ [x]).length [])), .no] = .rt (.d (.bl false)) [.val (.tup (l.map dI ++ [x])), .own false (.lst (marks (l.map dI ++ [x]).length ([] ++ l))), .val x] := by
    unfold mFor
    rw [it_tup, out_ok]
    refine e.trans ?_
    unfold forL
    simp only [put2 hc]
    rw [bPerm_bad (by rw [len]; exact hb)]
  exact call_rt (e := .d (.bl false)) (cs := [.val (.tup (l.map dI ++ [x]))]) (ρ := [.val (.tup (l.map dI ++ [x])), .own false (.lst (marks (l.map dI ++ [x]).length ([] ++ l))), .val x]) ((perm_pre (l.map dI ++ [x]) (by rw [len]; omega) _).trans (seq_rt e3)) (fun i z => by cases z)
theorem x_perm_not {x : D} (h : match x with | .tup _ => False | .ref _ => False | _ => True) : m_f_is_permutation [.val x] = .ok (.d (.bl false)) [.no] := by
  cases x <;> first | exact h.elim | rfl
/-! ### demands -/
theorem x_demand_one {x : D} {b : Bool} (h : m_f_is_permutation [.val x] = .ok (.d (.bl b)) [.no]) : m_f__demand_one [.val x] = if b then .ok (.d .non) [.no] else .exn .mal := by
  have e : mCall m_f_is_permutation 1 (mCons (mFrz (mVar 0)) mNil) [.val x] = .ok (.d (.bl b)) [.val x] := by
    rw [call1 (d := x) (ρ1 := [.val x]) rfl, h]; rfl
  have e2 : mCall m_f_demand 2 (mCons (mFrz (mCall m_f_is_permutation 1 (mCons (mFrz (mVar 0)) mNil))) (mCons (mFrz (mC (.str "permutation"))) mNil)) [.val x] = if b then .ok (.d .non) [.val x] else .exn .mal [.val x] := by
    rw [call2 (frz_d e) (e := .str "permutation") (ρ2 := [.val x]) rfl, x_demand b _ (by decide)]
    cases b <;> rfl
  cases b with
  | true => exact call_nx (ρ := [.val x]) (drop_ok e2)
  | false =>
    refine call_ex (ρ := [.val x]) (x := .mal) ?_ rfl
    unfold mDrop
    rw [show ([.val x] ++ List.replicate (1 - [Cell.val x].length) .no : Rho) = [.val x] from rfl, e2]; rfl
end K05
end

set_option Elab.async false
set_option linter.all false
set_option maxRecDepth 100000
set_option autoImplicit false
noncomputable section
namespace K05
open PySem L2 Mi
/-! ### the program's cycles -/
def NB (c : Cell) : Prop := ∀ o, c ≠ .own true o
def cWk : Rho → R Bool := mNotT (mTru (mOp dIx (mVar 1) (mVar 5)))
def bWk : Rho → Out := mSeq (mStore 1 (mVar 5) (mC (.bl true))) (mSeq (mDrop (mApp 4 (mVar 5))) (mSet 5 (mOp dIx (mVar 0) (mVar 5))))
def sWk (p L : List Nat) (rows : List D) (i : Nat) (r : List Nat) (a : Nat) : Rho := [.val (row p), .own false (.lst (marks p.length L)), .own false (.lst rows), .val (dI i), .own false (.lst (r.map dI)), .val (dI a)]
theorem cWk_eq {p L : List Nat} {a : Nat} (rows : List D) (i : Nat) (r : List Nat) (ha : a < p.length) : cWk (sWk p L rows i r a) = .ok (!decide (a ∈ L)) (sWk p L rows i r a) := by
  have m := marks_at L ha
  unfold cWk sWk
  simp only [dI] at m ⊢
  simp [mNotT, mTru, mOp, mVar, rd, Cell.rd, Mo.rd, m, truD]
theorem bWk_eq {p L : List Nat} {a : Nat} (rows : List D) (i : Nat) (r : List Nat) (ha : a < p.length) (hr : r.length ≤ 1000000) : bWk (sWk p L rows i r a) = .nx (sWk p (L ++ [a]) rows i (r ++ [a]) (pf p a)) := by
  have s := marks_set L ha
  have x := dIx_row (r := p) (z := (a : Int)) a rfl ha
  have e1 : mStore 1 (mVar 5) (mC (.bl true)) (sWk p L rows i r a) = .nx (sWk p (L ++ [a]) rows i r a) := by
    unfold sWk
    simp [mStore, mFrz, mC, frz, ownL, mVar, dI, s]
  have e2 : mDrop (mApp 4 (mVar 5)) (sWk p (L ++ [a]) rows i r a) = .nx (sWk p (L ++ [a]) rows i (r ++ [a]) a) := by
    refine (app_nx (d := dI a) (b := false) (xs := r.map dI) (ρ1 := sWk p (L ++ [a]) rows i r a) (b0 := false) (ys := r.map dI) rfl rfl rfl (by simpa using hr)).trans ?_
    simp [sWk]
  refine (seq_nx e1).trans ((seq_nx e2).trans ?_)
  refine (set_ok (op_ok (x := row p) (y := dI a) (ev := .d (dI (pf p a))) (ρ1 := sWk p (L ++ [a]) rows i (r ++ [a]) a) (ρ2 := sWk p (L ++ [a]) rows i (r ++ [a]) a) rfl rfl rfl rfl x)).trans ?_
  simp [setC, giveOut, putC, sWk]
theorem wk_sim {p : List Nat} (P : IsP p) (hp : p.length ≤ 1000) (rows : List D) (i : Nat) {L rw : List Nat} {a : Nat} (w : Walk p L a rw) : ∀ r : List Nat, a < p.length → r.length ≤ L.length → ∃ a', mWhile cWk bWk (sWk p L rows i r a) = .nx (sWk p (L ++ rw) rows i (r ++ rw) a') := by
  induction w with
  | @stop L a m =>
    intro r ha hr
    refine ⟨a, ?_⟩
    rw [while_stop (by rw [cWk_eq rows i r ha, decide_eq_true m]; rfl)]
    simp
  | @step L rw a m ha hl w ih =>
    intro r _ hr
    obtain ⟨a', e⟩ := ih (r ++ [a]) (pf_lt P ha) (by simpa using hr)
    refine ⟨a', while_go (by rw [cWk_eq rows i r ha, decide_eq_false m]; rfl) (bWk_eq rows i r ha (by omega)) (e.trans ?_) (fun z => by cases z)⟩
    simp
def bCyc : Rho → Out := mSeq (mSet 4 (mLst mNil)) (mSeq (mSet 5 (mVar 3)) (mSeq (mWhile cWk bWk) (mIfS (mTru (mVar 4)) (mDrop (mApp 2 (mCB bTuple (mCons (mVar 4) mNil)))) mNext)))
theorem bCyc_eq {p : List Nat} (P : IsP p) (hp : p.length ≤ 1000) {rows : List D} (hrs : rows.length ≤ 1000000) {i : Nat} (hi : i < p.length) {L rw : List Nat} (w : Walk p L i rw) {c4 c5 : Cell} (h4 : NB c4) (h5 : NB c5) : ∃ c4' c5', NB c4' ∧ NB c5' ∧
    bCyc [.val (row p), .own false (.lst (marks p.length L)), .own false (.lst rows), .val (dI i), c4, c5] = .nx [.val (row p), .own false (.lst (marks p.length (L ++ rw))), .own false (.lst (if rw = [] then rows else rows ++ [row rw])), .val (dI i), c4', c5'] := by
  obtain ⟨a', e⟩ := wk_sim P hp rows i w [] hi (Nat.zero_le _)
  have e1 : mSet 4 (mLst mNil) [.val (row p), .own false (.lst (marks p.length L)), .own false (.lst rows), .val (dI i), c4, c5] = .nx [.val (row p), .own false (.lst (marks p.length L)), .own false (.lst rows), .val (dI i), .own false (.lst []), c5] := by
    cases c4 with
    | no => rfl
    | val d => rfl
    | own b o => cases b with
      | true => exact (h4 _ rfl).elim
      | false => rfl
  have e2 : mSet 5 (mVar 3) [.val (row p), .own false (.lst (marks p.length L)), .own false (.lst rows), .val (dI i), .own false (.lst []), c5] = .nx (sWk p L rows i [] i) := by
    cases c5 with
    | no => rfl
    | val d => rfl
    | own b o => cases b with
      | true => exact (h5 _ rfl).elim
      | false => rfl
  rw [List.nil_append] at e
  refine ⟨.own false (.lst (rw.map dI)), .val (dI a'), (fun o z => by cases z), (fun o z => by cases z), ?_⟩
  refine (seq_nx e1).trans ((seq_nx e2).trans ((seq_nx e).trans ?_))
  unfold sWk
  cases rw with
  | nil => rfl
  | cons x l =>
    have c : mTru (mVar 4) [.val (row p), .own false (.lst (marks p.length (L ++ x :: l))), .own false (.lst rows), .val (dI i), .own false (.lst ((x :: l).map dI)), .val (dI a')] = .ok true [.val (row p), .own false (.lst (marks p.length (L ++ x :: l))), .own false (.lst rows), .val (dI i), .own false (.lst ((x :: l).map dI)), .val (dI a')] := rfl
    unfold mIfS
    rw [c, out_ok]
    refine (app_nx (d := row (x :: l)) (b := false) (xs := rows) (ρ1 := [.val (row p), .own false (.lst (marks p.length (L ++ x :: l))), .own false (.lst rows), .val (dI i), .own false (.lst ((x :: l).map dI)), .val (dI a')]) (b0 := false) (ys := rows) rfl rfl rfl hrs).trans ?_
    simp
theorem put3 {c : Cell} {d : D} (h : NB c) (a b e f g : Cell) : gtN 3 d [a, b, e, c, f, g] = some [a, b, e, .val d, f, g] := by
  cases c with
  | no => rfl
  | val d => rfl
  | own b o => cases b with
    | true => exact (h _ rfl).elim
    | false => rfl
theorem cyc_sim {p : List Nat} (P : IsP p) (hp : p.length ≤ 1000) {is L : List Nat} {C C' : List (List Nat)} (k : Cyc p is L C C') : ∀ (c3 c4 c5 : Cell), NB c3 → NB c4 → NB c5 → C.length + is.length ≤ 1000 → ∃ L' c3' c4' c5',
    forL (gtN 3) bCyc (is.map dI) [.val (row p), .own false (.lst (marks p.length L)), .own false (.lst (C.map row)), c3, c4, c5] = .nx [.val (row p), .own false (.lst (marks p.length L')), .own false (.lst (C'.map row)), c3', c4', c5'] := by
  induction k with
  | nil => intro c3 c4 c5 _ _ _ _; exact ⟨_, c3, c4, c5, rfl⟩
  | @cons is L rw i C C' hi w hl k ih =>
    intro c3 c4 c5 h3 h4 h5 hb
    obtain ⟨c4', c5', h4', h5', e⟩ := bCyc_eq P hp (rows := C.map row) (by simp at hb ⊢; omega) hi w h4 h5
    obtain ⟨L', c3'', c4'', c5'', e2⟩ := ih (.val (dI i)) c4' c5' (fun o z => by cases z) h4' h5' (by
      split
      · simp at hb; omega
      · simp at hb ⊢; omega)
    refine ⟨L', c3'', c4'', c5'', ?_⟩
    rw [List.map_cons, forL_cons (put3 h3 _ _ _ _ _) e]
    refine Eq.trans ?_ e2
    congr 1
    split <;> simp_all
theorem rng_len {p : List Nat} (hp : p.length ≤ 1000) (cs : List Cell) : mRng1 (mCB bLen (mCons (mVar 0) mNil)) (.val (row p) :: cs) = .ok ((List.range p.length).map dI) (.val (row p) :: cs) := by
  have h1 : (p.length : Int) ≤ 1000000 := by omega
  have h2 : (-1000000 : Int) ≤ p.length := by omega
  simp [mRng1, mCB, mCons, mVar, mNil, rds, rd, bLen, row, rngOk, h1, h2, rng_eq]
theorem x_cycle_rows {p : List Nat} {C : List (List Nat)} (P : IsP p) (hp : p.length ≤ 1000) (k : Cyc p (List.range p.length) [] [] C) : m_f_cycle_rows [.val (row p)] = .ok (.new (.lst (C.map row))) [.no] := by
  obtain ⟨L', c3, c4, c5, e⟩ := cyc_sim P hp k .no .no .no (fun o z => by cases z) (fun o z => by cases z) (fun o z => by cases z) (by simpa using hp)
  have h1 : (p.length : Int) ≤ 1000000 := by omega
  have h2 : (-1000000 : Int) ≤ p.length := by omega
  have h3 : p.length ≤ 1000000 := by omega
  have e1 : mSet 1 (mRep (mLst (mCons (mFrz (mC (.bl false))) mNil)) (mCB bLen (mCons (mVar 0) mNil))) [.val (row p), .no, .no, .no, .no, .no] = .nx [.val (row p), .own false (.lst (marks p.length [])), .no, .no, .no, .no] := by
    rw [← marks_nil]
    simp [mSet, mRep, mLst, mCons, mFrz, mC, frz, mNil, dsOf, szOk, mCB, mVar, rds, rd, bLen, row, h1, h2, h3, setC, giveOut, putC]
  have e2 : mFor (mRng1 (mCB bLen (mCons (mVar 0) mNil))) (gtN 3) bCyc [.val (row p), .own false (.lst (marks p.length [])), .own false (.lst []), .no, .no, .no] = .nx [.val (row p), .own false (.lst (marks p.length L')), .own false (.lst (C.map row)), c3, c4, c5] := by
    unfold mFor
    rw [rng_len hp, out_ok]
    exact e
  exact call_rt (e := .new (.lst (C.map row))) (cs := [.val (row p)]) (ρ := [.val (row p), .own false (.lst (marks p.length L')), .no, c3, c4, c5]) ((seq_nx e1).trans ((seq_nx (ρ1 := [.val (row p), .own false (.lst (marks p.length [])), .own false (.lst []), .no, .no, .no]) rfl).trans ((seq_nx e2).trans rfl))) (fun i z => by cases z)
/-! ### the law's cycles -/
def kvs (L : List Nat) : List (Key × D) := L.map fun i : Nat => (.inl (i : Int), .bl true)
theorem kvs_look (L : List Nat) (a : Nat) : (lookD (kvs L) (.inl (a : Int))).isSome = decide (a ∈ L) := by
  unfold lookD kvs
  rw [Option.isSome_map]
  induction L with
  | nil => rfl
  | cons x L ih =>
    simp only [List.map_cons, List.find?_cons]
    by_cases c : x = a
    · subst c; simp
    · have n1 : decide ((Sum.inl (x : Int) : Key) = Sum.inl (a : Int)) = false := decide_eq_false fun e => c (by have e' := Sum.inl.inj e; omega)
      have n2 : ¬ a = x := fun e => c e.symm
      rw [n1, ih]
      simp [n2]
theorem kvs_put {L : List Nat} {a : Nat} (h : a ∉ L) : putD (kvs L) (.inl (a : Int)) (.bl true) = kvs (L ++ [a]) := by
  unfold putD
  have n : (kvs L).any (fun p => decide (p.1 = (.inl (a : Int) : Key))) = false := by
    rw [List.any_eq_false]
    intro p hp
    obtain ⟨x, hx, rfl⟩ := List.mem_map.mp hp
    simp only [decide_eq_true_eq, Sum.inl.injEq]
    intro e
    have : x = a := by omega
    exact h (this ▸ hx)
  rw [n]
  simp [kvs]
def cLw : Rho → R Bool := mTst (mIn true 2 (mVar 5))
def bLw : Rho → Out := mSeq (mDput 2 (mVar 5) (mC (.bl true))) (mSeq (mSet 4 (mOp dAdd (mVar 4) (mTup (mCons (mFrz (mVar 5)) mNil)))) (mSet 5 (mOp dIx (mVar 0) (mVar 5))))
def sLw (p L : List Nat) (rows : List D) (i : Nat) (r : List Nat) (a : Nat) : Rho := [.val (row p), .val (dI i), .own false (.dic (kvs L)), .own false (.lst rows), .val (row r), .val (dI a)]
theorem cLw_eq {p L : List Nat} {a : Nat} (rows : List D) (i : Nat) (r : List Nat) : cLw (sLw p L rows i r a) = .ok (!decide (a ∈ L)) (sLw p L rows i r a) := by
  have m := kvs_look L a
  unfold cLw sLw
  have m' : (lookD (kvs L) (.inl (a : Int))).isNone = !decide (a ∈ L) := by rw [← m]; simp
  simp [mTst, mIn, mVar, ownD, keyOf, dI, m']
theorem bLw_eq {p L : List Nat} {a : Nat} (rows : List D) (i : Nat) (r : List Nat) (ha : a < p.length) (m : a ∉ L) (hL : L.length ≤ 1000) (hr : r.length ≤ 1000) : bLw (sLw p L rows i r a) = .nx (sLw p (L ++ [a]) rows i (r ++ [a]) (pf p a)) := by
  have s := kvs_put m
  have hk : (kvs L).length ≤ 1000000 := by simp [kvs]; omega
  have x := dIx_row (r := p) (z := (a : Int)) a rfl ha
  have e1 : mDput 2 (mVar 5) (mC (.bl true)) (sLw p L rows i r a) = .nx (sLw p (L ++ [a]) rows i r a) := by
    unfold sLw
    simp [mDput, mFrz, mC, frz, ownD, mVar, keyOf, dI, s, szOk, hk]
  have hr2 : r.length + 1 ≤ 1000000 := by omega
  have e2 : mSet 4 (mOp dAdd (mVar 4) (mTup (mCons (mFrz (mVar 5)) mNil))) (sLw p (L ++ [a]) rows i r a) = .nx (sLw p (L ++ [a]) rows i (r ++ [a]) a) := by
    refine (set_ok (op_ok (x := row r) (y := row [a]) (ev := .d (row (r ++ [a]))) (ρ1 := sLw p (L ++ [a]) rows i r a) (ρ2 := sLw p (L ++ [a]) rows i r a) rfl rfl rfl rfl ?_)).trans ?_
    · simp [row, dAdd, szOk, hr2]
    · simp [setC, giveOut, putC, sLw]
  refine (seq_nx e1).trans ((seq_nx e2).trans ?_)
  refine (set_ok (op_ok (x := row p) (y := dI a) (ev := .d (dI (pf p a))) (ρ1 := sLw p (L ++ [a]) rows i (r ++ [a]) a) (ρ2 := sLw p (L ++ [a]) rows i (r ++ [a]) a) rfl rfl rfl rfl x)).trans ?_
  simp [setC, giveOut, putC, sLw]
theorem lw_sim {p : List Nat} (P : IsP p) (hp : p.length ≤ 1000) (rows : List D) (i : Nat) {L rw : List Nat} {a : Nat} (w : Walk p L a rw) : ∀ r : List Nat, a < p.length → r.length ≤ L.length → ∃ a', mWhile cLw bLw (sLw p L rows i r a) = .nx (sLw p (L ++ rw) rows i (r ++ rw) a') := by
  induction w with
  | @stop L a m =>
    intro r ha hr
    refine ⟨a, ?_⟩
    rw [while_stop (by rw [cLw_eq rows i r, decide_eq_true m]; rfl)]
    simp
  | @step L rw a m ha hl w ih =>
    intro r _ hr
    obtain ⟨a', e⟩ := ih (r ++ [a]) (pf_lt P ha) (by simpa using hr)
    refine ⟨a', while_go (by rw [cLw_eq rows i r, decide_eq_false m]; rfl) (bLw_eq rows i r ha m (by omega) (by omega)) (e.trans ?_) (fun z => by cases z)⟩
    simp
def bLc : Rho → Out := mSeq (mPar 4 5 (mTup mNil) (mVar 1)) (mSeq (mWhile cLw bLw) (mIfS (mTst (mOp dGt (mCB bLen (mCons (mVar 4) mNil)) (mC (.int 0)))) (mDrop (mApp 3 (mVar 4))) mNext))
theorem bLc_eq {p : List Nat} (P : IsP p) (hp : p.length ≤ 1000) {rows : List D} (hrs : rows.length ≤ 1000000) {i : Nat} (hi : i < p.length) {L rw : List Nat} (w : Walk p L i rw) {c4 c5 : Cell} (h4 : Clear c4) (h5 : Clear c5) : ∃ c4' c5', Clear c4' ∧ Clear c5' ∧
    bLc [.val (row p), .val (dI i), .own false (.dic (kvs L)), .own false (.lst rows), c4, c5] = .nx [.val (row p), .val (dI i), .own false (.dic (kvs (L ++ rw))), .own false (.lst (if rw = [] then rows else rows ++ [row rw])), c4', c5'] := by
  obtain ⟨a', e⟩ := lw_sim P hp rows i w [] hi (Nat.zero_le _)
  have e1 : mPar 4 5 (mTup mNil) (mVar 1) [.val (row p), .val (dI i), .own false (.dic (kvs L)), .own false (.lst rows), c4, c5] = .nx (sLw p L rows i [] i) := by
    cases c4 with
    | own b o => exact (h4 _ _ rfl).elim
    | no => cases c5 with
      | own b o => exact (h5 _ _ rfl).elim
      | no => rfl
      | val d => rfl
    | val d => cases c5 with
      | own b o => exact (h5 _ _ rfl).elim
      | no => rfl
      | val d => rfl
  rw [List.nil_append] at e
  refine ⟨.val (row rw), .val (dI a'), (fun _ _ z => by cases z), (fun _ _ z => by cases z), ?_⟩
  refine (seq_nx e1).trans ((seq_nx e).trans ?_)
  unfold sLw
  cases rw with
  | nil => rfl
  | cons x l =>
    have c : mTst (mOp dGt (mCB bLen (mCons (mVar 4) mNil)) (mC (.int 0))) [.val (row p), .val (dI i), .own false (.dic (kvs (L ++ x :: l))), .own false (.lst rows), .val (row (x :: l)), .val (dI a')] = .ok true [.val (row p), .val (dI i), .own false (.dic (kvs (L ++ x :: l))), .own false (.lst rows), .val (row (x :: l)), .val (dI a')] := by
      have : (0 : Int) < (l.length : Int) + 1 := by omega
      simp [mTst, mOp, mCB, mCons, mVar, mNil, rds, rd, row, bLen, mC, dGt, dI2, this]
    unfold mIfS
    rw [c, out_ok]
    refine (app_nx (d := row (x :: l)) (b := false) (xs := rows) (ρ1 := [.val (row p), .val (dI i), .own false (.dic (kvs (L ++ x :: l))), .own false (.lst rows), .val (row (x :: l)), .val (dI a')]) (b0 := false) (ys := rows) rfl rfl rfl hrs).trans ?_
    simp
theorem put1 {c : Cell} {d : D} (h : Clear c) (a b e f g : Cell) : gtN 1 d [a, c, b, e, f, g] = some [a, .val d, b, e, f, g] := by
  cases c with
  | no => rfl
  | val d => rfl
  | own b o => exact (h _ _ rfl).elim
theorem lc_sim {p : List Nat} (P : IsP p) (hp : p.length ≤ 1000) {is L : List Nat} {C C' : List (List Nat)} (k : Cyc p is L C C') : ∀ (c1 c4 c5 : Cell), Clear c1 → Clear c4 → Clear c5 → C.length + is.length ≤ 1000 → ∃ L' c1' c4' c5',
    forL (gtN 1) bLc (is.map dI) [.val (row p), c1, .own false (.dic (kvs L)), .own false (.lst (C.map row)), c4, c5] = .nx [.val (row p), c1', .own false (.dic (kvs L')), .own false (.lst (C'.map row)), c4', c5'] := by
  induction k with
  | nil => intro c1 c4 c5 _ _ _ _; exact ⟨_, c1, c4, c5, rfl⟩
  | @cons is L rw i C C' hi w hl k ih =>
    intro c1 c4 c5 h1 h4 h5 hb
    obtain ⟨c4', c5', h4', h5', e⟩ := bLc_eq P hp (rows := C.map row) (by simp at hb ⊢; omega) hi w h4 h5
    obtain ⟨L', c1'', c4'', c5'', e2⟩ := ih (.val (dI i)) c4' c5' (fun _ _ z => by cases z) h4' h5' (by
      split
      · simp at hb; omega
      · simp at hb ⊢; omega)
    refine ⟨L', c1'', c4'', c5'', ?_⟩
    rw [List.map_cons, forL_cons (put1 h1 _ _ _ _ _) e]
    refine Eq.trans ?_ e2
    congr 1
    split <;> simp_all
theorem x_law_cycles {p : List Nat} {C : List (List Nat)} (P : IsP p) (hp : p.length ≤ 1000) (k : Cyc p (List.range p.length) [] [] C) : m_f__law_cycles [.val (row p)] = .ok (.d (.tup (C.map row))) [.no] := by
  obtain ⟨L', c1, c4, c5, e⟩ := lc_sim P hp k .no .no .no (fun _ _ z => by cases z) (fun _ _ z => by cases z) (fun _ _ z => by cases z) (by simpa using hp)
  have e2 : mFor (mRng1 (mCB bLen (mCons (mVar 0) mNil))) (gtN 1) bLc [.val (row p), .no, .own false (.dic (kvs [])), .own false (.lst []), .no, .no] = .nx [.val (row p), c1, .own false (.dic (kvs L')), .own false (.lst (C.map row)), c4, c5] := by
    unfold mFor
    rw [rng_len hp, out_ok]
    exact e
  exact call_rt (e := .d (.tup (C.map row))) (cs := [.val (row p)]) (ρ := [.val (row p), c1, .own false (.dic (kvs L')), .own false (.lst (C.map row)), c4, c5]) ((seq_nx (m := mPar 2 3 mDnew (mLst mNil)) (ρ1 := [.val (row p), .no, .own false (.dic (kvs [])), .own false (.lst []), .no, .no]) rfl).trans ((seq_nx e2).trans rfl)) (fun i z => by cases z)
end K05
end

set_option Elab.async false
set_option linter.all false
set_option maxRecDepth 100000
set_option autoImplicit false
noncomputable section
namespace K05
open PySem L2 Mi
/-! ### lengths -/
def lens (C : List (List Nat)) : List Nat := C.map List.length
def lenD : D → D
  | .tup xs => .int xs.length
  | _ => .non
theorem lens_D (C : List (List Nat)) : (C.map row).map lenD = (lens C).map dI := by
  simp [lens, lenD, row, dI, Function.comp_def]
def down (l : List Nat) : List Int := (l.map fun n : Nat => (n : Int)).mergeSort geI
def up (l : List Nat) : List Int := (l.map fun n : Nat => (n : Int)).mergeSort leI
theorem up_rev (l : List Nat) : (up l).reverse = down l := by
  refine perm_ge ?_ (List.pairwise_reverse.mpr (ms_le _)) (ms_ge _)
  exact (List.reverse_perm _).trans ((List.mergeSort_perm _ _).trans (List.mergeSort_perm _ _).symm)
theorem dI_int (l : List Nat) : l.map dI = (l.map fun n : Nat => (n : Int)).map D.int := by simp [dI, Function.comp_def]
theorem cyc_len {p : List Nat} {C : List (List Nat)} (h : Cycs p C) (hp : p.length ≤ 1000) : C.length ≤ 1000000 := by
  have l := dips_len h.ne
  rw [h.all.length_eq, List.length_range] at l
  omega
theorem frz_n {m : Rho → R EV} {ρ ρ1 : Rho} {xs : List D} (h : m ρ = .ok (.new (.lst xs)) ρ1) : mFrz m ρ = .ok (.d (.lst xs)) ρ1 := by
  unfold mFrz
  rw [h]; rfl
theorem x_lengths {p : List Nat} {C : List (List Nat)} (P : IsP p) (hp : p.length ≤ 1000) (k : Cyc p (List.range p.length) [] [] C) (h : Cycs p C) : m_f_lengths_of [.val (row p)] = .ok (.d (.tup ((down (lens C)).map D.int))) [.no] := by
  have e1 : mCall m_f_cycle_rows 1 (mCons (mFrz (mVar 0)) mNil) [.val (row p), .no] = .ok (.new (.lst (C.map row))) [.val (row p), .no] := by
    rw [call1 (d := row p) (ρ1 := [.val (row p), .no]) rfl, x_cycle_rows P hp k]; rfl
  have e2 : mIt (mCall m_f_cycle_rows 1 (mCons (mFrz (mVar 0)) mNil)) [.val (row p), .no] = .ok (C.map row) [.val (row p), .no] := by
    unfold mIt
    rw [frz_n e1]; rfl
  have e3 := lc_map (v := 1) (el := mCB bLen (mCons (mVar 1) mNil)) lenD e2 rfl (by simpa using cyc_len h hp) (fun d hd => by
    obtain ⟨c, _, rfl⟩ := List.mem_map.mp hd
    rfl)
  rw [lens_D] at e3
  have e4 : mSortR (mLc (mIt (mCall m_f_cycle_rows 1 (mCons (mFrz (mVar 0)) mNil))) [1] (gtN 1) mYes (mCB bLen (mCons (mVar 1) mNil))) [.val (row p), .no] = .ok (.new (.lst ((down (lens C)).map D.int))) [.val (row p), .no] := by
    unfold mSortR
    rw [e3, bind_ok, dI_int]
    simp only [rd, Mo.rd, intsOf_map, Option.map_some]
    rfl
  exact call_rt (e := .d (.tup ((down (lens C)).map D.int))) (cs := [.val (row p)]) (ρ := [.val (row p), .no]) (ret_ok (cb_ok (cons_ok e4 (nil_ok _)) rfl rfl)) (fun i z => by cases z)
theorem x_type {p : List Nat} {C : List (List Nat)} (P : IsP p) (hp : p.length ≤ 1000) (k : Cyc p (List.range p.length) [] [] C) (h : Cycs p C) : m_f__law_type [.val (row p)] = .ok (.d (.tup ((down (lens C)).map D.int))) [.no] := by
  have e1 : mCall m_f__law_cycles 1 (mCons (mFrz (mVar 0)) mNil) [.val (row p), .no] = .ok (.d (.tup (C.map row))) [.val (row p), .no] := by
    rw [call1 (d := row p) (ρ1 := [.val (row p), .no]) rfl, x_law_cycles P hp k]; rfl
  have e2 : mIt (mCall m_f__law_cycles 1 (mCons (mFrz (mVar 0)) mNil)) [.val (row p), .no] = .ok (C.map row) [.val (row p), .no] := by
    unfold mIt
    rw [frz_d e1]; rfl
  have e3 := lc_map (v := 1) (el := mCB bLen (mCons (mVar 1) mNil)) lenD e2 rfl (by simpa using cyc_len h hp) (fun d hd => by
    obtain ⟨c, _, rfl⟩ := List.mem_map.mp hd
    rfl)
  rw [lens_D] at e3
  have e4 : mRev (mCB bSorted (mCons (mLc (mIt (mCall m_f__law_cycles 1 (mCons (mFrz (mVar 0)) mNil))) [1] (gtN 1) mYes (mCB bLen (mCons (mVar 1) mNil))) mNil)) [.val (row p), .no] = .ok (.new (.lst ((down (lens C)).map D.int))) [.val (row p), .no] := by
    have e5 := cb_ok (f := bSorted) (cons_ok e3 (nil_ok _)) (ds := [.lst ((lens C).map dI)]) rfl (ev := .new (.lst ((up (lens C)).map D.int))) (by rw [dI_int]; simp only [bSorted, intsOf_map, Option.map_some]; rfl)
    unfold mRev
    rw [e5, bind_ok]
    simp only [rd, Mo.rd]
    rw [← List.map_reverse, up_rev]
  exact call_rt (e := .d (.tup ((down (lens C)).map D.int))) (cs := [.val (row p)]) (ρ := [.val (row p), .no]) (ret_ok (cb_ok (cons_ok e4 (nil_ok _)) rfl rfl)) (fun i z => by cases z)
/-! ### products -/
theorem then_map {p q : List Nat} (hp : ∀ x ∈ p, x < q.length) (el : Rho → R EV) (g : D → D) (hg : ∀ x, x ∈ p → g (dI x) = dI (pf q x)) : (p.map dI).map g = (p.map (pf q)).map dI := by
  rw [List.map_map, List.map_map]
  exact List.map_congr_left fun x hx => hg x hx
def atD (q : List Nat) : D → D
  | .int i => dI (pf q i.toNat)
  | _ => .non
theorem x_ix {p q : List Nat} (hp : ∀ x ∈ p, x < q.length) (hl : p.length ≤ 1000) {c : Cell} : mLc (mIt (mVar 0)) [2] (gtN 2) mYes (mOp dIx (mVar 1) (mVar 2)) [.val (row p), .val (row q), .no] = .ok (.new (.lst ((p.map (pf q)).map dI))) [.val (row p), .val (row q), .no] := by
  have e := lc_map (v := 2) (ds := p.map dI) (el := mOp dIx (mVar 1) (mVar 2)) (mi := mIt (mVar 0)) (ρ0 := [.val (row p), .val (row q), .no]) (ρ := [.val (row p), .val (row q), .no]) (atD q) rfl rfl (by simp; omega) (fun d hd => by
    obtain ⟨x, hx, rfl⟩ := List.mem_map.mp hd
    refine frz_d (op_ok (x := row q) (y := dI x) (e' := .d (dI x)) (ρ1 := [.val (row p), .val (row q), .val (dI x)]) rfl rfl rfl rfl ?_)
    exact dIx_row x rfl (hp x hx))
  rwa [then_map hp (mOp dIx (mVar 1) (mVar 2)) (atD q) (fun x _ => rfl)] at e
theorem x_then {p q : List Nat} (hp : ∀ x ∈ p, x < q.length) (hl : p.length ≤ 1000) : m_f_then [.val (row p), .val (row q)] = .ok (.d (row (p.map (pf q)))) [.no, .no] :=
  call_rt (e := .d (row (p.map (pf q)))) (cs := [.val (row p), .val (row q)]) (ρ := [.val (row p), .val (row q), .no]) (ret_ok (cb_ok (cons_ok (x_ix hp hl (c := .no)) (nil_ok _)) rfl rfl)) (fun i z => by cases z)
theorem x_times {p q : List Nat} (hp : ∀ x ∈ p, x < q.length) (hl : p.length ≤ 1000) : m_f__law_times [.val (row p), .val (row q)] = .ok (.d (row (p.map (pf q)))) [.no, .no] :=
  call_rt (e := .d (row (p.map (pf q)))) (cs := [.val (row p), .val (row q)]) (ρ := [.val (row p), .val (row q), .no]) (ret_ok (cb_ok (cons_ok (x_ix hp hl (c := .no)) (nil_ok _)) rfl rfl)) (fun i z => by cases z)
theorem isP_mul {p q : List Nat} (P : IsP p) (Q : IsP q) (e : p.length = q.length) : IsP (p.map (pf q)) := by
  refine ⟨fun x hx => ?_, ?_⟩
  · obtain ⟨y, hy, rfl⟩ := List.mem_map.mp hx
    rw [List.length_map, e]
    exact pf_lt Q (e ▸ P.lt y hy)
  · have h := (P.perm.map (pf q))
    rw [e, range_pf] at h
    exact h.nodup_iff.mpr Q.nd
theorem call_demand_one {p : List Nat} (P : IsP p) (hp : p.length ≤ 1000) {m : Rho → R EV} {ρ : Rho} (hm : mFrz m ρ = .ok (.d (row p)) ρ) : mDrop (mCall m_f__demand_one 1 (mCons (mFrz m) mNil)) ρ = .nx ρ := by
  have e := x_demand_one (x_perm_row P (by omega))
  rw [if_pos rfl] at e
  refine drop_ok (e := .d .non) ?_
  rw [call1 hm, e]; rfl
theorem call_demand_bad {x : D} (h : m_f_is_permutation [.val x] = .ok (.d (.bl false)) [.no]) {m : Rho → R EV} {ρ : Rho} (hm : mFrz m ρ = .ok (.d x) ρ) : mDrop (mCall m_f__demand_one 1 (mCons (mFrz m) mNil)) ρ = .exn .mal ρ := by
  have e := x_demand_one h
  rw [if_neg (by simp)] at e
  unfold mDrop
  rw [call1 hm, e]; rfl
theorem x_product {p q : List Nat} (P : IsP p) (Q : IsP q) (hl : p.length = q.length) (hp : p.length ≤ 1000) : m_f_product_of [.val (row p), .val (row q)] = .ok (.d (row (p.map (pf q)))) [.no, .no] := by
  have e1 : m_f__demand_two [.val (row p), .val (row q)] = .ok (.d .non) [.no, .no] := by
    have c : mOp dEq (mCB bLen (mCons (mVar 0) mNil)) (mCB bLen (mCons (mVar 1) mNil)) [.val (row p), .val (row q)] = .ok (.d (.bl true)) [.val (row p), .val (row q)] := by
      have : (p.length : Int) = q.length := by omega
      simp [mOp, mCB, mCons, mVar, mNil, rds, rd, row, bLen, dEq, eqD, hl]
    refine call_nx (ρ := [.val (row p), .val (row q)]) ((seq_nx (call_demand_one P hp (m := mVar 0) rfl)).trans ((seq_nx (call_demand_one Q (by omega) (m := mVar 1) rfl)).trans ?_))
    refine drop_ok (e := .d .non) ?_
    show mCall m_f_demand 2 _ [.val (row p), .val (row q)] = _
    rw [call2 (n := mC (.str "permutations of as many sheets")) (frz_d c) (e := .str "permutations of as many sheets") (ρ2 := [.val (row p), .val (row q)]) rfl, x_demand true _ (by decide)]; rfl
  have e2 : mDrop (mCall m_f__demand_two 2 (mCons (mFrz (mVar 0)) (mCons (mFrz (mVar 1)) mNil))) [.val (row p), .val (row q)] = .nx [.val (row p), .val (row q)] := by
    refine drop_ok (e := .d .non) ?_
    rw [call2 (d := row p) (ρ1 := [.val (row p), .val (row q)]) rfl (e := row q) (ρ2 := [.val (row p), .val (row q)]) rfl, e1]; rfl
  refine call_rt (e := .d (row (p.map (pf q)))) (cs := [.val (row p), .val (row q)]) (ρ := [.val (row p), .val (row q)]) ((seq_nx e2).trans (ret_ok ?_)) (fun i z => by cases z)
  rw [call2 (d := row p) (ρ1 := [.val (row p), .val (row q)]) rfl (e := row q) (ρ2 := [.val (row p), .val (row q)]) rfl, x_then (fun x hx => hl ▸ P.lt x hx) hp]; rfl
/-! ### the four at what is no permutation -/
theorem bad_cycles {x : D} (h : m_f_is_permutation [.val x] = .ok (.d (.bl false)) [.no]) : m_f_cycles_of [.val x] = .exn .mal := call_ex (cs := [.val x]) (ρ := [.val x]) (seq_ex (call_demand_bad h (m := mVar 0) rfl)) rfl
theorem bad_type {x : D} (h : m_f_is_permutation [.val x] = .ok (.d (.bl false)) [.no]) : m_f_cycle_type [.val x] = .exn .mal := call_ex (cs := [.val x]) (ρ := [.val x]) (seq_ex (call_demand_bad h (m := mVar 0) rfl)) rfl
theorem bad_order {x : D} (h : m_f_is_permutation [.val x] = .ok (.d (.bl false)) [.no]) : m_f_order_of [.val x] = .exn .mal := call_ex (cs := [.val x]) (ρ := [.val x, .no, .no]) (seq_ex (call_demand_bad h (m := mVar 0) rfl)) rfl
theorem bad_sign {x : D} (h : m_f_is_permutation [.val x] = .ok (.d (.bl false)) [.no]) : m_f_sign_of [.val x] = .exn .mal := call_ex (cs := [.val x]) (ρ := [.val x]) (seq_ex (call_demand_bad h (m := mVar 0) rfl)) rfl
/-! ### the four at a permutation -/
theorem x_cycles {p : List Nat} {C : List (List Nat)} (P : IsP p) (hp : p.length ≤ 1000) (k : Cyc p (List.range p.length) [] [] C) : m_f_cycles_of [.val (row p)] = .ok (.d (.tup (C.map row))) [.no] := by
  have e1 : mCall m_f_cycle_rows 1 (mCons (mFrz (mVar 0)) mNil) [.val (row p)] = .ok (.new (.lst (C.map row))) [.val (row p)] := by
    rw [call1 (d := row p) (ρ1 := [.val (row p)]) rfl, x_cycle_rows P hp k]; rfl
  exact call_rt (e := .d (.tup (C.map row))) (cs := [.val (row p)]) (ρ := [.val (row p)]) ((seq_nx (call_demand_one P hp (m := mVar 0) rfl)).trans (ret_ok (cb_ok (cons_ok e1 (nil_ok _)) rfl rfl))) (fun i z => by cases z)
theorem x_ctype {p : List Nat} {C : List (List Nat)} (P : IsP p) (hp : p.length ≤ 1000) (k : Cyc p (List.range p.length) [] [] C) (h : Cycs p C) : m_f_cycle_type [.val (row p)] = .ok (.d (.tup ((down (lens C)).map D.int))) [.no] := by
  have e1 : mCall m_f_lengths_of 1 (mCons (mFrz (mVar 0)) mNil) [.val (row p)] = .ok (.d (.tup ((down (lens C)).map D.int))) [.val (row p)] := by
    rw [call1 (d := row p) (ρ1 := [.val (row p)]) rfl, x_lengths P hp k h]; rfl
  exact call_rt (e := .d (.tup ((down (lens C)).map D.int))) (cs := [.val (row p)]) (ρ := [.val (row p)]) ((seq_nx (call_demand_one P hp (m := mVar 0) rfl)).trans (ret_ok e1)) (fun i z => by cases z)
def sg (p : List Nat) : Int := 1 - 2 * ((inv p % 2 : Nat) : Int)
theorem and_one (n : Nat) : Builtin.bitAnd (n : Int) 1 = ((n % 2 : Nat) : Int) := by
  show ((n &&& 1 : Nat) : Int) = _
  rw [Nat.and_one_is_mod]
theorem x_sign {p : List Nat} {C : List (List Nat)} (P : IsP p) (hp : p.length ≤ 1000) (k : Cyc p (List.range p.length) [] [] C) (h : Cycs p C) : m_f_sign_of [.val (row p)] = .ok (.d (.int (sg p))) [.no] := by
  have e1 : mCall m_f_cycle_rows 1 (mCons (mFrz (mVar 0)) mNil) [.val (row p)] = .ok (.new (.lst (C.map row))) [.val (row p)] := by
    rw [call1 (d := row p) (ρ1 := [.val (row p)]) rfl, x_cycle_rows P hp k]; rfl
  obtain ⟨c1, c2⟩ := inv_cyc P h
  have e2 := cb_ok (f := bLen) (cons_ok e1 (nil_ok _)) (ds := [.lst (C.map row)]) rfl (ev := .d (.int C.length)) (by simp [bLen])
  have e3 : mCB bLen (mCons (mVar 0) mNil) [.val (row p)] = .ok (.d (.int p.length)) [.val (row p)] := by simp [mCB, mCons, mVar, mNil, rds, rd, row, bLen]
  have e4 := op_ok (f := dSub) e3 e2 rfl rfl (ev := .d (.int ((p.length - C.length : Nat) : Int))) (by
    rw [show ((p.length - C.length : Nat) : Int) = (p.length : Int) - C.length from by omega]; rfl)
  have e5 := op_ok (f := dAnd) e4 (show mC (.int 1) [.val (row p)] = .ok (.d (.int 1)) [.val (row p)] from rfl) rfl rfl (ev := .d (.int (((p.length - C.length) % 2 : Nat) : Int))) (by
    rw [← and_one]; rfl)
  refine call_rt (e := .d (.int (sg p))) (cs := [.val (row p)]) (ρ := [.val (row p)]) ((seq_nx (call_demand_one P hp (m := mVar 0) rfl)).trans (ret_ok ?_)) (fun i z => by cases z)
  show mIfE (mTru _) _ _ [.val (row p)] = _
  unfold mIfE mTru
  rw [e5]
  unfold sg
  rw [← c2]
  rcases Nat.mod_two_eq_zero_or_one (inv p) with q | q
  · rw [q]; rfl
  · rw [q]; rfl
end K05
end

set_option Elab.async false
set_option linter.all false
set_option maxRecDepth 100000
set_option autoImplicit false
noncomputable section
namespace K05
open PySem L2 Mi
/-! ### the least common multiple -/
theorem down_nat (C : List (List Nat)) : ∃ l : List Nat, down (lens C) = l.map (fun n : Nat => (n : Int)) ∧ l.Perm (lens C) := by
  have hp : (down (lens C)).Perm ((lens C).map fun n : Nat => (n : Int)) := List.mergeSort_perm _ _
  refine ⟨(down (lens C)).map Int.toNat, ?_, ?_⟩
  · rw [List.map_map]
    have : ∀ x ∈ down (lens C), ((fun n : Nat => (n : Int)) ∘ Int.toNat) x = x := fun x hx => by
      obtain ⟨y, _, rfl⟩ := List.mem_map.mp (hp.mem_iff.mp hx)
      rfl
    rw [List.map_congr_left this]
    simp
  · have := hp.map Int.toNat
    rw [List.map_map] at this
    simpa [Function.comp_def] using this
def sumD (l : List Nat) : Nat := (l.map fun x => x - 1).sum
theorem sumD_perm {l m : List Nat} (h : l.Perm m) : sumD l = sumD m := (h.map _).sum_nat
theorem sumD_lens (C : List (List Nat)) : sumD (lens C) = dips C := by
  simp [sumD, lens, dips, Function.comp_def]
theorem lcm_le {a l s : Nat} (ha : a ≤ 2 ^ s) (h0 : 0 < a) (h1 : 1 ≤ l) : 0 < Nat.lcm a l ∧ Nat.lcm a l ≤ 2 ^ (s + (l - 1)) := by
  refine ⟨Nat.lcm_pos h0 h1, ?_⟩
  have m : Nat.lcm a l ≤ a * l := Nat.le_of_dvd (Nat.mul_pos h0 h1) (Nat.lcm_dvd_mul a l)
  have k := Nat.mul_le_mul ha (le_two l h1)
  rw [← Nat.pow_add] at k
  omega
theorem x_lcm {a b : Nat} (ha : a < 2 ^ 64) (hb : b < 2 ^ 64) : m_f_least_common [.val (dI a), .val (dI b)] = .ok (.d (dI (Nat.lcm a b))) [.no, .no] := by
  have e : bLcm [dI a, dI b] = some (.d (dI (Nat.lcm a b))) := by
    have c : lcmOk (a : Int) (b : Int) = true := by simp [lcmOk]; omega
    simp [bLcm, dI, c]
  exact call_rt (e := .d (dI (Nat.lcm a b))) (cs := [.val (dI a), .val (dI b)]) (ρ := [.val (dI a), .val (dI b)]) (ret_ok (cb_ok (ds := [dI a, dI b]) (es := [.d (dI a), .d (dI b)]) (ρ1 := [.val (dI a), .val (dI b)]) rfl rfl e)) (fun i z => by cases z)
theorem gcd_loop : ∀ (b a : Nat), ∃ c, mWhile (mTst (mOp dNe (mVar 1) (mC (.int 0)))) (mPar 0 1 (mVar 1) (mOp dMod (mCB bInt (mCons (mVar 0) mNil)) (mVar 1))) [.val (dI a), .val (dI b)] = .nx [.val (dI (Nat.gcd a b)), c] := by
  intro b
  induction b using Nat.strongRecOn with
  | ind b ih =>
    intro a
    have t : mTst (mOp dNe (mVar 1) (mC (.int 0))) [.val (dI a), .val (dI b)] = .ok (!decide ((b : Int) = 0)) [.val (dI a), .val (dI b)] := rfl
    by_cases c : b = 0
    · subst c
      exact ⟨_, by rw [while_stop t, Nat.gcd_zero_right]⟩
    · have h := Nat.mod_lt a (Nat.pos_of_ne_zero c)
      obtain ⟨c', e⟩ := ih (a % b) h b
      refine ⟨c', ?_⟩
      have n : ¬ (b : Int) = 0 := by omega
      rw [decide_eq_false n] at t
      have p : (0 : Int) < b := by omega
      have p' : 0 < b := by omega
      have g : Nat.gcd a b = Nat.gcd b (a % b) := (Nat.gcd_comm a b).trans ((Nat.gcd_rec b a).trans (Nat.gcd_comm _ _))
      rw [g]
      refine while_go t ?_ e (fun z => by cases z)
      simp [mPar, mVar, dI, mOp, mCB, mCons, mNil, rds, rd, bInt, dMod, dI2c, p', putC]
theorem x_gcd (a b : Nat) : m_f__law_gcd [.val (dI a), .val (dI b)] = .ok (.d (dI (Nat.gcd a b))) [.no, .no] := by
  obtain ⟨c, e⟩ := gcd_loop b a
  exact call_rt (e := .d (dI (Nat.gcd a b))) (cs := [.val (dI a), .val (dI b)]) (ρ := [.val (dI (Nat.gcd a b)), c]) ((seq_nx e).trans rfl) (fun i z => by cases z)
def bOrd : Rho → Out := mSet 1 (mCall m_f_least_common 2 (mCons (mFrz (mVar 1)) (mCons (mFrz (mVar 2)) mNil)))
def bOrd2 : Rho → Out := mSet 1 (mOp dDiv (mOp dMul (mVar 1) (mVar 2)) (mCall m_f__law_gcd 2 (mCons (mFrz (mVar 1)) (mCons (mFrz (mVar 2)) mNil))))
theorem pow_lt {a s : Nat} (h : a ≤ 2 ^ s) (hs : s ≤ 60) : a < 2 ^ 64 := by
  have : 2 ^ s ≤ 2 ^ 60 := Nat.pow_le_pow_right (by omega) hs
  omega
theorem bOrd_eq {a b : Nat} (x : Cell) (rest : List Cell) (ha : a < 2 ^ 64) (hb : b < 2 ^ 64) : bOrd (x :: .val (dI a) :: .val (dI b) :: rest) = .nx (x :: .val (dI (Nat.lcm a b)) :: .val (dI b) :: rest) := by
  unfold bOrd
  refine (set_ok (e := .d (dI (Nat.lcm a b))) (ρ1 := x :: .val (dI a) :: .val (dI b) :: rest) ?_).trans rfl
  rw [call2 (d := dI a) (ρ1 := x :: .val (dI a) :: .val (dI b) :: rest) rfl (e := dI b) (ρ2 := x :: .val (dI a) :: .val (dI b) :: rest) rfl, x_lcm ha hb]; rfl
theorem bOrd2_eq {a b : Nat} (x : Cell) (rest : List Cell) (ha : a < 2 ^ 64) (hb : b < 1000000) (h0 : 0 < b) : bOrd2 (x :: .val (dI a) :: .val (dI b) :: rest) = .nx (x :: .val (dI (Nat.lcm a b)) :: .val (dI b) :: rest) := by
  unfold bOrd2
  have e1 : mCall m_f__law_gcd 2 (mCons (mFrz (mVar 1)) (mCons (mFrz (mVar 2)) mNil)) (x :: .val (dI a) :: .val (dI b) :: rest) = .ok (.d (dI (Nat.gcd a b))) (x :: .val (dI a) :: .val (dI b) :: rest) := by
    rw [call2 (d := dI a) (ρ1 := x :: .val (dI a) :: .val (dI b) :: rest) rfl (e := dI b) (ρ2 := x :: .val (dI a) :: .val (dI b) :: rest) rfl, x_gcd]; rfl
  have m1 : mulOk (a : Int) (b : Int) = true := by simp [mulOk]; omega
  have e2 : mOp dMul (mVar 1) (mVar 2) (x :: .val (dI a) :: .val (dI b) :: rest) = .ok (.d (.int ((a : Int) * b))) (x :: .val (dI a) :: .val (dI b) :: rest) :=
    op_ok (x := dI a) (y := dI b) (e := .d (dI a)) (e' := .d (dI b)) (ρ1 := x :: .val (dI a) :: .val (dI b) :: rest) rfl rfl rfl rfl (by simp [dMul, dI2c, dI, m1])
  have g0 : 0 < Nat.gcd a b := Nat.gcd_pos_of_pos_right _ h0
  have g1 : Nat.gcd a b ≤ b := Nat.gcd_le_right _ h0
  have d1 : divOk (Int.ofNat (Nat.gcd a b)) (Int.ofNat (Nat.gcd a b)) = true := by simp [divOk]; omega
  refine (set_ok (e := .d (dI (Nat.lcm a b))) (ρ1 := x :: .val (dI a) :: .val (dI b) :: rest) (op_ok e2 e1 rfl rfl ?_)).trans rfl
  have d2 : divOk ((a : Int) * b) ((Nat.gcd a b : Nat) : Int) = true := by simp only [divOk, Bool.and_eq_true, decide_eq_true_eq]; omega
  simp only [dDiv, dI2c, dI, d2, if_true, Option.some.injEq, EV.d.injEq, D.int.injEq]
  show (a : Int) * b / ((Nat.gcd a b : Nat) : Int) = ((a * b / Nat.gcd a b : Nat) : Int)
  push_cast
  rfl
theorem put2' {c : Cell} {d : D} (h : Clear c) (a b : Cell) (r : List Cell) : gtN 2 d (a :: b :: c :: r) = some (a :: b :: .val d :: r) := by
  cases c with
  | own b o => exact (h _ _ rfl).elim
  | no => rfl
  | val d => rfl
theorem ord_loop {bb : Rho → Out} (hb : ∀ (a b : Nat) (x : Cell) (rest : List Cell), a < 2 ^ 64 → b < 1000000 → 0 < b → bb (x :: .val (dI a) :: .val (dI b) :: rest) = .nx (x :: .val (dI (Nat.lcm a b)) :: .val (dI b) :: rest)) (x : Cell) (rest : List Cell) : ∀ (l : List Nat) (a s : Nat) (c : Cell), Clear c → (∀ y ∈ l, 1 ≤ y ∧ y < 1000000) → 0 < a → a ≤ 2 ^ s → s + sumD l ≤ 60 →
    ∃ c', Clear c' ∧ forL (gtN 2) bb (l.map dI) (x :: .val (dI a) :: c :: rest) = .nx (x :: .val (dI (lcmL l a)) :: c' :: rest)
  | [], a, s, c, hc, _, _, _, _ => ⟨c, hc, rfl⟩
  | y :: l, a, s, c, hc, hl, h0, h1, h2 => by
    have hy := hl y (by simp)
    have h2' : s + ((y - 1) + sumD l) ≤ 60 := by simpa [sumD] using h2
    obtain ⟨p0, p1⟩ := lcm_le h1 h0 hy.1
    obtain ⟨c', hc', e⟩ := ord_loop hb x rest l (Nat.lcm a y) (s + (y - 1)) (.val (dI y)) (fun _ _ z => by cases z) (fun z hz => hl z (List.mem_cons_of_mem _ hz)) p0 p1 (by omega)
    refine ⟨c', hc', ?_⟩
    rw [List.map_cons, forL_cons (put2' hc _ _ _) (hb a y x rest (pow_lt h1 (by omega)) hy.2 hy.1)]
    exact e
theorem lens_ok {p : List Nat} {C : List (List Nat)} (h : Cycs p C) (hp : p.length ≤ 60) : ∃ l : List Nat, (down (lens C)).map D.int = l.map dI ∧ (∀ y ∈ l, 1 ≤ y ∧ y < 1000000) ∧ sumD l ≤ 60 := by
  obtain ⟨l, e, q⟩ := down_nat C
  have dl := dips_len h.ne
  rw [h.all.length_eq, List.length_range] at dl
  refine ⟨l, by rw [e, dI_int], fun y hy => ?_, by rw [sumD_perm q, sumD_lens]; omega⟩
  obtain ⟨c, hc, rfl⟩ := List.mem_map.mp (q.mem_iff.mp hy)
  refine ⟨List.length_pos_iff.mpr (h.ne c hc), ?_⟩
  have s : c.length ≤ C.flatten.length := (List.sublist_flatten_of_mem hc).length_le
  rw [h.all.length_eq, List.length_range] at s
  omega
def ordN (C : List (List Nat)) : Nat := lcmL ((down (lens C)).map Int.toNat) 1
theorem ordN_eq {C : List (List Nat)} {l : List Nat} (e : (down (lens C)).map D.int = l.map dI) : ordN C = lcmL l 1 := by
  have : down (lens C) = l.map (fun n : Nat => (n : Int)) := by
    rw [dI_int] at e
    exact List.map_inj_right (fun x y z => by cases z; rfl) |>.mp e
  unfold ordN
  rw [this, List.map_map]
  congr 1
  simp [Function.comp_def]
theorem x_order {p : List Nat} {C : List (List Nat)} (P : IsP p) (hp : p.length ≤ 60) (k : Cyc p (List.range p.length) [] [] C) (h : Cycs p C) : m_f_order_of [.val (row p)] = .ok (.d (dI (ordN C))) [.no] := by
  obtain ⟨l, e, hl, hs⟩ := lens_ok h hp
  obtain ⟨c', _, e2⟩ := ord_loop (bb := bOrd) (fun a b x rest ha hb h0 => bOrd_eq x rest ha (by omega)) (.val (row p)) [] l 1 0 .no (fun _ _ z => by cases z) hl (by omega) (by omega) (by omega)
  rw [← ordN_eq e] at e2
  have e3 : mCall m_f_lengths_of 1 (mCons (mFrz (mVar 0)) mNil) [.val (row p), .val (dI 1), .no] = .ok (.d (.tup (l.map dI))) [.val (row p), .val (dI 1), .no] := by
    rw [call1 (d := row p) (ρ1 := [.val (row p), .val (dI 1), .no]) rfl, x_lengths P (by omega) k h, e]; rfl
  have e4 : mFor (mIt (mCall m_f_lengths_of 1 (mCons (mFrz (mVar 0)) mNil))) (gtN 2) bOrd [.val (row p), .val (dI 1), .no] = .nx [.val (row p), .val (dI (ordN C)), c'] := by
    unfold mFor mIt
    rw [frz_d e3]
    exact e2
  exact call_rt (e := .d (dI (ordN C))) (cs := [.val (row p)]) (ρ := [.val (row p), .val (dI (ordN C)), c']) ((seq_nx (call_demand_one P (by omega) (m := mVar 0) (ρ := [.val (row p), .no, .no]) rfl)).trans ((seq_nx (ρ1 := [.val (row p), .val (dI 1), .no]) rfl).trans ((seq_nx e4).trans rfl))) (fun i z => by cases z)
/-! ### turns -/
theorem take_snoc {p : List Nat} {i : Nat} (h : i < p.length) : p.take (i + 1) = p.take i ++ [pf p i] := by
  rw [List.take_succ, pf_get h]; rfl
theorem take_pf {p : List Nat} : ∀ {i : Nat}, i ≤ p.length → p.take i = (List.range i).map (pf p)
  | 0, _ => rfl
  | i + 1, h => by rw [take_snoc h, take_pf (Nat.le_of_succ_le h), List.range_succ, List.map_append]; rfl
def gtD (p : List Nat) (i : Nat) : D → Bool
  | .int j => decide (pf p i < pf p j.toNat)
  | _ => false
def bTurn : Rho → Out := mSet 1 (mOp dAdd (mVar 1) (mCB bLen (mCons (mLc (mRng1 (mVar 2)) [3] (gtN 3) (mTst (mOp dGt (mOp dIx (mVar 0) (mVar 3)) (mOp dIx (mVar 0) (mVar 2)))) (mVar 3)) mNil)))
theorem bTurn_eq {p : List Nat} (hp : p.length ≤ 1000) {i : Nat} (hi : i < p.length) : bTurn [.val (row p), .val (dI (inv (p.take i))), .val (dI i), .no] = .nx [.val (row p), .val (dI (inv (p.take (i + 1)))), .val (dI i), .no] := by
  have h1 : (i : Int) ≤ 1000000 := by omega
  have h2 : (-1000000 : Int) ≤ i := by omega
  have e1 : mRng1 (mVar 2) [.val (row p), .val (dI (inv (p.take i))), .val (dI i), .no] = .ok ((List.range i).map dI) [.val (row p), .val (dI (inv (p.take i))), .val (dI i), .no] := by
    simp [mRng1, mVar, dI, rngOk, h1, h2, rng_eq]
  have e2 := lc_ok (v := 3) (el := mVar 3) (tst := mTst (mOp dGt (mOp dIx (mVar 0) (mVar 3)) (mOp dIx (mVar 0) (mVar 2)))) (fun d => d) (gtD p i) e1 rfl (by simp; omega) (fun d hd => by
    obtain ⟨j, hj, rfl⟩ := List.mem_map.mp hd
    have hj := List.mem_range.mp hj
    have a1 := dIx_row (r := p) (z := (j : Int)) j rfl (by omega)
    have a2 := dIx_row (r := p) (z := (i : Int)) i rfl hi
    have f1 := op_ok (f := dIx) (m := mVar 0) (n := mVar 3) (ρ := [.val (row p), .val (dI (inv (p.take i))), .val (dI i), .val (dI j)]) (ρ1 := [.val (row p), .val (dI (inv (p.take i))), .val (dI i), .val (dI j)]) (ρ2 := [.val (row p), .val (dI (inv (p.take i))), .val (dI i), .val (dI j)]) (e := .d (row p)) (e' := .d (dI j)) rfl rfl rfl rfl a1
    have f2 := op_ok (f := dIx) (m := mVar 0) (n := mVar 2) (ρ := [.val (row p), .val (dI (inv (p.take i))), .val (dI i), .val (dI j)]) (ρ1 := [.val (row p), .val (dI (inv (p.take i))), .val (dI i), .val (dI j)]) (ρ2 := [.val (row p), .val (dI (inv (p.take i))), .val (dI i), .val (dI j)]) (e := .d (row p)) (e' := .d (dI i)) rfl rfl rfl rfl a2
    have f3 := op_ok (f := dGt) f1 f2 rfl rfl (ev := .d (.bl (decide (pf p i < pf p j)))) (by simp [dGt, dI2, dI])
    unfold mTst
    show (mOp dGt _ _ [.val (row p), .val (dI (inv (p.take i))), .val (dI i), .val (dI j)]).bind _ = _
    rw [f3]; rfl) (fun d hd _ => rfl)
  rw [List.map_id'] at e2
  have n : (((List.range i).map dI).filter (gtD p i)).length = (p.take i).countP (fun y => decide (pf p i < y)) := by
    rw [take_pf (by omega), List.countP_map, List.filter_map, List.length_map, ← List.countP_eq_length_filter]
    rfl
  have e3 := cb_ok (f := bLen) (cons_ok e2 (nil_ok _)) rfl (ev := .d (dI ((p.take i).countP (fun y => decide (pf p i < y))))) (by rw [← n]; rfl)
  unfold bTurn
  refine (set_ok (op_ok (e := .d (dI (inv (p.take i)))) (ρ1 := [.val (row p), .val (dI (inv (p.take i))), .val (dI i), .no]) rfl e3 rfl rfl (ev := .d (dI (inv (p.take (i + 1))))) ?_)).trans rfl
  rw [take_snoc hi, inv_snoc]
  simp [dAdd, dI]
theorem x_turns {p : List Nat} (hp : p.length ≤ 1000) : m_f__law_turns [.val (row p)] = .ok (.d (dI (inv p))) [.no] := by
  have hl : mCB bLen (mCons (mVar 0) mNil) [.val (row p), .val (dI 0), .no, .no] = .ok (.d (dI p.length)) [.val (row p), .val (dI 0), .no, .no] := by
    simp [mCB, mCons, mVar, mNil, rds, rd, row, bLen, dI]
  obtain ⟨ρ', e, c, hc, rfl⟩ := for_range (mt := gtN 2) (b := bTurn) (n := p.length) (P := fun i ρ => ∃ c, Clear c ∧ ρ = [.val (row p), .val (dI (inv (p.take i))), c, .no]) (fun i ρ hi ⟨c, hc, e⟩ => by
    subst e
    exact ⟨_, _, put2' hc _ _ _, bTurn_eq hp hi, .val (dI i), (fun _ _ z => by cases z), rfl⟩) hl (by omega) ⟨.no, (fun _ _ z => by cases z), rfl⟩
  rw [List.take_length] at e
  exact call_rt (e := .d (dI (inv p))) (cs := [.val (row p)]) (ρ := [.val (row p), .val (dI (inv p)), c, .no]) ((seq_nx (ρ1 := [.val (row p), .val (dI 0), .no, .no]) rfl).trans ((seq_nx e).trans rfl)) (fun i z => by cases z)
end K05
end

set_option Elab.async false
set_option linter.all false
set_option maxRecDepth 100000
set_option autoImplicit false
noncomputable section
namespace K05
open PySem L2 Mi
/-! ### equal data are the same -/
def Sm (n : Nat) (d : D) : Prop := m_f__law_same n [.val d, .val d] = .ok (.d (.bl true)) [.no, .no]
theorem sm_int (n : Nat) (i : Int) : Sm (n + 1) (.int i) := by
  unfold Sm m_f__law_same b_f__law_same
  simp [callOf, mSeq, mIfS, mTru, mIsi, dIsi, mVar, rd, truD, mNext, mTst, mOp, mC, dIsN, isN, mRet, mAndV, mNotV, dEq, eqD, giveOut, keepB]
theorem sm_str (n : Nat) (i : Str) : Sm (n + 1) (.str i) := by
  unfold Sm m_f__law_same b_f__law_same
  simp [callOf, mSeq, mIfS, mTru, mIsi, dIsi, mVar, rd, truD, mNext, mTst, mOp, mC, dIsN, isN, mRet, mAndV, mNotV, dEq, eqD, giveOut, keepB]
theorem all_true {α : Type} (l : List α) : bAll [.lst (l.map fun _ => D.bl true)] = some (.d (.bl true)) := by
  have : blsOf (l.map fun _ => D.bl true) = some (l.map fun _ => true) := by
    induction l with
    | nil => rfl
    | cons x l ih => simp only [List.map_cons, blsOf, ih, Option.bind_some]
  simp [bAll, this]
theorem sm_tup {n : Nat} {ds : List D} (h : ∀ d ∈ ds, Sm n d) (hl : ds.length ≤ 1000) : Sm (n + 1) (.tup ds) := by
  have h1 : (ds.length : Int) ≤ 1000000 := by omega
  have h2 : (-1000000 : Int) ≤ ds.length := by omega
  have e1 : mRng1 (mCB bLen (mCons (mVar 1) mNil)) [.val (.tup ds), .val (.tup ds), .no] = .ok ((List.range ds.length).map dI) [.val (.tup ds), .val (.tup ds), .no] := by
    simp [mRng1, mCB, mCons, mVar, mNil, rds, rd, bLen, rngOk, h1, h2, rng_eq]
  have e2 := lc_map (v := 2) (el := mCall (m_f__law_same n) 2 (mCons (mFrz (mOp dIx (mVar 0) (mVar 2))) (mCons (mFrz (mOp dIx (mVar 1) (mVar 2))) mNil))) (fun _ => D.bl true) e1 rfl (by simp; omega) (fun d hd => by
    obtain ⟨j, hj, rfl⟩ := List.mem_map.mp hd
    have hj := List.mem_range.mp hj
    have a1 : dIx (.tup ds) (dI j) = some (.d ds[j]) := by simp [dIx, atI, ixN, dI, hj]
    have f1 := op_ok (f := dIx) (m := mVar 0) (n := mVar 2) (ρ := [.val (.tup ds), .val (.tup ds), .val (dI j)]) (ρ1 := [.val (.tup ds), .val (.tup ds), .val (dI j)]) (ρ2 := [.val (.tup ds), .val (.tup ds), .val (dI j)]) (e := .d (.tup ds)) (e' := .d (dI j)) rfl rfl rfl rfl a1
    have f2 := op_ok (f := dIx) (m := mVar 1) (n := mVar 2) (ρ := [.val (.tup ds), .val (.tup ds), .val (dI j)]) (ρ1 := [.val (.tup ds), .val (.tup ds), .val (dI j)]) (ρ2 := [.val (.tup ds), .val (.tup ds), .val (dI j)]) (e := .d (.tup ds)) (e' := .d (dI j)) rfl rfl rfl rfl a1
    refine frz_d ?_
    show mCall _ _ _ [.val (.tup ds), .val (.tup ds), .val (dI j)] = _
    rw [call2 (frz_d f1) (frz_d f2), h _ (List.getElem_mem hj)]; rfl)
  have e3 := cb_ok (f := bAll) (cons_ok e2 (nil_ok _)) rfl (all_true ((List.range ds.length).map dI))
  have e4 : mOp dEq (mCB bLen (mCons (mVar 0) mNil)) (mCB bLen (mCons (mVar 1) mNil)) [.val (.tup ds), .val (.tup ds), .no] = .ok (.d (.bl true)) [.val (.tup ds), .val (.tup ds), .no] := by
    simp [mOp, mCB, mCons, mVar, mNil, rds, rd, bLen, dEq, eqD]
  have and_ok : ∀ {m k : Rho → R EV} {ρ : Rho} {e : EV}, m ρ = .ok (.d (.bl true)) ρ → k ρ = .ok e ρ → mAndV m k ρ = .ok e ρ := fun {m k ρ e} q1 q2 => by
    unfold mAndV mTst
    rw [q1, bind_ok, bind_ok]; exact q2
  have e5 := and_ok (m := mIsi .tuple (mVar 0)) (ρ := [.val (.tup ds), .val (.tup ds), .no]) rfl (and_ok e4 e3)
  refine call_rt (e := .d (.bl true)) (cs := [.val (.tup ds), .val (.tup ds)]) (ρ := [.val (.tup ds), .val (.tup ds), .no]) (seq_rt ?_) (fun i z => by cases z)
  unfold mIfS
  refine Eq.trans (b := mRet _ [.val (.tup ds), .val (.tup ds), .no]) rfl (ret_ok e5)
theorem sm_row (n : Nat) {l : List Nat} (h : l.length ≤ 1000) : Sm (n + 2) (row l) := sm_tup (fun d hd => by
  obtain ⟨x, _, rfl⟩ := List.mem_map.mp hd
  exact sm_int n _) (by simpa using h)
theorem sm_rows (n : Nat) {C : List (List Nat)} (h : C.length ≤ 1000) (h2 : ∀ c ∈ C, c.length ≤ 1000) : Sm (n + 3) (.tup (C.map row)) := sm_tup (fun d hd => by
  obtain ⟨c, hc, rfl⟩ := List.mem_map.mp hd
  exact sm_row n (h2 c hc)) (by simpa using h)
theorem sm_ints (n : Nat) {l : List Int} (h : l.length ≤ 1000) : Sm (n + 2) (.tup (l.map D.int)) := sm_tup (fun d hd => by
  obtain ⟨x, _, rfl⟩ := List.mem_map.mp hd
  exact sm_int n _) (by simpa using h)
/-! ### told, raised -/
def toldD (r : D) : D := .tup [.str "told", r]
def raisD : D := .tup [.str "raised", .str "malformed"]
def aTold (A : Adr) : Rho → R EV := mCallV 0 (tabL A) (mCons (mFrz (mOp dIx (mVar 1) (mC (.int 0)))) mNil)
theorem callV_eq {A : Adr} {f : Addr} {g : List Cell → CR} (hf : tabL A f = some (1, g)) (x : D) : aTold A [.val (.ref f), .val (.tup [x]), .no] = atR (g [.val x]) [.val (.ref f), .val (.tup [x]), .no] := by
  unfold aTold mCallV
  simp only [List.getElem?_cons_zero, hf]
  exact call1 (d := x) rfl
theorem len1 (f : Addr) (x : D) : mTst (mOp dEq (mCB bLen (mCons (mVar 1) mNil)) (mC (.int 1))) [.val (.ref f), .val (.tup [x]), .no] = .ok true [.val (.ref f), .val (.tup [x]), .no] := by
  simp [mTst, mOp, mCB, mCons, mVar, mNil, rds, rd, bLen, mC, dEq, eqD]
theorem x_told {A : Adr} {f : Addr} {g : List Cell → CR} (hf : tabL A f = some (1, g)) {x r : D} (hg : g [.val x] = .ok (.d r) [.no]) : m_f__law_told A [.val (.ref f), .val (.tup [x])] = .ok (.d (toldD r)) [.no, .no] := by
  have e1 := callV_eq hf x
  rw [hg, at_d] at e1
  have e2 : mTup (mCons (mFrz (mC (.str "told"))) (mCons (mFrz (aTold A)) mNil)) [.val (.ref f), .val (.tup [x]), .no] = .ok (.d (toldD r)) [.val (.ref f), .val (.tup [x]), .no] := by
    unfold mTup
    rw [cons_ok (m := mFrz (mC (.str "told"))) (e := .d (.str "told")) (ρ1 := [.val (.ref f), .val (.tup [x]), .no]) rfl (cons_ok (frz_d e1) (nil_ok _))]
    rfl
  refine call_rt (e := .d (toldD r)) (cs := [.val (.ref f), .val (.tup [x])]) (ρ := [.val (.ref f), .val (.tup [x]), .no]) ?_ (fun i z => by cases z)
  unfold mTryM
  have e3 : ∀ (b c : Rho → Out), mSeq (mIfS (mTst (mOp dEq (mCB bLen (mCons (mVar 1) mNil)) (mC (.int 1)))) (mRet (mTup (mCons (mFrz (mC (.str "told"))) (mCons (mFrz (aTold A)) mNil)))) b) c [.val (.ref f), .val (.tup [x]), .no] = .rt (.d (toldD r)) [.val (.ref f), .val (.tup [x]), .no] := fun b c => by
    refine seq_rt ?_
    unfold mIfS
    rw [len1, out_ok]
    exact ret_ok e2
  have e4 := fun b c => e3 b c
  show (match mSeq _ _ [.val (.ref f), .val (.tup [x]), .no] with | .exn .mal ρ1 => _ | .exn _ _ => _ | o => o) = _
  unfold aTold at e4
  rw [e4]
theorem x_raised {A : Adr} {f : Addr} {g : List Cell → CR} (hf : tabL A f = some (1, g)) {x : D} (hg : g [.val x] = .exn .mal) : m_f__law_told A [.val (.ref f), .val (.tup [x])] = .ok (.d raisD) [.no, .no] := by
  have e1 := callV_eq hf x
  rw [hg, at_x] at e1
  have e2 : mTup (mCons (mFrz (mC (.str "told"))) (mCons (mFrz (aTold A)) mNil)) [.val (.ref f), .val (.tup [x]), .no] = .exn .mal [.val (.ref f), .val (.tup [x]), .no] := by
    have e5 : mFrz (aTold A) [.val (.ref f), .val (.tup [x]), .no] = .exn .mal [.val (.ref f), .val (.tup [x]), .no] := by
      unfold mFrz
      rw [e1]; rfl
    have e6 : mCons (mFrz (aTold A)) mNil [.val (.ref f), .val (.tup [x]), .no] = .exn .mal [.val (.ref f), .val (.tup [x]), .no] := by
      unfold mCons
      rw [e5]; rfl
    have e7 : mCons (mFrz (mC (.str "told"))) (mCons (mFrz (aTold A)) mNil) [.val (.ref f), .val (.tup [x]), .no] = .exn .mal [.val (.ref f), .val (.tup [x]), .no] := by
      show (mFrz (mC (.str "told")) _).bind _ = _
      rw [show mFrz (mC (.str "told")) [.val (.ref f), .val (.tup [x]), .no] = .ok (.d (.str "told")) [.val (.ref f), .val (.tup [x]), .no] from rfl, bind_ok, e6]; rfl
    unfold mTup
    rw [e7]; rfl
  refine call_rt (e := .d raisD) (cs := [.val (.ref f), .val (.tup [x])]) (ρ := [.val (.ref f), .val (.tup [x]), .no]) ?_ (fun i z => by cases z)
  unfold mTryM
  have e4 : ∀ (b c : Rho → Out), mSeq (mIfS (mTst (mOp dEq (mCB bLen (mCons (mVar 1) mNil)) (mC (.int 1)))) (mRet (mTup (mCons (mFrz (mC (.str "told"))) (mCons (mFrz (aTold A)) mNil)))) b) c [.val (.ref f), .val (.tup [x]), .no] = .exn .mal [.val (.ref f), .val (.tup [x]), .no] := fun b c => by
    refine seq_ex ?_
    unfold mIfS
    rw [len1, out_ok]
    show mRet _ _ = _
    unfold mRet
    rw [e2]; rfl
  show (match mSeq _ _ [.val (.ref f), .val (.tup [x]), .no] with | .exn .mal ρ1 => _ | .exn _ _ => _ | o => o) = _
  unfold aTold at e4
  rw [e4]; rfl
theorem x_is_told {r : D} (h : Sm 4 r) : m_f__law_is_told [.val (toldD r), .val r] = .ok (.d (.bl true)) [.no, .no] := by
  have e1 : mOp dIx (mVar 0) (mC (.int 1)) [.val (toldD r), .val r] = .ok (.d r) [.val (toldD r), .val r] := rfl
  have e2 : mCall (m_f__law_same 4) 2 (mCons (mFrz (mOp dIx (mVar 0) (mC (.int 1)))) (mCons (mFrz (mVar 1)) mNil)) [.val (toldD r), .val r] = .ok (.d (.bl true)) [.val (toldD r), .val r] := by
    rw [call2 (frz_d e1) (e := r) (ρ2 := [.val (toldD r), .val r]) rfl, h]; rfl
  have e3 : mOp dEq (mOp dIx (mVar 0) (mC (.int 0))) (mC (.str "told")) [.val (toldD r), .val r] = .ok (.d (.bl true)) [.val (toldD r), .val r] := by
    refine op_ok (x := .str "told") (y := .str "told") (e := .d (.str "told")) (e' := .d (.str "told")) (ρ1 := [.val (toldD r), .val r]) rfl rfl rfl rfl ?_
    simp [dEq, eqD]
  refine call_rt (e := .d (.bl true)) (cs := [.val (toldD r), .val r]) (ρ := [.val (toldD r), .val r]) (ret_ok ?_) (fun i z => by cases z)
  show mAndV _ _ [.val (toldD r), .val r] = _
  unfold mAndV mTst
  rw [e3, bind_ok, bind_ok]; exact e2
theorem x_is_raised : m_f__law_is_raised [.val raisD, .val (.str "malformed")] = .ok (.d (.bl true)) [.no, .no] := by
  have e1 : mOp dIx (mVar 0) (mC (.int 1)) [.val raisD, .val (.str "malformed")] = .ok (.d (.str "malformed")) [.val raisD, .val (.str "malformed")] := rfl
  have e2 : mCall (m_f__law_same 4) 2 (mCons (mFrz (mOp dIx (mVar 0) (mC (.int 1)))) (mCons (mFrz (mVar 1)) mNil)) [.val raisD, .val (.str "malformed")] = .ok (.d (.bl true)) [.val raisD, .val (.str "malformed")] := by
    rw [call2 (frz_d e1) (e := .str "malformed") (ρ2 := [.val raisD, .val (.str "malformed")]) rfl, sm_str 3 "malformed"]; rfl
  have e3 : mOp dEq (mOp dIx (mVar 0) (mC (.int 0))) (mC (.str "raised")) [.val raisD, .val (.str "malformed")] = .ok (.d (.bl true)) [.val raisD, .val (.str "malformed")] := by
    refine op_ok (x := .str "raised") (y := .str "raised") (e := .d (.str "raised")) (e' := .d (.str "raised")) (ρ1 := [.val raisD, .val (.str "malformed")]) rfl rfl rfl rfl ?_
    simp [dEq, eqD]
  refine call_rt (e := .d (.bl true)) (cs := [.val raisD, .val (.str "malformed")]) (ρ := [.val raisD, .val (.str "malformed")]) (ret_ok ?_) (fun i z => by cases z)
  show mAndV _ _ [.val raisD, .val (.str "malformed")] = _
  unfold mAndV mTst
  rw [e3, bind_ok, bind_ok]; exact e2
/-! ### what holds of each permutation -/
theorem tab0 (A : Adr) : tabL A A.f_cycles_of = some (1, m_f_cycles_of) := by unfold tabL; rw [if_pos rfl]
theorem tab1 {A : Adr} (k : TabOk A) : tabL A A.f_cycle_type = some (1, m_f_cycle_type) := by unfold tabL; rw [if_neg k.ne_1_0, if_pos rfl]
theorem tab2 {A : Adr} (k : TabOk A) : tabL A A.f_order_of = some (1, m_f_order_of) := by unfold tabL; rw [if_neg k.ne_2_0, if_neg k.ne_2_1, if_pos rfl]
theorem tab3 {A : Adr} (k : TabOk A) : tabL A A.f_sign_of = some (1, m_f_sign_of) := by unfold tabL; rw [if_neg k.ne_3_0, if_neg k.ne_3_1, if_neg k.ne_3_2, if_pos rfl]
theorem told_call {A : Adr} {f : Addr} {x r : D} {cs : List Cell} (h : m_f__law_told A [.val (.ref f), .val (.tup [x])] = .ok (.d r) [.no, .no]) : mFrz (mCall (m_f__law_told A) 2 (mCons (mFrz (mC (.ref f))) (mCons (mFrz (mTup (mCons (mFrz (mVar 0)) mNil))) mNil))) (.val x :: cs) = .ok (.d r) (.val x :: cs) := by
  refine frz_d ?_
  rw [call2 (d := .ref f) (ρ1 := .val x :: cs) rfl (e := .tup [x]) (ρ2 := .val x :: cs) rfl, h]; rfl
theorem call_row {f : List Cell → CR} {x r : D} {o : List Cell} {cs : List Cell} (h : f [.val x] = .ok (.d r) o) : mCall f 1 (mCons (mFrz (mVar 0)) mNil) (.val x :: cs) = .ok (.d r) (.val x :: cs) := by
  rw [call1 (d := x) (ρ1 := .val x :: cs) rfl, h]; rfl
theorem x_holds {A : Adr} (ok : TabOk A) {p : List Nat} (P : IsP p) (hp : p.length ≤ 60) : m_f__law_holds A [.val (row p)] = .ok (.d (.bl true)) [.no] := by
  obtain ⟨C, k, h⟩ := cycs P
  have hp' : p.length ≤ 1000 := by omega
  obtain ⟨l, e, hl, hs⟩ := lens_ok h hp
  have d0 := x_cycles P hp' k
  have d1 := x_ctype P hp' k h
  have d2 := x_order P hp k h
  have d3 := x_sign P hp' k h
  have t0 := x_told (tab0 A) d0
  have t1 := x_told (tab1 ok) d1
  have t2 := x_told (tab2 ok) d2
  have t3 := x_told (tab3 ok) d3
  have dl := dips_len h.ne
  rw [h.all.length_eq, List.length_range] at dl
  have s0 : Sm 4 (.tup (C.map row)) := sm_rows 1 (by omega) (fun c hc => by
    have s : c.length ≤ C.flatten.length := (List.sublist_flatten_of_mem hc).length_le
    rw [h.all.length_eq, List.length_range] at s
    omega)
  have s1 : Sm 4 (.tup ((down (lens C)).map D.int)) := sm_ints 2 (by
    have : (down (lens C)).length = C.length := by simp [down, lens]
    omega)
  have s2 : Sm 4 (dI (ordN C)) := sm_int 3 _
  have s3 : Sm 4 (.int (sg p)) := sm_int 3 _
  -- the order
  obtain ⟨c', hc', e2⟩ := ord_loop (bb := bOrd2) (fun a b x rest ha hb h0 => bOrd2_eq x rest ha hb h0) (.val (row p)) [.no, .no, .no, .no] l 1 0 .no (fun _ _ z => by cases z) hl (by omega) (by omega) (by omega)
  rw [← ordN_eq e] at e2
  have f1 : mFor (mIt (mCall m_f__law_type 1 (mCons (mFrz (mVar 0)) mNil))) (gtN 2) bOrd2 [.val (row p), .val (dI 1), .no, .no, .no, .no, .no] = .nx [.val (row p), .val (dI (ordN C)), c', .no, .no, .no, .no] := by
    unfold mFor mIt
    rw [frz_d (call_row (x_type P hp' k h)), e]
    exact e2
  -- the sign
  have f2 : mSet 3 (mOp dSub (mC (.int 1)) (mOp dMul (mC (.int 2)) (mOp dMod (mCB bInt (mCons (mCall m_f__law_turns 1 (mCons (mFrz (mVar 0)) mNil)) mNil)) (mC (.int 2))))) [.val (row p), .val (dI (ordN C)), c', .no, .no, .no, .no] = .nx [.val (row p), .val (dI (ordN C)), c', .val (.int (sg p)), .no, .no, .no] := by
    have g1 := cb_ok (f := bInt) (cons_ok (call_row (cs := [.val (dI (ordN C)), c', .no, .no, .no, .no]) (x_turns hp')) (nil_ok _)) rfl (ev := .d (dI (inv p))) rfl
    have g2 := op_ok (f := dMod) g1 (show mC (.int 2) [.val (row p), .val (dI (ordN C)), c', .no, .no, .no, .no] = .ok (.d (.int 2)) [.val (row p), .val (dI (ordN C)), c', .no, .no, .no, .no] from rfl) rfl rfl (ev := .d (.int ((inv p % 2 : Nat) : Int))) rfl
    have b : mulOk 2 ((inv p % 2 : Nat) : Int) = true := rfl
    have g3 := op_ok (f := dMul) (show mC (.int 2) [.val (row p), .val (dI (ordN C)), c', .no, .no, .no, .no] = .ok (.d (.int 2)) [.val (row p), .val (dI (ordN C)), c', .no, .no, .no, .no] from rfl) g2 rfl rfl (ev := .d (.int (2 * ((inv p % 2 : Nat) : Int)))) rfl
    have g4 := op_ok (f := dSub) (show mC (.int 1) [.val (row p), .val (dI (ordN C)), c', .no, .no, .no, .no] = .ok (.d (.int 1)) [.val (row p), .val (dI (ordN C)), c', .no, .no, .no, .no] from rfl) g3 rfl rfl (ev := .d (.int (sg p))) rfl
    exact (set_ok g4).trans rfl
  -- told, due
  have f3 : mSet 4 (mLst (mCons (mFrz (mCall (m_f__law_told A) 2 (mCons (mFrz (mC (.ref A.f_cycles_of))) (mCons (mFrz (mTup (mCons (mFrz (mVar 0)) mNil))) mNil)))) (mCons (mFrz (mCall (m_f__law_told A) 2 (mCons (mFrz (mC (.ref A.f_cycle_type))) (mCons (mFrz (mTup (mCons (mFrz (mVar 0)) mNil))) mNil)))) (mCons (mFrz (mCall (m_f__law_told A) 2 (mCons (mFrz (mC (.ref A.f_order_of))) (mCons (mFrz (mTup (mCons (mFrz (mVar 0)) mNil))) mNil)))) (mCons (mFrz (mCall (m_f__law_told A) 2 (mCons (mFrz (mC (.ref A.f_sign_of))) (mCons (mFrz (mTup (mCons (mFrz (mVar 0)) mNil))) mNil)))) mNil))))) [.val (row p), .val (dI (ordN C)), c', .val (.int (sg p)), .no, .no, .no] =
      .nx [.val (row p), .val (dI (ordN C)), c', .val (.int (sg p)), .own false (.lst [toldD (.tup (C.map row)), toldD (.tup ((down (lens C)).map D.int)), toldD (dI (ordN C)), toldD (.int (sg p))]), .no, .no] := by
    refine (set_ok (e := .new (.lst [toldD (.tup (C.map row)), toldD (.tup ((down (lens C)).map D.int)), toldD (dI (ordN C)), toldD (.int (sg p))])) (ρ1 := [.val (row p), .val (dI (ordN C)), c', .val (.int (sg p)), .no, .no, .no]) ?_).trans rfl
    unfold mLst
    rw [cons_ok (told_call t0) (cons_ok (told_call t1) (cons_ok (told_call t2) (cons_ok (told_call t3) (nil_ok _))))]
    rfl
  have f4 : mSet 5 (mLst (mCons (mFrz (mCall m_f__law_cycles 1 (mCons (mFrz (mVar 0)) mNil))) (mCons (mFrz (mCall m_f__law_type 1 (mCons (mFrz (mVar 0)) mNil))) (mCons (mFrz (mVar 1)) (mCons (mFrz (mVar 3)) mNil))))) [.val (row p), .val (dI (ordN C)), c', .val (.int (sg p)), .own false (.lst [toldD (.tup (C.map row)), toldD (.tup ((down (lens C)).map D.int)), toldD (dI (ordN C)), toldD (.int (sg p))]), .no, .no] =
      .nx [.val (row p), .val (dI (ordN C)), c', .val (.int (sg p)), .own false (.lst [toldD (.tup (C.map row)), toldD (.tup ((down (lens C)).map D.int)), toldD (dI (ordN C)), toldD (.int (sg p))]), .own false (.lst [.tup (C.map row), .tup ((down (lens C)).map D.int), dI (ordN C), .int (sg p)]), .no] := by
    refine (set_ok (e := .new (.lst [.tup (C.map row), .tup ((down (lens C)).map D.int), dI (ordN C), .int (sg p)])) (ρ1 := [.val (row p), .val (dI (ordN C)), c', .val (.int (sg p)), .own false (.lst [toldD (.tup (C.map row)), toldD (.tup ((down (lens C)).map D.int)), toldD (dI (ordN C)), toldD (.int (sg p))]), .no, .no]) ?_).trans rfl
    unfold mLst
    rw [cons_ok (frz_d (call_row (x_law_cycles P hp' k))) (cons_ok (frz_d (call_row (x_type P hp' k h))) (cons_ok (m := mFrz (mVar 1)) (e := .d (dI (ordN C))) rfl (cons_ok (m := mFrz (mVar 3)) (e := .d (.int (sg p))) rfl (nil_ok _))))]
    rfl
  have f5 : mLc (mRng1 (mC (.int 4))) [6] (gtN 6) mYes (mCall m_f__law_is_told 2 (mCons (mFrz (mOp dIx (mVar 4) (mVar 6))) (mCons (mFrz (mOp dIx (mVar 5) (mVar 6))) mNil))) [.val (row p), .val (dI (ordN C)), c', .val (.int (sg p)), .own false (.lst [toldD (.tup (C.map row)), toldD (.tup ((down (lens C)).map D.int)), toldD (dI (ordN C)), toldD (.int (sg p))]), .own false (.lst [.tup (C.map row), .tup ((down (lens C)).map D.int), dI (ordN C), .int (sg p)]), .no] =
      .ok (.new (.lst ((rngD 0 4).map fun _ => D.bl true))) [.val (row p), .val (dI (ordN C)), c', .val (.int (sg p)), .own false (.lst [toldD (.tup (C.map row)), toldD (.tup ((down (lens C)).map D.int)), toldD (dI (ordN C)), toldD (.int (sg p))]), .own false (.lst [.tup (C.map row), .tup ((down (lens C)).map D.int), dI (ordN C), .int (sg p)]), .no] := by
    refine lc_map (fun _ => D.bl true) rfl rfl (by decide) (fun d hd => ?_)
    have one : ∀ (i : Int) (r : D), Sm 4 r → dIx (.lst [toldD (.tup (C.map row)), toldD (.tup ((down (lens C)).map D.int)), toldD (dI (ordN C)), toldD (.int (sg p))]) (.int i) = some (.d (toldD r)) → dIx (.lst [.tup (C.map row), .tup ((down (lens C)).map D.int), dI (ordN C), .int (sg p)]) (.int i) = some (.d r) →
        mFrz (mCall m_f__law_is_told 2 (mCons (mFrz (mOp dIx (mVar 4) (mVar 6))) (mCons (mFrz (mOp dIx (mVar 5) (mVar 6))) mNil))) [.val (row p), .val (dI (ordN C)), c', .val (.int (sg p)), .own false (.lst [toldD (.tup (C.map row)), toldD (.tup ((down (lens C)).map D.int)), toldD (dI (ordN C)), toldD (.int (sg p))]), .own false (.lst [.tup (C.map row), .tup ((down (lens C)).map D.int), dI (ordN C), .int (sg p)]), .val (.int i)] =
        .ok (.d (.bl true)) [.val (row p), .val (dI (ordN C)), c', .val (.int (sg p)), .own false (.lst [toldD (.tup (C.map row)), toldD (.tup ((down (lens C)).map D.int)), toldD (dI (ordN C)), toldD (.int (sg p))]), .own false (.lst [.tup (C.map row), .tup ((down (lens C)).map D.int), dI (ordN C), .int (sg p)]), .val (.int i)] := fun i r hr q1 q2 => by
      refine frz_d ?_
      rw [call2 (d := toldD r) (ρ1 := [.val (row p), .val (dI (ordN C)), c', .val (.int (sg p)), .own false (.lst [toldD (.tup (C.map row)), toldD (.tup ((down (lens C)).map D.int)), toldD (dI (ordN C)), toldD (.int (sg p))]), .own false (.lst [.tup (C.map row), .tup ((down (lens C)).map D.int), dI (ordN C), .int (sg p)]), .val (.int i)])
        (frz_d (op_ok (m := mVar 4) (n := mVar 6) (e := .slot 4) (e' := .d (.int i)) rfl rfl rfl rfl q1)) (e := r) (frz_d (op_ok (m := mVar 5) (n := mVar 6) (e := .slot 5) (e' := .d (.int i)) rfl rfl rfl rfl q2)), x_is_told hr]
      rfl
    have hd' : d = .int 0 ∨ d = .int 1 ∨ d = .int 2 ∨ d = .int 3 := by
      obtain ⟨j, hj, rfl⟩ := List.mem_map.mp hd
      have hj := List.mem_range.mp hj
      have : j = 0 ∨ j = 1 ∨ j = 2 ∨ j = 3 := by omega
      rcases this with rfl | rfl | rfl | rfl <;> simp
    rcases hd' with rfl | rfl | rfl | rfl
    · exact one 0 _ s0 rfl rfl
    · exact one 1 _ s1 rfl rfl
    · exact one 2 _ s2 rfl rfl
    · exact one 3 _ s3 rfl rfl
  have f6 := cb_ok (f := bAll) (cons_ok f5 (nil_ok _)) rfl (all_true (rngD 0 4))
  exact call_rt (e := .d (.bl true)) (cs := [.val (row p)]) ((seq_nx (m := mSet 1 (mC (.int 1))) (ρ1 := [.val (row p), .val (dI 1), .no, .no, .no, .no, .no]) rfl).trans ((seq_nx f1).trans ((seq_nx f2).trans ((seq_nx f3).trans ((seq_nx f4).trans (ret_ok f6)))))) (fun i z => by cases z)

/-! ### the law -/
theorem sg_mul {p q : List Nat} (P : IsP p) (Q : IsP q) (e : p.length = q.length) : sg (p.map (pf q)) = sg p * sg q := by
  have h := inv_mul P Q e
  unfold sg
  rw [h]
  rcases Nat.mod_two_eq_zero_or_one (inv p) with a | a <;> rcases Nat.mod_two_eq_zero_or_one (inv q) with b | b
  · rw [a, b, show (inv p + inv q) % 2 = 0 from by omega]; rfl
  · rw [a, b, show (inv p + inv q) % 2 = 1 from by omega]; rfl
  · rw [a, b, show (inv p + inv q) % 2 = 1 from by omega]; rfl
  · rw [a, b, show (inv p + inv q) % 2 = 0 from by omega]; rfl
theorem isP_range (n : Nat) : IsP (List.range n) ∧ (List.range n).length = n := isP_of (.refl _)
def bBad (A : Adr) : Rho → Out := mFor (mIt (mTup (mCons (mFrz (mC (.ref A.f_cycles_of))) (mCons (mFrz (mC (.ref A.f_cycle_type))) (mCons (mFrz (mC (.ref A.f_order_of))) (mCons (mFrz (mC (.ref A.f_sign_of))) mNil)))))) (gtN 6) (mIfS (mNotT (mTru (mCall m_f__law_is_raised 2 (mCons (mFrz (mCall (m_f__law_told A) 2 (mCons (mFrz (mVar 6)) (mCons (mFrz (mTup (mCons (mFrz (mVar 3)) mNil))) mNil)))) (mCons (mFrz (mC (.str "malformed"))) mNil))))) (mRet (mC (.bl false))) mNext)
theorem bad_one {A : Adr} {f : Addr} {x : D} (h : m_f__law_told A [.val (.ref f), .val (.tup [x])] = .ok (.d raisD) [.no, .no]) (c0 c1 c2 c4 c5 : Cell) : mIfS (mNotT (mTru (mCall m_f__law_is_raised 2 (mCons (mFrz (mCall (m_f__law_told A) 2 (mCons (mFrz (mVar 6)) (mCons (mFrz (mTup (mCons (mFrz (mVar 3)) mNil))) mNil)))) (mCons (mFrz (mC (.str "malformed"))) mNil))))) (mRet (mC (.bl false))) mNext [c0, c1, c2, .val x, c4, c5, .val (.ref f)] = .nx [c0, c1, c2, .val x, c4, c5, .val (.ref f)] := by
  have e1 : mCall (m_f__law_told A) 2 (mCons (mFrz (mVar 6)) (mCons (mFrz (mTup (mCons (mFrz (mVar 3)) mNil))) mNil)) [c0, c1, c2, .val x, c4, c5, .val (.ref f)] = .ok (.d raisD) [c0, c1, c2, .val x, c4, c5, .val (.ref f)] := by
    rw [call2 (d := .ref f) (ρ1 := [c0, c1, c2, .val x, c4, c5, .val (.ref f)]) rfl (e := .tup [x]) (ρ2 := [c0, c1, c2, .val x, c4, c5, .val (.ref f)]) rfl, h]; rfl
  have e2 : mCall m_f__law_is_raised 2 (mCons (mFrz (mCall (m_f__law_told A) 2 (mCons (mFrz (mVar 6)) (mCons (mFrz (mTup (mCons (mFrz (mVar 3)) mNil))) mNil)))) (mCons (mFrz (mC (.str "malformed"))) mNil)) [c0, c1, c2, .val x, c4, c5, .val (.ref f)] = .ok (.d (.bl true)) [c0, c1, c2, .val x, c4, c5, .val (.ref f)] := by
    rw [call2 (n := mC (.str "malformed")) (frz_d e1) (e := .str "malformed") (ρ2 := [c0, c1, c2, .val x, c4, c5, .val (.ref f)]) rfl, x_is_raised]; rfl
  unfold mIfS
  have e3 : mNotT (mTru (mCall m_f__law_is_raised 2 (mCons (mFrz (mCall (m_f__law_told A) 2 (mCons (mFrz (mVar 6)) (mCons (mFrz (mTup (mCons (mFrz (mVar 3)) mNil))) mNil)))) (mCons (mFrz (mC (.str "malformed"))) mNil)))) [c0, c1, c2, .val x, c4, c5, .val (.ref f)] = .ok false [c0, c1, c2, .val x, c4, c5, .val (.ref f)] := by
    show (R.bind (R.bind (mCall _ _ _ _) _) _) = _
    rw [e2]; rfl
  rw [e3]; rfl
theorem put6 {c : Cell} {d : D} (h : Clear c) (c0 c1 c2 c3 c4 c5 : Cell) : gtN 6 d [c0, c1, c2, c3, c4, c5, c] = some [c0, c1, c2, c3, c4, c5, .val d] := put_clear h _ _ _ _ _ _
theorem bBad_eq {A : Adr} (ok : TabOk A) {x : D} (h : m_f_is_permutation [.val x] = .ok (.d (.bl false)) [.no]) (c0 c1 c2 c4 c5 : Cell) {c6 : Cell} (h6 : Clear c6) : bBad A [c0, c1, c2, .val x, c4, c5, c6] = .nx [c0, c1, c2, .val x, c4, c5, .val (.ref A.f_sign_of)] := by
  have i : mIt (mTup (mCons (mFrz (mC (.ref A.f_cycles_of))) (mCons (mFrz (mC (.ref A.f_cycle_type))) (mCons (mFrz (mC (.ref A.f_order_of))) (mCons (mFrz (mC (.ref A.f_sign_of))) mNil))))) [c0, c1, c2, .val x, c4, c5, c6] = .ok [.ref A.f_cycles_of, .ref A.f_cycle_type, .ref A.f_order_of, .ref A.f_sign_of] [c0, c1, c2, .val x, c4, c5, c6] := rfl
  have cl : ∀ f : Addr, Clear (.val (.ref f)) := fun f _ _ z => by cases z
  unfold bBad mFor
  rw [i, out_ok, forL_cons (put6 h6 _ _ _ _ _ _) (bad_one (x_raised (tab0 A) (bad_cycles h)) _ _ _ _ _), forL_cons (put6 (cl _) _ _ _ _ _ _) (bad_one (x_raised (tab1 ok) (bad_type h)) _ _ _ _ _), forL_cons (put6 (cl _) _ _ _ _ _ _) (bad_one (x_raised (tab2 ok) (bad_order h)) _ _ _ _ _), forL_cons (put6 (cl _) _ _ _ _ _ _) (bad_one (x_raised (tab3 ok) (bad_sign h)) _ _ _ _ _)]
  rfl
theorem put3' {c : Cell} {d : D} (h : Clear c) (c0 c1 c2 c4 c5 c6 : Cell) : gtN 3 d [c0, c1, c2, c, c4, c5, c6] = some [c0, c1, c2, .val d, c4, c5, c6] := by
  cases c with
  | own b o => exact (h _ _ rfl).elim
  | no => rfl
  | val d => rfl
theorem bads {A : Adr} (ok : TabOk A) (c0 c1 c2 c4 c5 : Cell) : ∀ (xs : List D), (∀ x ∈ xs, m_f_is_permutation [.val x] = .ok (.d (.bl false)) [.no]) → ∀ (c3 c6 : Cell), Clear c3 → Clear c6 → ∃ c3' c6', forL (gtN 3) (bBad A) xs [c0, c1, c2, c3, c4, c5, c6] = .nx [c0, c1, c2, c3', c4, c5, c6']
  | [], _, c3, c6, _, _ => ⟨c3, c6, rfl⟩
  | x :: xs, h, c3, c6, h3, h6 => by
    obtain ⟨c3', c6', e⟩ := bads ok c0 c1 c2 c4 c5 xs (fun y hy => h y (List.mem_cons_of_mem _ hy)) (.val x) (.val (.ref A.f_sign_of)) (fun _ _ z => by cases z) (fun _ _ z => by cases z)
    exact ⟨c3', c6', by rw [forL_cons (put3' h3 _ _ _ _ _ _) (bBad_eq ok (h x (by simp)) _ _ _ _ _ h6)]; exact e⟩
theorem takeL {a b : Int} {M : Int} (h0 : 0 < M) (h1 : M < 1073741824) (c0 : Cell) (rest : List Cell) : ∃ (v a' b' : Int), 0 ≤ v ∧ v < M ∧ mCall m_f__law_take 2 (mCons (mVar 1) (mCons (mFrz (mC (.int M))) mNil)) (c0 :: .own false (stt a b) :: rest) = .ok (.d (.int v)) (c0 :: .own false (stt a' b') :: rest) := by
  obtain ⟨v, a', b', t, v0, v1⟩ := x_take a b M h0 h1
  exact ⟨v, a', b', v0, v1, callB (j := 1) (o := stt a b) (o' := stt a' b') (d := .int M) rfl rfl t⟩
end K05
end

set_option Elab.async false
set_option linter.all false
set_option maxRecDepth 100000
set_option autoImplicit false
noncomputable section
namespace K05
open PySem L2 Mi
theorem law_n (a b : Int) (c0 : Cell) : ∃ (n : Nat) (a' b' : Int), n ≤ 60 ∧
    mSet 2 (mOp dIx (mLst (mCons (mFrz (mCall m_f__law_take 2 (mCons (mVar 1) (mCons (mFrz (mC (.int 8))) mNil)))) (mCons (mFrz (mCall m_f__law_take 2 (mCons (mVar 1) (mCons (mFrz (mC (.int 25))) mNil)))) (mCons (mFrz (mOp dSub (mC (.int 60)) (mCall m_f__law_take 2 (mCons (mVar 1) (mCons (mFrz (mC (.int 5))) mNil))))) mNil)))) (mCall m_f__law_take 2 (mCons (mVar 1) (mCons (mFrz (mC (.int 3))) mNil)))) [c0, .own false (stt a b), .no, .no, .no, .no, .no] = .nx [c0, .own false (stt a' b'), .val (dI n), .no, .no, .no, .no] := by
  obtain ⟨v1, a1, b1, p1, q1, t1⟩ := takeL (a := a) (b := b) (M := 8) (by omega) (by omega) c0 [.no, .no, .no, .no, .no]
  obtain ⟨v2, a2, b2, p2, q2, t2⟩ := takeL (a := a1) (b := b1) (M := 25) (by omega) (by omega) c0 [.no, .no, .no, .no, .no]
  obtain ⟨v3, a3, b3, p3, q3, t3⟩ := takeL (a := a2) (b := b2) (M := 5) (by omega) (by omega) c0 [.no, .no, .no, .no, .no]
  obtain ⟨v4, a4, b4, p4, q4, t4⟩ := takeL (a := a3) (b := b3) (M := 3) (by omega) (by omega) c0 [.no, .no, .no, .no, .no]
  have e3 : mOp dSub (mC (.int 60)) (mCall m_f__law_take 2 (mCons (mVar 1) (mCons (mFrz (mC (.int 5))) mNil))) [c0, .own false (stt a2 b2), .no, .no, .no, .no, .no] = .ok (.d (.int (60 - v3))) [c0, .own false (stt a3 b3), .no, .no, .no, .no, .no] :=
    op_ok (m := mC (.int 60)) (e := .d (.int 60)) (ρ1 := [c0, .own false (stt a2 b2), .no, .no, .no, .no, .no]) rfl t3 rfl rfl rfl
  have e4 : mLst (mCons (mFrz (mCall m_f__law_take 2 (mCons (mVar 1) (mCons (mFrz (mC (.int 8))) mNil)))) (mCons (mFrz (mCall m_f__law_take 2 (mCons (mVar 1) (mCons (mFrz (mC (.int 25))) mNil)))) (mCons (mFrz (mOp dSub (mC (.int 60)) (mCall m_f__law_take 2 (mCons (mVar 1) (mCons (mFrz (mC (.int 5))) mNil))))) mNil))) [c0, .own false (stt a b), .no, .no, .no, .no, .no] = .ok (.new (.lst [.int v1, .int v2, .int (60 - v3)])) [c0, .own false (stt a3 b3), .no, .no, .no, .no, .no] := by
    unfold mLst
    rw [cons_ok (frz_d t1) (cons_ok (frz_d t2) (cons_ok (frz_d e3) (nil_ok _)))]
    rfl
  obtain ⟨n, hn, e5⟩ : ∃ n : Nat, n ≤ 60 ∧ dIx (.lst [.int v1, .int v2, .int (60 - v3)]) (.int v4) = some (.d (dI n)) := by
    have : v4 = 0 ∨ v4 = 1 ∨ v4 = 2 := by omega
    rcases this with rfl | rfl | rfl
    · exact ⟨v1.toNat, by omega, by rw [dI, Int.toNat_of_nonneg p1]; rfl⟩
    · exact ⟨v2.toNat, by omega, by rw [dI, Int.toNat_of_nonneg p2]; rfl⟩
    · exact ⟨(60 - v3).toNat, by omega, by rw [dI, Int.toNat_of_nonneg (by omega)]; rfl⟩
  exact ⟨n, a4, b4, hn, (set_ok (op_ok e4 t4 rfl rfl e5)).trans rfl⟩
theorem call_at {f : List Cell → CR} {i : Nat} {x r : D} {o : List Cell} {ρ : Rho} (hi : mVar i ρ = .ok (.d x) ρ) (h : f [.val x] = .ok (.d r) o) : mCall f 1 (mCons (mFrz (mVar i)) mNil) ρ = .ok (.d r) ρ := by
  rw [call1 (frz_d hi), h]; rfl
theorem not_true {m : Rho → R EV} {ρ : Rho} (h : m ρ = .ok (.d (.bl true)) ρ) : mNotT (mTru m) ρ = .ok false ρ := by
  unfold mNotT mTru
  rw [h]; rfl
theorem or_false {m k : Rho → R Bool} {ρ : Rho} {b : Bool} (h : m ρ = .ok false ρ) (h2 : k ρ = .ok b ρ) : mOrT m k ρ = .ok b ρ := by
  unfold mOrT
  rw [h, bind_ok]; exact h2
theorem if_next {c : Rho → R Bool} {m : Rho → Out} {ρ : Rho} (h : c ρ = .ok false ρ) : mIfS c m mNext ρ = .nx ρ := by
  unfold mIfS
  rw [h]; rfl
theorem law_math (A : Adr) (ok : TabOk A) (ns : List Int) (hl : ns.length ≤ 63) : m_f_law A [.val (.lst (ns.map D.int))] = .ok (.d (.bl true)) [.no] := by
  obtain ⟨a, b, s1⟩ := x_state ns
  have f1 : mSet 1 (mCall m_f__law_state 1 (mCons (mFrz (mVar 0)) mNil)) [.val (.lst (ns.map D.int)), .no, .no, .no, .no, .no, .no] = .nx [.val (.lst (ns.map D.int)), .own false (stt a b), .no, .no, .no, .no, .no] := by
    refine (set_ok (e := .new (stt a b)) (ρ1 := [.val (.lst (ns.map D.int)), .no, .no, .no, .no, .no, .no]) ?_).trans rfl
    rw [call1 (d := .lst (ns.map D.int)) (ρ1 := [.val (.lst (ns.map D.int)), .no, .no, .no, .no, .no, .no]) rfl, s1]; rfl
  obtain ⟨n, a2, b2, hn, f2⟩ := law_n a b (.val (.lst (ns.map D.int)))
  obtain ⟨p, a3, b3, s3, P, lp⟩ := x_made a2 b2 n (by omega)
  obtain ⟨q, a4, b4, s4, Q, lq⟩ := x_drawn a3 b3 n (by omega)
  have f3 : mPar 4 5 (mCall m_f__law_made 2 (mCons (mVar 1) (mCons (mFrz (mVar 2)) mNil))) (mCall m_f__law_drawn 2 (mCons (mVar 1) (mCons (mFrz (mVar 2)) mNil))) [.val (.lst (ns.map D.int)), .own false (stt a2 b2), .val (dI n), .no, .no, .no, .no] = .nx [.val (.lst (ns.map D.int)), .own false (stt a4 b4), .val (dI n), .no, .val (row p), .val (row q), .no] := by
    have g1 : mCall m_f__law_made 2 (mCons (mVar 1) (mCons (mFrz (mVar 2)) mNil)) [.val (.lst (ns.map D.int)), .own false (stt a2 b2), .val (dI n), .no, .no, .no, .no] = .ok (.d (row p)) [.val (.lst (ns.map D.int)), .own false (stt a3 b3), .val (dI n), .no, .no, .no, .no] :=
      callB (j := 1) (o := stt a2 b2) (o' := stt a3 b3) (d := dI n) rfl rfl s3
    have g2 : mCall m_f__law_drawn 2 (mCons (mVar 1) (mCons (mFrz (mVar 2)) mNil)) [.val (.lst (ns.map D.int)), .own false (stt a3 b3), .val (dI n), .no, .no, .no, .no] = .ok (.d (row q)) [.val (.lst (ns.map D.int)), .own false (stt a4 b4), .val (dI n), .no, .no, .no, .no] :=
      callB (j := 1) (o := stt a3 b3) (o' := stt a4 b4) (d := dI n) rfl rfl s4
    unfold mPar
    rw [g1, out_ok, g2]; rfl
  generalize hρ : [Cell.val (.lst (ns.map D.int)), .own false (stt a4 b4), .val (dI n), .no, .val (row p), .val (row q), .no] = ρ
  have v2 : mVar 2 ρ = .ok (.d (dI n)) ρ := by subst hρ; rfl
  have v4 : mVar 4 ρ = .ok (.d (row p)) ρ := by subst hρ; rfl
  have v5 : mVar 5 ρ = .ok (.d (row q)) ρ := by subst hρ; rfl
  have lpq : p.length = q.length := by omega
  have PQ := isP_mul P Q lpq
  have hpq : (p.map (pf q)).length ≤ 60 := by rw [List.length_map]; omega
  obtain ⟨PR, lr⟩ := isP_range n
  have lt : ∀ x ∈ p, x < q.length := fun x hx => lpq ▸ P.lt x hx
  have c1 := not_true (call_at v4 (x_holds ok P (by omega)))
  have c2 := not_true (call_at v5 (x_holds ok Q (by omega)))
  have t3 : mCall m_f__law_times 2 (mCons (mFrz (mVar 4)) (mCons (mFrz (mVar 5)) mNil)) ρ = .ok (.d (row (p.map (pf q)))) ρ := by
    rw [call2 (frz_d v4) (frz_d v5), x_times lt (by omega)]; rfl
  have c3 : mNotT (mTru (mCall (m_f__law_holds A) 1 (mCons (mFrz (mCall m_f__law_times 2 (mCons (mFrz (mVar 4)) (mCons (mFrz (mVar 5)) mNil)))) mNil))) ρ = .ok false ρ := by
    refine not_true ?_
    rw [call1 (frz_d t3), x_holds ok PQ hpq]; rfl
  have t4 : mTupRg1 (mVar 2) ρ = .ok (.d (row (List.range n))) ρ := by
    have h1 : (n : Int) ≤ 1000000 := by omega
    have h2 : (-1000000 : Int) ≤ n := by omega
    unfold mTupRg1 mRng1
    rw [v2]
    simp [dI, rngOk, h1, h2, rng_eq, row]
  have c4 : mNotT (mTru (mCall (m_f__law_holds A) 1 (mCons (mFrz (mTupRg1 (mVar 2))) mNil))) ρ = .ok false ρ := by
    refine not_true ?_
    rw [call1 (frz_d t4), x_holds ok PR (by omega)]; rfl
  have f4 := if_next (m := mRet (mC (.bl false))) (or_false c1 (or_false c2 (or_false c3 c4)))
  -- signs multiply
  obtain ⟨Cp, kp, hp⟩ := cycs P
  obtain ⟨Cq, kq, hq⟩ := cycs Q
  obtain ⟨Cr, kr, hr⟩ := cycs PQ
  have g1 : mCall m_f_product_of 2 (mCons (mFrz (mVar 4)) (mCons (mFrz (mVar 5)) mNil)) ρ = .ok (.d (row (p.map (pf q)))) ρ := by
    rw [call2 (frz_d v4) (frz_d v5), x_product P Q lpq (by omega)]; rfl
  have g2 : mCall m_f_sign_of 1 (mCons (mFrz (mCall m_f_product_of 2 (mCons (mFrz (mVar 4)) (mCons (mFrz (mVar 5)) mNil)))) mNil) ρ = .ok (.d (.int (sg (p.map (pf q))))) ρ := by
    rw [call1 (frz_d g1), x_sign PQ (by omega) kr hr]; rfl
  have sgb : ∀ r : List Nat, sg r = 1 ∨ sg r = -1 := fun r => by
    unfold sg
    rcases Nat.mod_two_eq_zero_or_one (inv r) with z | z
    · rw [z]; exact .inl rfl
    · rw [z]; exact .inr rfl
  have mo : mulOk (sg p) (sg q) = true := by
    rcases sgb p with z | z <;> rw [z] <;> rfl
  have g3 := op_ok (f := dMul) (call_at v4 (x_sign P (by omega) kp hp)) (call_at v5 (x_sign Q (by omega) kq hq)) rfl rfl (ev := .d (.int (sg p * sg q))) (by simp [dMul, dI2c, mo])
  have g4 := op_ok (f := dNe) g2 g3 rfl rfl (ev := .d (.bl false)) (by simp [dNe, eqD, sg_mul P Q lpq])
  have f5 := if_next (c := mTst (mOp dNe (mCall m_f_sign_of 1 (mCons (mFrz (mCall m_f_product_of 2 (mCons (mFrz (mVar 4)) (mCons (mFrz (mVar 5)) mNil)))) mNil)) (mOp dMul (mCall m_f_sign_of 1 (mCons (mFrz (mVar 4)) mNil)) (mCall m_f_sign_of 1 (mCons (mFrz (mVar 5)) mNil))))) (m := mRet (mC (.bl false))) (ρ := ρ) (by
    unfold mTst
    rw [g4]; rfl)
  -- values that are no permutations
  obtain ⟨x4, hx4, k4⟩ : ∃ x4 : D, mIfE (mTst (mOp dGt (mVar 2) (mC (.int 0)))) (mOp dAdd (mVar 4) (mTup (mCons (mFrz (mC (.int 0))) mNil))) (mTup (mCons (mFrz (mC (.int 1))) mNil)) ρ = .ok (.d x4) ρ ∧ m_f_is_permutation [.val x4] = .ok (.d (.bl false)) [.no] := by
    have t : mTst (mOp dGt (mVar 2) (mC (.int 0))) ρ = .ok (decide ((0 : Int) < n)) ρ := by
      unfold mTst
      rw [op_ok (f := dGt) v2 (show mC (.int 0) ρ = .ok (.d (.int 0)) ρ from rfl) rfl rfl (ev := .d (.bl (decide ((0 : Int) < n)))) rfl]; rfl
    by_cases c : 0 < n
    · rw [decide_eq_true (show (0 : Int) < n by omega)] at t
      have m0 : (0 : Nat) ∈ p := P.perm.mem_iff.mpr (List.mem_range.mpr (by omega))
      refine ⟨.tup (p.map dI ++ [.int 0]), ?_, x_perm_bad (fun y hy => by have := P.lt y hy; omega) P.nd (by omega) (show Bad (p.length + 1) p (.int 0) from Or.inr (Or.inr ⟨0, rfl, by omega, m0⟩))⟩
      unfold mIfE
      rw [t]
      refine op_ok (f := dAdd) v4 (show mTup (mCons (mFrz (mC (.int 0))) mNil) ρ = .ok (.d (.tup [.int 0])) ρ from rfl) rfl rfl ?_
      have : p.length + 1 ≤ 1000000 := by omega
      simp [row, dAdd, szOk, this]
    · rw [decide_eq_false (show ¬ (0 : Int) < n by omega)] at t
      refine ⟨.tup ([].map dI ++ [.int 1]), ?_, x_perm_bad (l := []) (x := .int 1) (fun y hy => by cases hy) (by simp) (by simp) (show Bad 1 [] (.int 1) from Or.inr (Or.inl (by simp)))⟩
      unfold mIfE
      rw [t]; rfl
  have hx5 : mOp dAdd (mVar 4) (mTup (mCons (mFrz (mOp dAdd (mVar 2) (mC (.int 1)))) mNil)) ρ = .ok (.d (.tup (p.map dI ++ [.int ((n : Int) + 1)]))) ρ := by
    have u : mTup (mCons (mFrz (mOp dAdd (mVar 2) (mC (.int 1)))) mNil) ρ = .ok (.d (.tup [.int ((n : Int) + 1)])) ρ := by
      unfold mTup
      rw [cons_ok (frz_d (op_ok (f := dAdd) v2 (show mC (.int 1) ρ = .ok (.d (.int 1)) ρ from rfl) rfl rfl (ev := .d (.int ((n : Int) + 1))) rfl)) (nil_ok _)]
      rfl
    refine op_ok (f := dAdd) v4 u rfl rfl ?_
    have : p.length + 1 ≤ 1000000 := by omega
    simp [row, dAdd, szOk, this]
  have k5 : m_f_is_permutation [.val (.tup (p.map dI ++ [.int ((n : Int) + 1)]))] = .ok (.d (.bl false)) [.no] :=
    x_perm_bad (fun y hy => by have := P.lt y hy; omega) P.nd (by omega) (show Bad (p.length + 1) p (.int ((n : Int) + 1)) from Or.inr (Or.inl (by omega)))
  have k6 : m_f_is_permutation [.val (.tup [.bl true])] = .ok (.d (.bl false)) [.no] := x_perm_bad (l := []) (x := .bl true) (fun y hy => by cases hy) (by simp) (by simp) trivial
  have k7 : m_f_is_permutation [.val (.tup [.str "0"])] = .ok (.d (.bl false)) [.no] := x_perm_bad (l := []) (x := .str "0") (fun y hy => by cases hy) (by simp) (by simp) trivial
  have hx3 : mCB bList (mCons (mVar 4) mNil) ρ = .ok (.new (.lst (p.map dI))) ρ := cb_ok (f := bList) (cons_ok v4 (nil_ok _)) (ds := [row p]) rfl rfl
  have it : mIt (mLst (mCons (mFrz (mC .non)) (mCons (mFrz (mC (.int 5))) (mCons (mFrz (mCB bList (mCons (mVar 4) mNil))) (mCons (mFrz (mIfE (mTst (mOp dGt (mVar 2) (mC (.int 0)))) (mOp dAdd (mVar 4) (mTup (mCons (mFrz (mC (.int 0))) mNil))) (mTup (mCons (mFrz (mC (.int 1))) mNil)))) (mCons (mFrz (mOp dAdd (mVar 4) (mTup (mCons (mFrz (mOp dAdd (mVar 2) (mC (.int 1)))) mNil)))) (mCons (mFrz (mTup (mCons (mFrz (mC (.bl true))) mNil))) (mCons (mFrz (mTup (mCons (mFrz (mC (.str "0"))) mNil))) mNil)))))))) ρ =
      .ok [.non, .int 5, .lst (p.map dI), x4, .tup (p.map dI ++ [.int ((n : Int) + 1)]), .tup [.bl true], .tup [.str "0"]] ρ := by
    have l : mLst (mCons (mFrz (mC .non)) (mCons (mFrz (mC (.int 5))) (mCons (mFrz (mCB bList (mCons (mVar 4) mNil))) (mCons (mFrz (mIfE (mTst (mOp dGt (mVar 2) (mC (.int 0)))) (mOp dAdd (mVar 4) (mTup (mCons (mFrz (mC (.int 0))) mNil))) (mTup (mCons (mFrz (mC (.int 1))) mNil)))) (mCons (mFrz (mOp dAdd (mVar 4) (mTup (mCons (mFrz (mOp dAdd (mVar 2) (mC (.int 1)))) mNil)))) (mCons (mFrz (mTup (mCons (mFrz (mC (.bl true))) mNil))) (mCons (mFrz (mTup (mCons (mFrz (mC (.str "0"))) mNil))) mNil))))))) ρ =
        .ok (.new (.lst [.non, .int 5, .lst (p.map dI), x4, .tup (p.map dI ++ [.int ((n : Int) + 1)]), .tup [.bl true], .tup [.str "0"]])) ρ := by
      unfold mLst
      rw [cons_ok (m := mFrz (mC .non)) (e := .d .non) (ρ1 := ρ) rfl (cons_ok (m := mFrz (mC (.int 5))) (e := .d (.int 5)) (ρ1 := ρ) rfl (cons_ok (frz_n hx3) (cons_ok (frz_d hx4) (cons_ok (frz_d hx5) (cons_ok (m := mFrz (mTup (mCons (mFrz (mC (.bl true))) mNil))) (e := .d (.tup [.bl true])) (ρ1 := ρ) rfl (cons_ok (m := mFrz (mTup (mCons (mFrz (mC (.str "0"))) mNil))) (e := .d (.tup [.str "0"])) (ρ1 := ρ) rfl (nil_ok _)))))))]
      rfl
    unfold mIt
    rw [frz_n l]; rfl
  obtain ⟨c3', c6', f6⟩ := bads ok (.val (.lst (ns.map D.int))) (.own false (stt a4 b4)) (.val (dI n)) (.val (row p)) (.val (row q)) [.non, .int 5, .lst (p.map dI), x4, .tup (p.map dI ++ [.int ((n : Int) + 1)]), .tup [.bl true], .tup [.str "0"]] (fun x hx => by
    simp only [List.mem_cons, List.not_mem_nil, _root_.or_false] at hx
    rcases hx with rfl | rfl | rfl | rfl | rfl | rfl | rfl
    · exact x_perm_not trivial
    · exact x_perm_not trivial
    · exact x_perm_not trivial
    · exact k4
    · exact k5
    · exact k6
    · exact k7) .no .no (fun _ _ z => by cases z) (fun _ _ z => by cases z)
  have f7 : mFor (mIt (mLst (mCons (mFrz (mC .non)) (mCons (mFrz (mC (.int 5))) (mCons (mFrz (mCB bList (mCons (mVar 4) mNil))) (mCons (mFrz (mIfE (mTst (mOp dGt (mVar 2) (mC (.int 0)))) (mOp dAdd (mVar 4) (mTup (mCons (mFrz (mC (.int 0))) mNil))) (mTup (mCons (mFrz (mC (.int 1))) mNil)))) (mCons (mFrz (mOp dAdd (mVar 4) (mTup (mCons (mFrz (mOp dAdd (mVar 2) (mC (.int 1)))) mNil)))) (mCons (mFrz (mTup (mCons (mFrz (mC (.bl true))) mNil))) (mCons (mFrz (mTup (mCons (mFrz (mC (.str "0"))) mNil))) mNil))))))))) (gtN 3) (bBad A) ρ = .nx [.val (.lst (ns.map D.int)), .own false (stt a4 b4), .val (dI n), c3', .val (row p), .val (row q), c6'] := by
    unfold mFor
    rw [it, out_ok, ← hρ]
    exact f6
  rw [hρ] at f3
  exact call_rt (e := .d (.bl true)) (cs := [.val (.lst (ns.map D.int))]) (ρ := [.val (.lst (ns.map D.int)), .own false (stt a4 b4), .val (dI n), c3', .val (row p), .val (row q), c6']) ((seq_nx f1).trans ((seq_nx f2).trans ((seq_nx f3).trans ((seq_nx f4).trans ((seq_nx f5).trans ((seq_nx f7).trans rfl)))))) (fun i z => by cases z)
end K05
end

set_option Elab.async false
set_option linter.all false
set_option maxRecDepth 100000
set_option autoImplicit false
namespace K05
open PySem L2 Mi
def topS (i : Nat) : Stmt := PySem.Challenge.pw_branchsheets_k05_cycles_types_orders_and.main.body.getD i (.Pass ⟨0, 0, 0, 0⟩)
abbrev s_f_demand : Stmt := topS 6
theorem sc_f_demand : FnScope ["holds", "what"] ["holds", "what"] (defScope s_f_demand) := ⟨rfl, rfl, rfl, by decide +kernel, rfl, by decide +kernel, by decide +kernel⟩
theorem ok_f_demand {P : Program} {w : World} {K : PySem.W.Frag} {mg : Str → Option Value} {base : Heap} {A : Adr} {fd : FuncData} (F : Fun K "demand" "demand" s_f_demand A.f_demand fd) (bi : Binds K fd ["holds", "what"] []) (T : Tx K mg A)  : Df P w K mg base A.xc 1 A.f_demand 2 (m_f_demand) :=
  ⟨⟨fd, ["holds", "what"], rfl, fn_ok F sc_f_demand (by decide) fun cdv AA outer s H E hr =>
    (s_one (s_if (t_not (t_tru (r_var 0))) (s_one (s_raiseM rfl (takes_of rfl rfl rfl rfl) T.malC (by rfl) (a_cons (r_fs2 (by decide) (r_var 1)) a_nil))) s_nil)), bi⟩, F.kp⟩
abbrev s_f_is_integer : Stmt := topS 8
theorem sc_f_is_integer : FnScope ["value"] ["value"] (defScope s_f_is_integer) := ⟨rfl, rfl, rfl, by decide +kernel, rfl, by decide +kernel, by decide +kernel⟩
theorem ok_f_is_integer {P : Program} {w : World} {K : PySem.W.Frag} {mg : Str → Option Value} {base : Heap} {A : Adr} {fd : FuncData} (F : Fun K "is_integer" "is_integer" s_f_is_integer A.f_is_integer fd) (bi : Binds K fd ["value"] []) (T : Tx K mg A)  : Df P w K mg base A.xc 1 A.f_is_integer 1 (m_f_is_integer) :=
  ⟨⟨fd, ["value"], rfl, fn_ok F sc_f_is_integer (by decide) fun cdv AA outer s H E hr =>
    (s_one (s_ret (r_andV (r_isi .int (by rfl) T.n_isinstance (by rfl) T.n_int (r_var 0)) (r_one (r_notV (r_isi .bool (by rfl) T.n_isinstance (by rfl) T.n_bool (r_var 0))))))), bi⟩, F.kp⟩
abbrev s_f_least_common : Stmt := topS 9
theorem sc_f_least_common : FnScope ["a", "b"] ["a", "b"] (defScope s_f_least_common) := ⟨rfl, rfl, rfl, by decide +kernel, rfl, by decide +kernel, by decide +kernel⟩
theorem ok_f_least_common {P : Program} {w : World} {K : PySem.W.Frag} {mg : Str → Option Value} {base : Heap} {A : Adr} {fd : FuncData} (F : Fun K "least_common" "least_common" s_f_least_common A.f_least_common fd) (bi : Binds K fd ["a", "b"] []) (T : Tx K mg A)  : Df P w K mg base A.xc 1 A.f_least_common 2 (m_f_least_common) :=
  ⟨⟨fd, ["a", "b"], rfl, fn_ok F sc_f_least_common (by decide) fun cdv AA outer s H E hr =>
    (s_one (s_ret (r_lcm (by rfl) T.b_lcm (a_cons (r_var 0) (a_cons (r_var 1) a_nil))))), bi⟩, F.kp⟩
abbrev s_f_then : Stmt := topS 11
theorem sc_f_then : FnScope ["p", "q", "x"] ["p", "q"] (defScope s_f_then) := ⟨rfl, rfl, rfl, by decide +kernel, rfl, by decide +kernel, by decide +kernel⟩
theorem ok_f_then {P : Program} {w : World} {K : PySem.W.Frag} {mg : Str → Option Value} {base : Heap} {A : Adr} {fd : FuncData} (F : Fun K "then" "then" s_f_then A.f_then fd) (bi : Binds K fd ["p", "q"] []) (T : Tx K mg A)  : Df P w K mg base A.xc 1 A.f_then 2 (m_f_then) :=
  ⟨⟨fd, ["p", "q"], rfl, fn_ok F sc_f_then (by decide) fun cdv AA outer s H E hr =>
    (s_one (s_ret (r_tuple (by rfl) T.n_tuple (a_cons (r_lc (own := [("x", 2)]) (sl := [2]) rfl sc_f_then.nd (i_sq (r_var 0)) (blkOk_by (N := ["p", "q", "x"]) (sc := defScope s_f_then) (by decide +kernel)) (fun _ _ _ _ _ => g_name (i := 2) sc_f_then.nd rfl (Or.inl rfl)) (fun _ _ _ _ _ => ts_nil) (fun _ _ _ _ _ => (r_ix (r_var 1) (r_var 2))) (by decide)) a_nil)))), bi⟩, F.kp⟩
abbrev s_f_cycle_rows : Stmt := topS 12
theorem sc_f_cycle_rows : FnScope ["p", "seen", "cycles", "start", "cycle", "x"] ["p"] (defScope s_f_cycle_rows) := ⟨rfl, rfl, rfl, by decide +kernel, rfl, by decide +kernel, by decide +kernel⟩
theorem ok_f_cycle_rows {P : Program} {w : World} {K : PySem.W.Frag} {mg : Str → Option Value} {base : Heap} {A : Adr} {fd : FuncData} (F : Fun K "cycle_rows" "cycle_rows" s_f_cycle_rows A.f_cycle_rows fd) (bi : Binds K fd ["p"] []) (T : Tx K mg A)  : Df P w K mg base A.xc 1 A.f_cycle_rows 1 (m_f_cycle_rows) :=
  ⟨⟨fd, ["p"], rfl, fn_ok F sc_f_cycle_rows (by decide) fun cdv AA outer s H E hr =>
    (s_cons (s_set (i := 1) sc_f_cycle_rows.nd rfl (by first | exact Or.inl rfl | exact Or.inr rfl) (r_rep (r_lst (a_cons (r_frz r_bl) a_nil)) (r_len (by rfl) T.n_len (a_cons (r_var 0) a_nil))))
    (s_cons (s_set (i := 2) sc_f_cycle_rows.nd rfl (by first | exact Or.inl rfl | exact Or.inr rfl) (r_lst a_nil))
    (s_cons (s_for (passes_of rfl) rfl (i_rng1 (by rfl) T.n_range (r_len (by rfl) T.n_len (a_cons (r_var 0) a_nil))) (g_name (i := 3) sc_f_cycle_rows.nd rfl (by first | exact Or.inl rfl | exact Or.inr rfl)) (s_cons (s_set (i := 4) sc_f_cycle_rows.nd rfl (by first | exact Or.inl rfl | exact Or.inr rfl) (r_lst a_nil))
    (s_cons (s_set (i := 5) sc_f_cycle_rows.nd rfl (by first | exact Or.inl rfl | exact Or.inr rfl) (r_var 3))
    (s_cons (s_while (passes_of rfl) (t_not (t_tru (r_ix (r_var 1) (r_var 5)))) (s_cons (s_store (i := 1) (by rfl) (by first | exact Or.inl rfl | exact Or.inr (Or.inl rfl)) (r_var 5) r_bl)
    (s_cons (s_expr (r_app (i := 4) (by rfl) (by first | exact Or.inl rfl | exact Or.inr (Or.inl rfl)) (r_var 5)))
    (s_one (s_set (i := 5) sc_f_cycle_rows.nd rfl (by first | exact Or.inl rfl | exact Or.inr rfl) (r_ix (r_var 0) (r_var 5)))))))
    (s_one (s_if (t_tru (r_var 4)) (s_one (s_expr (r_app (i := 2) (by rfl) (by first | exact Or.inl rfl | exact Or.inr (Or.inl rfl)) (r_tuple (by rfl) T.n_tuple (a_cons (r_var 4) a_nil))))) s_nil))))))
    (s_one (s_ret (r_var 2)))))), bi⟩, F.kp⟩
abbrev s_f_lengths_of : Stmt := topS 13
theorem sc_f_lengths_of : FnScope ["p", "cycle"] ["p"] (defScope s_f_lengths_of) := ⟨rfl, rfl, rfl, by decide +kernel, rfl, by decide +kernel, by decide +kernel⟩
theorem ok_f_lengths_of {P : Program} {w : World} {K : PySem.W.Frag} {mg : Str → Option Value} {base : Heap} {A : Adr} {fd : FuncData} (F : Fun K "lengths_of" "lengths_of" s_f_lengths_of A.f_lengths_of fd) (bi : Binds K fd ["p"] []) (T : Tx K mg A) (D_f_cycle_rows : Df P w K mg base A.xc 1 A.f_cycle_rows 1 m_f_cycle_rows) : Df P w K mg base A.xc 2 A.f_lengths_of 1 (m_f_lengths_of) :=
  ⟨⟨fd, ["p"], rfl, fn_ok F sc_f_lengths_of (by decide) fun cdv AA outer s H E hr =>
    (s_one (s_ret (r_tuple (by rfl) T.n_tuple (a_cons (r_sortR (by rfl) T.n_sorted (r_lc (own := [("cycle", 1)]) (sl := [1]) rfl sc_f_lengths_of.nd (i_sq (r_call D_f_cycle_rows (hr.mono (by decide)) (by rfl) T.g_f_cycle_rows (takes_of rfl rfl rfl rfl) (a_cons (r_frz (r_var 0)) a_nil))) (blkOk_by (N := ["p", "cycle"]) (sc := defScope s_f_lengths_of) (by decide +kernel)) (fun _ _ _ _ _ => g_name (i := 1) sc_f_lengths_of.nd rfl (Or.inl rfl)) (fun _ _ _ _ _ => ts_nil) (fun _ _ _ _ _ => (r_len (by rfl) T.n_len (a_cons (r_var 1) a_nil))) (by decide))) a_nil)))), bi⟩, F.kp⟩
abbrev s_f_is_permutation : Stmt := topS 15
theorem sc_f_is_permutation : FnScope ["value", "seen", "x"] ["value"] (defScope s_f_is_permutation) := ⟨rfl, rfl, rfl, by decide +kernel, rfl, by decide +kernel, by decide +kernel⟩
theorem ok_f_is_permutation {P : Program} {w : World} {K : PySem.W.Frag} {mg : Str → Option Value} {base : Heap} {A : Adr} {fd : FuncData} (F : Fun K "is_permutation" "is_permutation" s_f_is_permutation A.f_is_permutation fd) (bi : Binds K fd ["value"] []) (T : Tx K mg A) (D_f_is_integer : Df P w K mg base A.xc 1 A.f_is_integer 1 m_f_is_integer) : Df P w K mg base A.xc 2 A.f_is_permutation 1 (m_f_is_permutation) :=
  ⟨⟨fd, ["value"], rfl, fn_ok F sc_f_is_permutation (by decide) fun cdv AA outer s H E hr =>
    (s_cons (s_if (t_not (t_tru (r_isi .tuple (by rfl) T.n_isinstance (by rfl) T.n_tuple (r_var 0)))) (s_one (s_ret r_bl)) s_nil)
    (s_cons (s_set (i := 1) sc_f_is_permutation.nd rfl (by first | exact Or.inl rfl | exact Or.inr rfl) (r_rep (r_lst (a_cons (r_frz r_bl) a_nil)) (r_len (by rfl) T.n_len (a_cons (r_var 0) a_nil))))
    (s_cons (s_for (passes_of rfl) rfl (i_sq (r_var 0)) (g_name (i := 2) sc_f_is_permutation.nd rfl (by first | exact Or.inl rfl | exact Or.inr rfl)) (s_cons (s_if (t_w (w_or (t_not (t_tru (r_call D_f_is_integer (hr.mono (by decide)) (by rfl) T.g_f_is_integer (takes_of rfl rfl rfl rfl) (a_cons (r_frz (r_var 2)) a_nil)))) (w_or (t_lt (r_var 2) r_int) (w_or (t_ge (r_var 2) (r_len (by rfl) T.n_len (a_cons (r_var 0) a_nil))) (w_or1 (t_tru (r_ix (r_var 1) (r_var 2)))))))) (s_one (s_ret r_bl)) s_nil)
    (s_one (s_store (i := 1) (by rfl) (by first | exact Or.inl rfl | exact Or.inr (Or.inl rfl)) (r_var 2) r_bl))))
    (s_one (s_ret r_bl))))), bi⟩, F.kp⟩
abbrev s_f__demand_one : Stmt := topS 16
theorem sc_f__demand_one : FnScope ["p"] ["p"] (defScope s_f__demand_one) := ⟨rfl, rfl, rfl, by decide +kernel, rfl, by decide +kernel, by decide +kernel⟩
theorem ok_f__demand_one {P : Program} {w : World} {K : PySem.W.Frag} {mg : Str → Option Value} {base : Heap} {A : Adr} {fd : FuncData} (F : Fun K "_demand_one" "_demand_one" s_f__demand_one A.f__demand_one fd) (bi : Binds K fd ["p"] []) (T : Tx K mg A) (D_f_is_permutation : Df P w K mg base A.xc 2 A.f_is_permutation 1 m_f_is_permutation) (D_f_demand : Df P w K mg base A.xc 1 A.f_demand 2 m_f_demand) : Df P w K mg base A.xc 3 A.f__demand_one 1 (m_f__demand_one) :=
  ⟨⟨fd, ["p"], rfl, fn_ok F sc_f__demand_one (by decide) fun cdv AA outer s H E hr =>
    (s_one (s_expr (r_call D_f_demand (hr.mono (by decide)) (by rfl) T.g_f_demand (takes_of rfl rfl rfl rfl) (a_cons (r_frz (r_call D_f_is_permutation (hr.mono (by decide)) (by rfl) T.g_f_is_permutation (takes_of rfl rfl rfl rfl) (a_cons (r_frz (r_var 0)) a_nil))) (a_cons (r_frz r_str) a_nil))))), bi⟩, F.kp⟩
abbrev s_f__demand_two : Stmt := topS 17
theorem sc_f__demand_two : FnScope ["p", "q"] ["p", "q"] (defScope s_f__demand_two) := ⟨rfl, rfl, rfl, by decide +kernel, rfl, by decide +kernel, by decide +kernel⟩
theorem ok_f__demand_two {P : Program} {w : World} {K : PySem.W.Frag} {mg : Str → Option Value} {base : Heap} {A : Adr} {fd : FuncData} (F : Fun K "_demand_two" "_demand_two" s_f__demand_two A.f__demand_two fd) (bi : Binds K fd ["p", "q"] []) (T : Tx K mg A) (D_f__demand_one : Df P w K mg base A.xc 3 A.f__demand_one 1 m_f__demand_one) (D_f_demand : Df P w K mg base A.xc 1 A.f_demand 2 m_f_demand) : Df P w K mg base A.xc 4 A.f__demand_two 2 (m_f__demand_two) :=
  ⟨⟨fd, ["p", "q"], rfl, fn_ok F sc_f__demand_two (by decide) fun cdv AA outer s H E hr =>
    (s_cons (s_expr (r_call D_f__demand_one (hr.mono (by decide)) (by rfl) T.g_f__demand_one (takes_of rfl rfl rfl rfl) (a_cons (r_frz (r_var 0)) a_nil)))
    (s_cons (s_expr (r_call D_f__demand_one (hr.mono (by decide)) (by rfl) T.g_f__demand_one (takes_of rfl rfl rfl rfl) (a_cons (r_frz (r_var 1)) a_nil)))
    (s_one (s_expr (r_call D_f_demand (hr.mono (by decide)) (by rfl) T.g_f_demand (takes_of rfl rfl rfl rfl) (a_cons (r_frz (r_eq (r_len (by rfl) T.n_len (a_cons (r_var 0) a_nil)) (r_len (by rfl) T.n_len (a_cons (r_var 1) a_nil)))) (a_cons (r_frz r_str) a_nil))))))), bi⟩, F.kp⟩
abbrev s_f_product_of : Stmt := topS 18
theorem sc_f_product_of : FnScope ["p", "q"] ["p", "q"] (defScope s_f_product_of) := ⟨rfl, rfl, rfl, by decide +kernel, rfl, by decide +kernel, by decide +kernel⟩
theorem ok_f_product_of {P : Program} {w : World} {K : PySem.W.Frag} {mg : Str → Option Value} {base : Heap} {A : Adr} {fd : FuncData} (F : Fun K "product_of" "product_of" s_f_product_of A.f_product_of fd) (bi : Binds K fd ["p", "q"] []) (T : Tx K mg A) (D_f__demand_two : Df P w K mg base A.xc 4 A.f__demand_two 2 m_f__demand_two) (D_f_then : Df P w K mg base A.xc 1 A.f_then 2 m_f_then) : Df P w K mg base A.xc 5 A.f_product_of 2 (m_f_product_of) :=
  ⟨⟨fd, ["p", "q"], rfl, fn_ok F sc_f_product_of (by decide) fun cdv AA outer s H E hr =>
    (s_cons (s_expr (r_call D_f__demand_two (hr.mono (by decide)) (by rfl) T.g_f__demand_two (takes_of rfl rfl rfl rfl) (a_cons (r_frz (r_var 0)) (a_cons (r_frz (r_var 1)) a_nil))))
    (s_one (s_ret (r_call D_f_then (hr.mono (by decide)) (by rfl) T.g_f_then (takes_of rfl rfl rfl rfl) (a_cons (r_frz (r_var 0)) (a_cons (r_frz (r_var 1)) a_nil)))))), bi⟩, F.kp⟩
abbrev s_f_cycles_of : Stmt := topS 19
theorem sc_f_cycles_of : FnScope ["p"] ["p"] (defScope s_f_cycles_of) := ⟨rfl, rfl, rfl, by decide +kernel, rfl, by decide +kernel, by decide +kernel⟩
theorem ok_f_cycles_of {P : Program} {w : World} {K : PySem.W.Frag} {mg : Str → Option Value} {base : Heap} {A : Adr} {fd : FuncData} (F : Fun K "cycles_of" "cycles_of" s_f_cycles_of A.f_cycles_of fd) (bi : Binds K fd ["p"] []) (T : Tx K mg A) (D_f__demand_one : Df P w K mg base A.xc 3 A.f__demand_one 1 m_f__demand_one) (D_f_cycle_rows : Df P w K mg base A.xc 1 A.f_cycle_rows 1 m_f_cycle_rows) : Df P w K mg base A.xc 4 A.f_cycles_of 1 (m_f_cycles_of) :=
  ⟨⟨fd, ["p"], rfl, fn_ok F sc_f_cycles_of (by decide) fun cdv AA outer s H E hr =>
    (s_cons (s_expr (r_call D_f__demand_one (hr.mono (by decide)) (by rfl) T.g_f__demand_one (takes_of rfl rfl rfl rfl) (a_cons (r_frz (r_var 0)) a_nil)))
    (s_one (s_ret (r_tuple (by rfl) T.n_tuple (a_cons (r_call D_f_cycle_rows (hr.mono (by decide)) (by rfl) T.g_f_cycle_rows (takes_of rfl rfl rfl rfl) (a_cons (r_frz (r_var 0)) a_nil)) a_nil))))), bi⟩, F.kp⟩
abbrev s_f_cycle_type : Stmt := topS 20
theorem sc_f_cycle_type : FnScope ["p"] ["p"] (defScope s_f_cycle_type) := ⟨rfl, rfl, rfl, by decide +kernel, rfl, by decide +kernel, by decide +kernel⟩
theorem ok_f_cycle_type {P : Program} {w : World} {K : PySem.W.Frag} {mg : Str → Option Value} {base : Heap} {A : Adr} {fd : FuncData} (F : Fun K "cycle_type" "cycle_type" s_f_cycle_type A.f_cycle_type fd) (bi : Binds K fd ["p"] []) (T : Tx K mg A) (D_f__demand_one : Df P w K mg base A.xc 3 A.f__demand_one 1 m_f__demand_one) (D_f_lengths_of : Df P w K mg base A.xc 2 A.f_lengths_of 1 m_f_lengths_of) : Df P w K mg base A.xc 4 A.f_cycle_type 1 (m_f_cycle_type) :=
  ⟨⟨fd, ["p"], rfl, fn_ok F sc_f_cycle_type (by decide) fun cdv AA outer s H E hr =>
    (s_cons (s_expr (r_call D_f__demand_one (hr.mono (by decide)) (by rfl) T.g_f__demand_one (takes_of rfl rfl rfl rfl) (a_cons (r_frz (r_var 0)) a_nil)))
    (s_one (s_ret (r_call D_f_lengths_of (hr.mono (by decide)) (by rfl) T.g_f_lengths_of (takes_of rfl rfl rfl rfl) (a_cons (r_frz (r_var 0)) a_nil))))), bi⟩, F.kp⟩
abbrev s_f_order_of : Stmt := topS 21
theorem sc_f_order_of : FnScope ["p", "order", "length"] ["p"] (defScope s_f_order_of) := ⟨rfl, rfl, rfl, by decide +kernel, rfl, by decide +kernel, by decide +kernel⟩
theorem ok_f_order_of {P : Program} {w : World} {K : PySem.W.Frag} {mg : Str → Option Value} {base : Heap} {A : Adr} {fd : FuncData} (F : Fun K "order_of" "order_of" s_f_order_of A.f_order_of fd) (bi : Binds K fd ["p"] []) (T : Tx K mg A) (D_f__demand_one : Df P w K mg base A.xc 3 A.f__demand_one 1 m_f__demand_one) (D_f_lengths_of : Df P w K mg base A.xc 2 A.f_lengths_of 1 m_f_lengths_of) (D_f_least_common : Df P w K mg base A.xc 1 A.f_least_common 2 m_f_least_common) : Df P w K mg base A.xc 4 A.f_order_of 1 (m_f_order_of) :=
  ⟨⟨fd, ["p"], rfl, fn_ok F sc_f_order_of (by decide) fun cdv AA outer s H E hr =>
    (s_cons (s_expr (r_call D_f__demand_one (hr.mono (by decide)) (by rfl) T.g_f__demand_one (takes_of rfl rfl rfl rfl) (a_cons (r_frz (r_var 0)) a_nil)))
    (s_cons (s_set (i := 1) sc_f_order_of.nd rfl (by first | exact Or.inl rfl | exact Or.inr rfl) r_int)
    (s_cons (s_for (passes_of rfl) rfl (i_sq (r_call D_f_lengths_of (hr.mono (by decide)) (by rfl) T.g_f_lengths_of (takes_of rfl rfl rfl rfl) (a_cons (r_frz (r_var 0)) a_nil))) (g_name (i := 2) sc_f_order_of.nd rfl (by first | exact Or.inl rfl | exact Or.inr rfl)) (s_one (s_set (i := 1) sc_f_order_of.nd rfl (by first | exact Or.inl rfl | exact Or.inr rfl) (r_call D_f_least_common (hr.mono (by decide)) (by rfl) T.g_f_least_common (takes_of rfl rfl rfl rfl) (a_cons (r_frz (r_var 1)) (a_cons (r_frz (r_var 2)) a_nil))))))
    (s_one (s_ret (r_var 1)))))), bi⟩, F.kp⟩
abbrev s_f_sign_of : Stmt := topS 22
theorem sc_f_sign_of : FnScope ["p"] ["p"] (defScope s_f_sign_of) := ⟨rfl, rfl, rfl, by decide +kernel, rfl, by decide +kernel, by decide +kernel⟩
theorem ok_f_sign_of {P : Program} {w : World} {K : PySem.W.Frag} {mg : Str → Option Value} {base : Heap} {A : Adr} {fd : FuncData} (F : Fun K "sign_of" "sign_of" s_f_sign_of A.f_sign_of fd) (bi : Binds K fd ["p"] []) (T : Tx K mg A) (D_f__demand_one : Df P w K mg base A.xc 3 A.f__demand_one 1 m_f__demand_one) (D_f_cycle_rows : Df P w K mg base A.xc 1 A.f_cycle_rows 1 m_f_cycle_rows) : Df P w K mg base A.xc 4 A.f_sign_of 1 (m_f_sign_of) :=
  ⟨⟨fd, ["p"], rfl, fn_ok F sc_f_sign_of (by decide) fun cdv AA outer s H E hr =>
    (s_cons (s_expr (r_call D_f__demand_one (hr.mono (by decide)) (by rfl) T.g_f__demand_one (takes_of rfl rfl rfl rfl) (a_cons (r_frz (r_var 0)) a_nil)))
    (s_one (s_ret (r_ife (t_tru (r_and_ (r_sub (r_len (by rfl) T.n_len (a_cons (r_var 0) a_nil)) (r_len (by rfl) T.n_len (a_cons (r_call D_f_cycle_rows (hr.mono (by decide)) (by rfl) T.g_f_cycle_rows (takes_of rfl rfl rfl rfl) (a_cons (r_frz (r_var 0)) a_nil)) a_nil))) r_int)) (r_neg r_int) r_int)))), bi⟩, F.kp⟩
abbrev s_f__law_state : Stmt := topS 24
theorem sc_f__law_state : FnScope ["script", "seed", "total", "cell"] ["script"] (defScope s_f__law_state) := ⟨rfl, rfl, rfl, by decide +kernel, rfl, by decide +kernel, by decide +kernel⟩
theorem ok_f__law_state {P : Program} {w : World} {K : PySem.W.Frag} {mg : Str → Option Value} {base : Heap} {A : Adr} {fd : FuncData} (F : Fun K "_law_state" "_law_state" s_f__law_state A.f__law_state fd) (bi : Binds K fd ["script"] []) (T : Tx K mg A)  : Df P w K mg base A.xc 1 A.f__law_state 1 (m_f__law_state) :=
  ⟨⟨fd, ["script"], rfl, fn_ok F sc_f__law_state (by decide) fun cdv AA outer s H E hr =>
    (s_cons (s_set (i := 1) sc_f__law_state.nd rfl (by first | exact Or.inl rfl | exact Or.inr rfl) r_int)
    (s_cons (s_set (i := 2) sc_f__law_state.nd rfl (by first | exact Or.inl rfl | exact Or.inr rfl) r_int)
    (s_cons (s_for (passes_of rfl) rfl (i_sq (r_cutTo (r_var 0))) (g_name (i := 3) sc_f__law_state.nd rfl (by first | exact Or.inl rfl | exact Or.inr rfl)) (s_cons (s_set (i := 1) sc_f__law_state.nd rfl (by first | exact Or.inl rfl | exact Or.inr rfl) (r_add (r_mul (r_var 1) r_int) (r_abs (by rfl) T.n_abs (a_cons (r_var 3) a_nil))))
    (s_one (s_set (i := 2) sc_f__law_state.nd rfl (by first | exact Or.inl rfl | exact Or.inr rfl) (r_mod (r_int_ (by rfl) T.n_int (a_cons (r_add (r_mul (r_var 2) r_int) (r_var 3)) a_nil)) r_int)))))
    (s_one (s_ret (r_lst (a_cons (r_frz (r_var 1)) (a_cons (r_frz (r_var 2)) a_nil)))))))), bi⟩, F.kp⟩
abbrev s_f__law_take : Stmt := topS 25
theorem sc_f__law_take : FnScope ["state", "m", "value"] ["state", "m"] (defScope s_f__law_take) := ⟨rfl, rfl, rfl, by decide +kernel, rfl, by decide +kernel, by decide +kernel⟩
theorem ok_f__law_take {P : Program} {w : World} {K : PySem.W.Frag} {mg : Str → Option Value} {base : Heap} {A : Adr} {fd : FuncData} (F : Fun K "_law_take" "_law_take" s_f__law_take A.f__law_take fd) (bi : Binds K fd ["state", "m"] []) (T : Tx K mg A)  : Df P w K mg base A.xc 1 A.f__law_take 2 (m_f__law_take) :=
  ⟨⟨fd, ["state", "m"], rfl, fn_ok F sc_f__law_take (by decide) fun cdv AA outer s H E hr =>
    (s_cons (s_if (t_gt (r_ix (r_var 0) r_int) r_int) (s_cons (s_set (i := 2) sc_f__law_take.nd rfl (by first | exact Or.inl rfl | exact Or.inr rfl) (r_mod (r_int_ (by rfl) T.n_int (a_cons (r_ix (r_var 0) r_int) a_nil)) (r_var 1)))
    (s_cons (s_store (i := 0) (by rfl) (by first | exact Or.inl rfl | exact Or.inr (Or.inl rfl)) r_int (r_div (r_ix (r_var 0) r_int) (r_var 1)))
    (s_one (s_ret (r_var 2))))) s_nil)
    (s_cons (s_store (i := 0) (by rfl) (by first | exact Or.inl rfl | exact Or.inr (Or.inl rfl)) r_int (r_mod (r_int_ (by rfl) T.n_int (a_cons (r_add (r_mul (r_ix (r_var 0) r_int) r_int) r_int) a_nil)) r_int))
    (s_one (s_ret (r_mod (r_int_ (by rfl) T.n_int (a_cons (r_div (r_ix (r_var 0) r_int) r_int) a_nil)) (r_var 1)))))), bi⟩, F.kp⟩
abbrev s_f__law_same : Stmt := topS 26
theorem sc_f__law_same : FnScope ["value", "due", "k"] ["value", "due"] (defScope s_f__law_same) := ⟨rfl, rfl, rfl, by decide +kernel, rfl, by decide +kernel, by decide +kernel⟩
theorem ok_f__law_same {P : Program} {w : World} {K : PySem.W.Frag} {mg : Str → Option Value} {base : Heap} {A : Adr} {fd : FuncData} (F : Fun K "_law_same" "_law_same" s_f__law_same A.f__law_same fd) (bi : Binds K fd ["value", "due"] []) (T : Tx K mg A)  : ∀ n : Nat, Df P w K mg base A.xc (n + 1) A.f__law_same 2 (m_f__law_same n)
  | 0 => ⟨⟨fd, ["value", "due"], rfl, ⟨fun vs H Q E h => h.1, fun AA outer s H args us vs Q E hr he hb hv h => by
    obtain ⟨_, S, cs, _, _, z⟩ := h
    exact z.elim⟩, bi⟩, F.kp⟩
  | n + 1 => by
    have ih := ok_f__law_same (P := P) (w := w) (base := base) F bi T n
    exact ⟨⟨fd, ["value", "due"], rfl, fn_ok F sc_f__law_same (by decide) fun cdv AA outer s H E hr =>
    (s_cons (s_if (t_tru (r_isi .tuple (by rfl) T.n_isinstance (by rfl) T.n_tuple (r_var 1))) (s_one (s_ret (r_andV (r_isi .tuple (by rfl) T.n_isinstance (by rfl) T.n_tuple (r_var 0)) (r_andV (r_eq (r_len (by rfl) T.n_len (a_cons (r_var 0) a_nil)) (r_len (by rfl) T.n_len (a_cons (r_var 1) a_nil))) (r_one (r_all rfl (by rfl) T.n_all (a_cons (r_lc (own := [("k", 2)]) (sl := [2]) rfl sc_f__law_same.nd (i_rng1 (by rfl) T.n_range (r_len (by rfl) T.n_len (a_cons (r_var 1) a_nil))) (blkOk_by (N := ["value", "due", "k"]) (sc := defScope s_f__law_same) (by decide +kernel)) (fun _ _ _ _ _ => g_name (i := 2) sc_f__law_same.nd rfl (Or.inl rfl)) (fun _ _ _ _ _ => ts_nil) (fun _ _ _ _ _ => (r_call ih hr (by rfl) T.g_f__law_same takes0 (a_cons (r_frz (r_ix (r_var 0) (r_var 2))) (a_cons (r_frz (r_ix (r_var 1) (r_var 2))) a_nil)))) (by decide)) a_nil))))))) s_nil)
    (s_cons (s_if (t_isN (r_var 1) r_non) (s_one (s_ret (r_isN (r_var 0) r_non))) s_nil)
    (s_cons (s_if (t_tru (r_isi .bool (by rfl) T.n_isinstance (by rfl) T.n_bool (r_var 1))) (s_one (s_ret (r_andV (r_isi .bool (by rfl) T.n_isinstance (by rfl) T.n_bool (r_var 0)) (r_one (r_eq (r_var 0) (r_var 1)))))) s_nil)
    (s_cons (s_if (t_tru (r_isi .str (by rfl) T.n_isinstance (by rfl) T.n_str (r_var 1))) (s_one (s_ret (r_andV (r_isi .str (by rfl) T.n_isinstance (by rfl) T.n_str (r_var 0)) (r_one (r_eq (r_var 0) (r_var 1)))))) s_nil)
    (s_one (s_ret (r_andV (r_isi .int (by rfl) T.n_isinstance (by rfl) T.n_int (r_var 0)) (r_andV (r_notV (r_isi .bool (by rfl) T.n_isinstance (by rfl) T.n_bool (r_var 0))) (r_one (r_eq (r_var 0) (r_var 1))))))))))), bi⟩, F.kp⟩
theorem tab_ok {P : Program} {w : World} {K : PySem.W.Frag} {mg : Str → Option Value} {base : Heap} {A : Adr} (D_f_cycles_of : Df P w K mg base A.xc 4 A.f_cycles_of 1 (m_f_cycles_of)) (D_f_cycle_type : Df P w K mg base A.xc 4 A.f_cycle_type 1 (m_f_cycle_type)) (D_f_order_of : Df P w K mg base A.xc 4 A.f_order_of 1 (m_f_order_of)) (D_f_sign_of : Df P w K mg base A.xc 4 A.f_sign_of 1 (m_f_sign_of)) : ∀ a q, tabL A a = some q → Df P w K mg base A.xc 4 a q.1 q.2 := by
  intro a q h
  unfold tabL at h
  split at h
  · rename_i e; cases h; subst e; exact D_f_cycles_of.mono (by decide)
  split at h
  · rename_i e; cases h; subst e; exact D_f_cycle_type.mono (by decide)
  split at h
  · rename_i e; cases h; subst e; exact D_f_order_of.mono (by decide)
  split at h
  · rename_i e; cases h; subst e; exact D_f_sign_of.mono (by decide)
  cases h
abbrev s_f__law_told : Stmt := topS 27
theorem sc_f__law_told : FnScope ["f", "given", "error"] ["f", "given"] (defScope s_f__law_told) := ⟨rfl, rfl, rfl, by decide +kernel, rfl, by decide +kernel, by decide +kernel⟩
theorem ok_f__law_told {P : Program} {w : World} {K : PySem.W.Frag} {mg : Str → Option Value} {base : Heap} {A : Adr} {fd : FuncData} (F : Fun K "_law_told" "_law_told" s_f__law_told A.f__law_told fd) (bi : Binds K fd ["f", "given"] []) (T : Tx K mg A)  (hT : ∀ a q, tabL A a = some q → Df P w K mg base A.xc 4 a q.1 q.2) : Df P w K mg base A.xc 5 A.f__law_told 2 (m_f__law_told A) :=
  ⟨⟨fd, ["f", "given"], rfl, fn_ok F sc_f__law_told (by decide) fun cdv AA outer s H E hr =>
    (s_one (s_tryM T.xf rfl rfl sc_f__law_told.nd ⟨by rfl, by decide, Or.inl T.g_Malformed⟩ (fun _ _ _ tkT poT => (s_cons (s_if (t_eq (r_len (by rfl) T.n_len (a_cons (r_var 1) a_nil)) r_int) (s_one (s_ret (r_tup (a_cons (r_frz r_str) (a_cons (r_frz (r_callV (i := 0) hT (hr.mono (by decide)) tkT (by rfl) (by first | exact Or.inl rfl | exact Or.inr (Or.inl rfl)) (a_cons (r_frz (r_ix (r_var 1) r_int)) a_nil))) a_nil))))) s_nil)
    (s_cons (s_if (t_eq (r_len (by rfl) T.n_len (a_cons (r_var 1) a_nil)) r_int) (s_one (s_ret (r_tup (a_cons (r_frz r_str) (a_cons (r_frz (r_callV (i := 0) hT (hr.mono (by decide)) tkT (by rfl) (by first | exact Or.inl rfl | exact Or.inr (Or.inl rfl)) (a_cons (r_frz (r_ix (r_var 1) r_int)) (a_cons (r_frz (r_ix (r_var 1) r_int)) a_nil)))) a_nil))))) s_nil)
    (s_cons (s_if (t_eq (r_len (by rfl) T.n_len (a_cons (r_var 1) a_nil)) r_int) (s_one (s_ret (r_tup (a_cons (r_frz r_str) (a_cons (r_frz (r_callV (i := 0) hT (hr.mono (by decide)) tkT (by rfl) (by first | exact Or.inl rfl | exact Or.inr (Or.inl rfl)) (a_cons (r_frz (r_ix (r_var 1) r_int)) (a_cons (r_frz (r_ix (r_var 1) r_int)) (a_cons (r_frz (r_ix (r_var 1) r_int)) a_nil))))) a_nil))))) s_nil)
    (s_one (s_ret (r_tup (a_cons (r_frz r_str) (a_cons (r_frz (r_callV (i := 0) hT (hr.mono (by decide)) tkT (by rfl) (by first | exact Or.inl rfl | exact Or.inr (Or.inl rfl)) (a_cons (r_frz (r_ix (r_var 1) r_int)) (a_cons (r_frz (r_ix (r_var 1) r_int)) (a_cons (r_frz (r_ix (r_var 1) r_int)) (a_cons (r_frz (r_ix (r_var 1) r_int)) a_nil)))))) a_nil))))))))) (fun _ _ _ => (s_one (s_ret (r_tup (a_cons (r_frz r_str) (a_cons (r_frz r_str) a_nil)))))) (hds_never (i := 2) ⟨by rfl, by decide, Or.inl T.g_Refused⟩ rfl rfl))), bi⟩, F.kp⟩
abbrev s_f__law_is_told : Stmt := topS 28
theorem sc_f__law_is_told : FnScope ["pair", "due"] ["pair", "due"] (defScope s_f__law_is_told) := ⟨rfl, rfl, rfl, by decide +kernel, rfl, by decide +kernel, by decide +kernel⟩
theorem ok_f__law_is_told {P : Program} {w : World} {K : PySem.W.Frag} {mg : Str → Option Value} {base : Heap} {A : Adr} {fd : FuncData} (F : Fun K "_law_is_told" "_law_is_told" s_f__law_is_told A.f__law_is_told fd) (bi : Binds K fd ["pair", "due"] []) (T : Tx K mg A) (D_f__law_same : Df P w K mg base A.xc 5 A.f__law_same 2 (m_f__law_same 4)) : Df P w K mg base A.xc 6 A.f__law_is_told 2 (m_f__law_is_told) :=
  ⟨⟨fd, ["pair", "due"], rfl, fn_ok F sc_f__law_is_told (by decide) fun cdv AA outer s H E hr =>
    (s_one (s_ret (r_andV (r_eq (r_ix (r_var 0) r_int) r_str) (r_one (r_call D_f__law_same (hr.mono (by decide)) (by rfl) T.g_f__law_same (takes_of rfl rfl rfl rfl) (a_cons (r_frz (r_ix (r_var 0) r_int)) (a_cons (r_frz (r_var 1)) a_nil))))))), bi⟩, F.kp⟩
abbrev s_f__law_is_raised : Stmt := topS 29
theorem sc_f__law_is_raised : FnScope ["pair", "reason"] ["pair", "reason"] (defScope s_f__law_is_raised) := ⟨rfl, rfl, rfl, by decide +kernel, rfl, by decide +kernel, by decide +kernel⟩
theorem ok_f__law_is_raised {P : Program} {w : World} {K : PySem.W.Frag} {mg : Str → Option Value} {base : Heap} {A : Adr} {fd : FuncData} (F : Fun K "_law_is_raised" "_law_is_raised" s_f__law_is_raised A.f__law_is_raised fd) (bi : Binds K fd ["pair", "reason"] []) (T : Tx K mg A) (D_f__law_same : Df P w K mg base A.xc 5 A.f__law_same 2 (m_f__law_same 4)) : Df P w K mg base A.xc 6 A.f__law_is_raised 2 (m_f__law_is_raised) :=
  ⟨⟨fd, ["pair", "reason"], rfl, fn_ok F sc_f__law_is_raised (by decide) fun cdv AA outer s H E hr =>
    (s_one (s_ret (r_andV (r_eq (r_ix (r_var 0) r_int) r_str) (r_one (r_call D_f__law_same (hr.mono (by decide)) (by rfl) T.g_f__law_same (takes_of rfl rfl rfl rfl) (a_cons (r_frz (r_ix (r_var 0) r_int)) (a_cons (r_frz (r_var 1)) a_nil))))))), bi⟩, F.kp⟩
abbrev s_f__law_times : Stmt := topS 30
theorem sc_f__law_times : FnScope ["p", "q", "y"] ["p", "q"] (defScope s_f__law_times) := ⟨rfl, rfl, rfl, by decide +kernel, rfl, by decide +kernel, by decide +kernel⟩
theorem ok_f__law_times {P : Program} {w : World} {K : PySem.W.Frag} {mg : Str → Option Value} {base : Heap} {A : Adr} {fd : FuncData} (F : Fun K "_law_times" "_law_times" s_f__law_times A.f__law_times fd) (bi : Binds K fd ["p", "q"] []) (T : Tx K mg A)  : Df P w K mg base A.xc 1 A.f__law_times 2 (m_f__law_times) :=
  ⟨⟨fd, ["p", "q"], rfl, fn_ok F sc_f__law_times (by decide) fun cdv AA outer s H E hr =>
    (s_one (s_ret (r_tuple (by rfl) T.n_tuple (a_cons (r_lc (own := [("y", 2)]) (sl := [2]) rfl sc_f__law_times.nd (i_sq (r_var 0)) (blkOk_by (N := ["p", "q", "y"]) (sc := defScope s_f__law_times) (by decide +kernel)) (fun _ _ _ _ _ => g_name (i := 2) sc_f__law_times.nd rfl (Or.inl rfl)) (fun _ _ _ _ _ => ts_nil) (fun _ _ _ _ _ => (r_ix (r_var 1) (r_var 2))) (by decide)) a_nil)))), bi⟩, F.kp⟩
abbrev s_f__law_drawn : Stmt := topS 31
theorem sc_f__law_drawn : FnScope ["state", "d", "left", "found"] ["state", "d"] (defScope s_f__law_drawn) := ⟨rfl, rfl, rfl, by decide +kernel, rfl, by decide +kernel, by decide +kernel⟩
theorem ok_f__law_drawn {P : Program} {w : World} {K : PySem.W.Frag} {mg : Str → Option Value} {base : Heap} {A : Adr} {fd : FuncData} (F : Fun K "_law_drawn" "_law_drawn" s_f__law_drawn A.f__law_drawn fd) (bi : Binds K fd ["state", "d"] []) (T : Tx K mg A) (D_f__law_take : Df P w K mg base A.xc 1 A.f__law_take 2 m_f__law_take) : Df P w K mg base A.xc 2 A.f__law_drawn 2 (m_f__law_drawn) :=
  ⟨⟨fd, ["state", "d"], rfl, fn_ok F sc_f__law_drawn (by decide) fun cdv AA outer s H E hr =>
    (s_cons (s_par (i := 2) (j := 3) rfl sc_f__law_drawn.nd rfl rfl (by decide) rfl rfl (r_lstRg1 rfl (by rfl) T.n_list (by rfl) T.n_range (r_var 1)) (r_lst a_nil) (by rfl))
    (s_cons (s_while (passes_of rfl) (t_gt (r_len (by rfl) T.n_len (a_cons (r_var 2) a_nil)) r_int) (s_one (s_expr (r_app (i := 3) (by rfl) (by first | exact Or.inl rfl | exact Or.inr (Or.inl rfl)) (r_pop (i := 2) (by rfl) (by first | exact Or.inl rfl | exact Or.inr (Or.inl rfl)) (r_call D_f__law_take (hr.mono (by decide)) (by rfl) T.g_f__law_take (takes_of rfl rfl rfl rfl) (a_cons (r_var 0) (a_cons (r_frz (r_len (by rfl) T.n_len (a_cons (r_var 2) a_nil))) a_nil))))))))
    (s_one (s_ret (r_tuple (by rfl) T.n_tuple (a_cons (r_var 3) a_nil)))))), bi⟩, F.kp⟩
abbrev s_f__law_cycles : Stmt := topS 32
theorem sc_f__law_cycles : FnScope ["p", "x", "met", "found", "cycle", "y"] ["p"] (defScope s_f__law_cycles) := ⟨rfl, rfl, rfl, by decide +kernel, rfl, by decide +kernel, by decide +kernel⟩
theorem ok_f__law_cycles {P : Program} {w : World} {K : PySem.W.Frag} {mg : Str → Option Value} {base : Heap} {A : Adr} {fd : FuncData} (F : Fun K "_law_cycles" "_law_cycles" s_f__law_cycles A.f__law_cycles fd) (bi : Binds K fd ["p"] []) (T : Tx K mg A)  : Df P w K mg base A.xc 1 A.f__law_cycles 1 (m_f__law_cycles) :=
  ⟨⟨fd, ["p"], rfl, fn_ok F sc_f__law_cycles (by decide) fun cdv AA outer s H E hr =>
    (s_cons (s_par (i := 2) (j := 3) rfl sc_f__law_cycles.nd rfl rfl (by decide) rfl rfl r_dnew (r_lst a_nil) (by rfl))
    (s_cons (s_for (passes_of rfl) rfl (i_rng1 (by rfl) T.n_range (r_len (by rfl) T.n_len (a_cons (r_var 0) a_nil))) (g_name (i := 1) sc_f__law_cycles.nd rfl (by first | exact Or.inl rfl | exact Or.inr rfl)) (s_cons (s_par (i := 4) (j := 5) rfl sc_f__law_cycles.nd rfl rfl (by decide) rfl rfl (r_tup a_nil) (r_var 1) (by rfl))
    (s_cons (s_while (passes_of rfl) (t_notin (hu_of hr) (by rfl) (by first | exact Or.inl rfl | exact Or.inr (Or.inl rfl)) (r_var 5)) (s_cons (s_dput (i := 2) (hu_of hr) (by rfl) (by first | exact Or.inl rfl | exact Or.inr (Or.inl rfl)) (r_var 5) r_bl)
    (s_cons (s_set (i := 4) sc_f__law_cycles.nd rfl (by first | exact Or.inl rfl | exact Or.inr rfl) (r_add (r_var 4) (r_tup (a_cons (r_frz (r_var 5)) a_nil))))
    (s_one (s_set (i := 5) sc_f__law_cycles.nd rfl (by first | exact Or.inl rfl | exact Or.inr rfl) (r_ix (r_var 0) (r_var 5)))))))
    (s_one (s_if (t_gt (r_len (by rfl) T.n_len (a_cons (r_var 4) a_nil)) r_int) (s_one (s_expr (r_app (i := 3) (by rfl) (by first | exact Or.inl rfl | exact Or.inr (Or.inl rfl)) (r_var 4)))) s_nil)))))
    (s_one (s_ret (r_tuple (by rfl) T.n_tuple (a_cons (r_var 3) a_nil)))))), bi⟩, F.kp⟩
abbrev s_f__law_type : Stmt := topS 33
theorem sc_f__law_type : FnScope ["p", "cycle"] ["p"] (defScope s_f__law_type) := ⟨rfl, rfl, rfl, by decide +kernel, rfl, by decide +kernel, by decide +kernel⟩
theorem ok_f__law_type {P : Program} {w : World} {K : PySem.W.Frag} {mg : Str → Option Value} {base : Heap} {A : Adr} {fd : FuncData} (F : Fun K "_law_type" "_law_type" s_f__law_type A.f__law_type fd) (bi : Binds K fd ["p"] []) (T : Tx K mg A) (D_f__law_cycles : Df P w K mg base A.xc 1 A.f__law_cycles 1 m_f__law_cycles) : Df P w K mg base A.xc 2 A.f__law_type 1 (m_f__law_type) :=
  ⟨⟨fd, ["p"], rfl, fn_ok F sc_f__law_type (by decide) fun cdv AA outer s H E hr =>
    (s_one (s_ret (r_tuple (by rfl) T.n_tuple (a_cons (r_rev (r_sorted (by rfl) T.n_sorted (a_cons (r_lc (own := [("cycle", 1)]) (sl := [1]) rfl sc_f__law_type.nd (i_sq (r_call D_f__law_cycles (hr.mono (by decide)) (by rfl) T.g_f__law_cycles (takes_of rfl rfl rfl rfl) (a_cons (r_frz (r_var 0)) a_nil))) (blkOk_by (N := ["p", "cycle"]) (sc := defScope s_f__law_type) (by decide +kernel)) (fun _ _ _ _ _ => g_name (i := 1) sc_f__law_type.nd rfl (Or.inl rfl)) (fun _ _ _ _ _ => ts_nil) (fun _ _ _ _ _ => (r_len (by rfl) T.n_len (a_cons (r_var 1) a_nil))) (by decide)) a_nil))) a_nil)))), bi⟩, F.kp⟩
abbrev s_f__law_gcd : Stmt := topS 34
theorem sc_f__law_gcd : FnScope ["a", "b"] ["a", "b"] (defScope s_f__law_gcd) := ⟨rfl, rfl, rfl, by decide +kernel, rfl, by decide +kernel, by decide +kernel⟩
theorem ok_f__law_gcd {P : Program} {w : World} {K : PySem.W.Frag} {mg : Str → Option Value} {base : Heap} {A : Adr} {fd : FuncData} (F : Fun K "_law_gcd" "_law_gcd" s_f__law_gcd A.f__law_gcd fd) (bi : Binds K fd ["a", "b"] []) (T : Tx K mg A)  : Df P w K mg base A.xc 1 A.f__law_gcd 2 (m_f__law_gcd) :=
  ⟨⟨fd, ["a", "b"], rfl, fn_ok F sc_f__law_gcd (by decide) fun cdv AA outer s H E hr =>
    (s_cons (s_while (passes_of rfl) (t_ne (r_var 1) r_int) (s_one (s_par (i := 0) (j := 1) rfl sc_f__law_gcd.nd rfl rfl (by decide) rfl rfl (r_var 1) (r_mod (r_int_ (by rfl) T.n_int (a_cons (r_var 0) a_nil)) (r_var 1)) (by rfl))))
    (s_one (s_ret (r_var 0)))), bi⟩, F.kp⟩
abbrev s_f__law_turns : Stmt := topS 35
theorem sc_f__law_turns : FnScope ["p", "total", "x", "y"] ["p"] (defScope s_f__law_turns) := ⟨rfl, rfl, rfl, by decide +kernel, rfl, by decide +kernel, by decide +kernel⟩
theorem ok_f__law_turns {P : Program} {w : World} {K : PySem.W.Frag} {mg : Str → Option Value} {base : Heap} {A : Adr} {fd : FuncData} (F : Fun K "_law_turns" "_law_turns" s_f__law_turns A.f__law_turns fd) (bi : Binds K fd ["p"] []) (T : Tx K mg A)  : Df P w K mg base A.xc 1 A.f__law_turns 1 (m_f__law_turns) :=
  ⟨⟨fd, ["p"], rfl, fn_ok F sc_f__law_turns (by decide) fun cdv AA outer s H E hr =>
    (s_cons (s_set (i := 1) sc_f__law_turns.nd rfl (by first | exact Or.inl rfl | exact Or.inr rfl) r_int)
    (s_cons (s_for (passes_of rfl) rfl (i_rng1 (by rfl) T.n_range (r_len (by rfl) T.n_len (a_cons (r_var 0) a_nil))) (g_name (i := 2) sc_f__law_turns.nd rfl (by first | exact Or.inl rfl | exact Or.inr rfl)) (s_one (s_set (i := 1) sc_f__law_turns.nd rfl (by first | exact Or.inl rfl | exact Or.inr rfl) (r_add (r_var 1) (r_len (by rfl) T.n_len (a_cons (r_lc (own := [("y", 3)]) (sl := [3]) rfl sc_f__law_turns.nd (i_rng1 (by rfl) T.n_range (r_var 2)) (blkOk_by (N := ["p", "total", "x", "y"]) (sc := defScope s_f__law_turns) (by decide +kernel)) (fun _ _ _ _ _ => g_name (i := 3) sc_f__law_turns.nd rfl (Or.inl rfl)) (fun _ _ _ _ _ => ts_one (t_gt (r_ix (r_var 0) (r_var 3)) (r_ix (r_var 0) (r_var 2)))) (fun _ _ _ _ _ => (r_var 3)) (by decide)) a_nil))))))
    (s_one (s_ret (r_var 1))))), bi⟩, F.kp⟩
abbrev s_f__law_made : Stmt := topS 36
theorem sc_f__law_made : FnScope ["state", "d", "order", "found", "start", "size", "k"] ["state", "d"] (defScope s_f__law_made) := ⟨rfl, rfl, rfl, by decide +kernel, rfl, by decide +kernel, by decide +kernel⟩
theorem ok_f__law_made {P : Program} {w : World} {K : PySem.W.Frag} {mg : Str → Option Value} {base : Heap} {A : Adr} {fd : FuncData} (F : Fun K "_law_made" "_law_made" s_f__law_made A.f__law_made fd) (bi : Binds K fd ["state", "d"] []) (T : Tx K mg A) (D_f__law_drawn : Df P w K mg base A.xc 2 A.f__law_drawn 2 m_f__law_drawn) (D_f__law_take : Df P w K mg base A.xc 1 A.f__law_take 2 m_f__law_take) : Df P w K mg base A.xc 3 A.f__law_made 2 (m_f__law_made) :=
  ⟨⟨fd, ["state", "d"], rfl, fn_ok F sc_f__law_made (by decide) fun cdv AA outer s H E hr =>
    (s_cons (s_par (i := 3) (j := 4) rfl sc_f__law_made.nd rfl rfl (by decide) rfl rfl (r_rep (r_lst (a_cons (r_frz r_int) a_nil)) (r_var 1)) r_int (by rfl))
    (s_cons (s_set (i := 2) sc_f__law_made.nd rfl (by first | exact Or.inl rfl | exact Or.inr rfl) (r_call D_f__law_drawn (hr.mono (by decide)) (by rfl) T.g_f__law_drawn (takes_of rfl rfl rfl rfl) (a_cons (r_var 0) (a_cons (r_frz (r_var 1)) a_nil))))
    (s_cons (s_while (passes_of rfl) (t_lt (r_var 4) (r_var 1)) (s_cons (s_set (i := 5) sc_f__law_made.nd rfl (by first | exact Or.inl rfl | exact Or.inr rfl) (r_min rfl (by rfl) T.n_min (a_cons (r_sub (r_var 1) (r_var 4)) (a_cons (r_add r_int (r_call D_f__law_take (hr.mono (by decide)) (by rfl) T.g_f__law_take (takes_of rfl rfl rfl rfl) (a_cons (r_var 0) (a_cons (r_frz (r_ix (r_lst (a_cons (r_frz r_int) (a_cons (r_frz r_int) (a_cons (r_frz r_int) a_nil)))) (r_call D_f__law_take (hr.mono (by decide)) (by rfl) T.g_f__law_take (takes_of rfl rfl rfl rfl) (a_cons (r_var 0) (a_cons (r_frz r_int) a_nil))))) a_nil)))) a_nil))))
    (s_cons (s_for (passes_of rfl) rfl (i_rng1 (by rfl) T.n_range (r_var 5)) (g_name (i := 6) sc_f__law_made.nd rfl (by first | exact Or.inl rfl | exact Or.inr rfl)) (s_one (s_store (i := 3) (by rfl) (by first | exact Or.inl rfl | exact Or.inr (Or.inl rfl)) (r_ix (r_var 2) (r_add (r_var 4) (r_var 6))) (r_ix (r_var 2) (r_add (r_var 4) (r_mod (r_int_ (by rfl) T.n_int (a_cons (r_add (r_var 6) r_int) a_nil)) (r_var 5)))))))
    (s_one (s_set (i := 4) sc_f__law_made.nd rfl (by first | exact Or.inl rfl | exact Or.inr rfl) (r_add (r_var 4) (r_var 5)))))))
    (s_one (s_ret (r_tuple (by rfl) T.n_tuple (a_cons (r_var 3) a_nil))))))), bi⟩, F.kp⟩
abbrev s_f__law_holds : Stmt := topS 37
theorem sc_f__law_holds : FnScope ["p", "order", "length", "sign", "told", "dues", "k"] ["p"] (defScope s_f__law_holds) := ⟨rfl, rfl, rfl, by decide +kernel, rfl, by decide +kernel, by decide +kernel⟩
theorem ok_f__law_holds {P : Program} {w : World} {K : PySem.W.Frag} {mg : Str → Option Value} {base : Heap} {A : Adr} {fd : FuncData} (F : Fun K "_law_holds" "_law_holds" s_f__law_holds A.f__law_holds fd) (bi : Binds K fd ["p"] []) (T : Tx K mg A) (D_f__law_type : Df P w K mg base A.xc 2 A.f__law_type 1 m_f__law_type) (D_f__law_gcd : Df P w K mg base A.xc 1 A.f__law_gcd 2 m_f__law_gcd) (D_f__law_turns : Df P w K mg base A.xc 1 A.f__law_turns 1 m_f__law_turns) (D_f__law_told : Df P w K mg base A.xc 5 A.f__law_told 2 (m_f__law_told A)) (D_f__law_cycles : Df P w K mg base A.xc 1 A.f__law_cycles 1 m_f__law_cycles) (D_f__law_is_told : Df P w K mg base A.xc 6 A.f__law_is_told 2 m_f__law_is_told) : Df P w K mg base A.xc 7 A.f__law_holds 1 (m_f__law_holds A) :=
  ⟨⟨fd, ["p"], rfl, fn_ok F sc_f__law_holds (by decide) fun cdv AA outer s H E hr =>
    (s_cons (s_set (i := 1) sc_f__law_holds.nd rfl (by first | exact Or.inl rfl | exact Or.inr rfl) r_int)
    (s_cons (s_for (passes_of rfl) rfl (i_sq (r_call D_f__law_type (hr.mono (by decide)) (by rfl) T.g_f__law_type (takes_of rfl rfl rfl rfl) (a_cons (r_frz (r_var 0)) a_nil))) (g_name (i := 2) sc_f__law_holds.nd rfl (by first | exact Or.inl rfl | exact Or.inr rfl)) (s_one (s_set (i := 1) sc_f__law_holds.nd rfl (by first | exact Or.inl rfl | exact Or.inr rfl) (r_div (r_mul (r_var 1) (r_var 2)) (r_call D_f__law_gcd (hr.mono (by decide)) (by rfl) T.g_f__law_gcd (takes_of rfl rfl rfl rfl) (a_cons (r_frz (r_var 1)) (a_cons (r_frz (r_var 2)) a_nil)))))))
    (s_cons (s_set (i := 3) sc_f__law_holds.nd rfl (by first | exact Or.inl rfl | exact Or.inr rfl) (r_sub r_int (r_mul r_int (r_mod (r_int_ (by rfl) T.n_int (a_cons (r_call D_f__law_turns (hr.mono (by decide)) (by rfl) T.g_f__law_turns (takes_of rfl rfl rfl rfl) (a_cons (r_frz (r_var 0)) a_nil)) a_nil)) r_int))))
    (s_cons (s_set (i := 4) sc_f__law_holds.nd rfl (by first | exact Or.inl rfl | exact Or.inr rfl) (r_lst (a_cons (r_frz (r_call D_f__law_told (hr.mono (by decide)) (by rfl) T.g_f__law_told (takes_of rfl rfl rfl rfl) (a_cons (r_frz (r_glob (by rfl) T.g_f_cycles_of)) (a_cons (r_frz (r_tup (a_cons (r_frz (r_var 0)) a_nil))) a_nil)))) (a_cons (r_frz (r_call D_f__law_told (hr.mono (by decide)) (by rfl) T.g_f__law_told (takes_of rfl rfl rfl rfl) (a_cons (r_frz (r_glob (by rfl) T.g_f_cycle_type)) (a_cons (r_frz (r_tup (a_cons (r_frz (r_var 0)) a_nil))) a_nil)))) (a_cons (r_frz (r_call D_f__law_told (hr.mono (by decide)) (by rfl) T.g_f__law_told (takes_of rfl rfl rfl rfl) (a_cons (r_frz (r_glob (by rfl) T.g_f_order_of)) (a_cons (r_frz (r_tup (a_cons (r_frz (r_var 0)) a_nil))) a_nil)))) (a_cons (r_frz (r_call D_f__law_told (hr.mono (by decide)) (by rfl) T.g_f__law_told (takes_of rfl rfl rfl rfl) (a_cons (r_frz (r_glob (by rfl) T.g_f_sign_of)) (a_cons (r_frz (r_tup (a_cons (r_frz (r_var 0)) a_nil))) a_nil)))) a_nil))))))
    (s_cons (s_set (i := 5) sc_f__law_holds.nd rfl (by first | exact Or.inl rfl | exact Or.inr rfl) (r_lst (a_cons (r_frz (r_call D_f__law_cycles (hr.mono (by decide)) (by rfl) T.g_f__law_cycles (takes_of rfl rfl rfl rfl) (a_cons (r_frz (r_var 0)) a_nil))) (a_cons (r_frz (r_call D_f__law_type (hr.mono (by decide)) (by rfl) T.g_f__law_type (takes_of rfl rfl rfl rfl) (a_cons (r_frz (r_var 0)) a_nil))) (a_cons (r_frz (r_var 1)) (a_cons (r_frz (r_var 3)) a_nil))))))
    (s_one (s_ret (r_all rfl (by rfl) T.n_all (a_cons (r_lc (own := [("k", 6)]) (sl := [6]) rfl sc_f__law_holds.nd (i_rng1 (by rfl) T.n_range r_int) (blkOk_by (N := ["p", "order", "length", "sign", "told", "dues", "k"]) (sc := defScope s_f__law_holds) (by decide +kernel)) (fun _ _ _ _ _ => g_name (i := 6) sc_f__law_holds.nd rfl (Or.inl rfl)) (fun _ _ _ _ _ => ts_nil) (fun _ _ _ _ _ => (r_call D_f__law_is_told (hr.mono (by decide)) (by rfl) T.g_f__law_is_told takes0 (a_cons (r_frz (r_ix (r_var 4) (r_var 6))) (a_cons (r_frz (r_ix (r_var 5) (r_var 6))) a_nil)))) (by decide)) a_nil))))))))), bi⟩, F.kp⟩
abbrev s_f_law : Stmt := topS 38
theorem sc_f_law : FnScope ["script", "state", "d", "bad", "p", "q", "f"] ["script"] (defScope s_f_law) := ⟨rfl, rfl, rfl, by decide +kernel, rfl, by decide +kernel, by decide +kernel⟩
theorem fnok_law {P : Program} {w : World} {K : PySem.W.Frag} {mg : Str → Option Value} {base : Heap} {A : Adr} {fd : FuncData} (F : Fun K "law" "law" s_f_law A.f_law fd) (T : Tx K mg A) (D_f__law_state : Df P w K mg base A.xc 1 A.f__law_state 1 m_f__law_state) (D_f__law_take : Df P w K mg base A.xc 1 A.f__law_take 2 m_f__law_take) (D_f__law_made : Df P w K mg base A.xc 3 A.f__law_made 2 m_f__law_made) (D_f__law_drawn : Df P w K mg base A.xc 2 A.f__law_drawn 2 m_f__law_drawn) (D_f__law_holds : Df P w K mg base A.xc 7 A.f__law_holds 1 (m_f__law_holds A)) (D_f__law_times : Df P w K mg base A.xc 1 A.f__law_times 2 m_f__law_times) (D_f_product_of : Df P w K mg base A.xc 5 A.f_product_of 2 m_f_product_of) (D_f_sign_of : Df P w K mg base A.xc 4 A.f_sign_of 1 m_f_sign_of) (D_f__law_told : Df P w K mg base A.xc 5 A.f__law_told 2 (m_f__law_told A)) (D_f__law_is_raised : Df P w K mg base A.xc 6 A.f__law_is_raised 2 m_f__law_is_raised) : FnOk P w K mg base (L2.CX P w) 8 A.f_law fd ["script"] (FSp K A.xc 1 (m_f_law A)) :=
  fn_ok F sc_f_law (by decide) fun cdv AA outer s H E hr =>
    (s_cons (s_set (i := 1) sc_f_law.nd rfl (by first | exact Or.inl rfl | exact Or.inr rfl) (r_call D_f__law_state (hr.mono (by decide)) (by rfl) T.g_f__law_state (takes_of rfl rfl rfl rfl) (a_cons (r_frz (r_var 0)) a_nil)))
    (s_cons (s_set (i := 2) sc_f_law.nd rfl (by first | exact Or.inl rfl | exact Or.inr rfl) (r_ix (r_lst (a_cons (r_frz (r_call D_f__law_take (hr.mono (by decide)) (by rfl) T.g_f__law_take (takes_of rfl rfl rfl rfl) (a_cons (r_var 1) (a_cons (r_frz r_int) a_nil)))) (a_cons (r_frz (r_call D_f__law_take (hr.mono (by decide)) (by rfl) T.g_f__law_take (takes_of rfl rfl rfl rfl) (a_cons (r_var 1) (a_cons (r_frz r_int) a_nil)))) (a_cons (r_frz (r_sub r_int (r_call D_f__law_take (hr.mono (by decide)) (by rfl) T.g_f__law_take (takes_of rfl rfl rfl rfl) (a_cons (r_var 1) (a_cons (r_frz r_int) a_nil))))) a_nil)))) (r_call D_f__law_take (hr.mono (by decide)) (by rfl) T.g_f__law_take (takes_of rfl rfl rfl rfl) (a_cons (r_var 1) (a_cons (r_frz r_int) a_nil)))))
    (s_cons (s_par (i := 4) (j := 5) rfl sc_f_law.nd rfl rfl (by decide) rfl rfl (r_call D_f__law_made (hr.mono (by decide)) (by rfl) T.g_f__law_made (takes_of rfl rfl rfl rfl) (a_cons (r_var 1) (a_cons (r_frz (r_var 2)) a_nil))) (r_call D_f__law_drawn (hr.mono (by decide)) (by rfl) T.g_f__law_drawn (takes_of rfl rfl rfl rfl) (a_cons (r_var 1) (a_cons (r_frz (r_var 2)) a_nil))) (by rfl))
    (s_cons (s_if (t_w (w_or (t_not (t_tru (r_call D_f__law_holds (hr.mono (by decide)) (by rfl) T.g_f__law_holds (takes_of rfl rfl rfl rfl) (a_cons (r_frz (r_var 4)) a_nil)))) (w_or (t_not (t_tru (r_call D_f__law_holds (hr.mono (by decide)) (by rfl) T.g_f__law_holds (takes_of rfl rfl rfl rfl) (a_cons (r_frz (r_var 5)) a_nil)))) (w_or (t_not (t_tru (r_call D_f__law_holds (hr.mono (by decide)) (by rfl) T.g_f__law_holds (takes_of rfl rfl rfl rfl) (a_cons (r_frz (r_call D_f__law_times (hr.mono (by decide)) (by rfl) T.g_f__law_times (takes_of rfl rfl rfl rfl) (a_cons (r_frz (r_var 4)) (a_cons (r_frz (r_var 5)) a_nil)))) a_nil)))) (w_or1 (t_not (t_tru (r_call D_f__law_holds (hr.mono (by decide)) (by rfl) T.g_f__law_holds (takes_of rfl rfl rfl rfl) (a_cons (r_frz (r_tupRg1 rfl (by rfl) T.n_tuple (by rfl) T.n_range (r_var 2))) a_nil))))))))) (s_one (s_ret r_bl)) s_nil)
    (s_cons (s_if (t_ne (r_call D_f_sign_of (hr.mono (by decide)) (by rfl) T.g_f_sign_of (takes_of rfl rfl rfl rfl) (a_cons (r_frz (r_call D_f_product_of (hr.mono (by decide)) (by rfl) T.g_f_product_of (takes_of rfl rfl rfl rfl) (a_cons (r_frz (r_var 4)) (a_cons (r_frz (r_var 5)) a_nil)))) a_nil)) (r_mul (r_call D_f_sign_of (hr.mono (by decide)) (by rfl) T.g_f_sign_of (takes_of rfl rfl rfl rfl) (a_cons (r_frz (r_var 4)) a_nil)) (r_call D_f_sign_of (hr.mono (by decide)) (by rfl) T.g_f_sign_of (takes_of rfl rfl rfl rfl) (a_cons (r_frz (r_var 5)) a_nil)))) (s_one (s_ret r_bl)) s_nil)
    (s_cons (s_for (passes_of rfl) rfl (i_sq (r_lst (a_cons (r_frz r_non) (a_cons (r_frz r_int) (a_cons (r_frz (r_list (by rfl) T.n_list (a_cons (r_var 4) a_nil))) (a_cons (r_frz (r_ife (t_gt (r_var 2) r_int) (r_add (r_var 4) (r_tup (a_cons (r_frz r_int) a_nil))) (r_tup (a_cons (r_frz r_int) a_nil)))) (a_cons (r_frz (r_add (r_var 4) (r_tup (a_cons (r_frz (r_add (r_var 2) r_int)) a_nil)))) (a_cons (r_frz (r_tup (a_cons (r_frz r_bl) a_nil))) (a_cons (r_frz (r_tup (a_cons (r_frz r_str) a_nil))) a_nil))))))))) (g_name (i := 3) sc_f_law.nd rfl (by first | exact Or.inl rfl | exact Or.inr rfl)) (s_one (s_for (passes_of rfl) rfl (i_sq (r_tup (a_cons (r_frz (r_glob (by rfl) T.g_f_cycles_of)) (a_cons (r_frz (r_glob (by rfl) T.g_f_cycle_type)) (a_cons (r_frz (r_glob (by rfl) T.g_f_order_of)) (a_cons (r_frz (r_glob (by rfl) T.g_f_sign_of)) a_nil)))))) (g_name (i := 6) sc_f_law.nd rfl (by first | exact Or.inl rfl | exact Or.inr rfl)) (s_one (s_if (t_not (t_tru (r_call D_f__law_is_raised (hr.mono (by decide)) (by rfl) T.g_f__law_is_raised (takes_of rfl rfl rfl rfl) (a_cons (r_frz (r_call D_f__law_told (hr.mono (by decide)) (by rfl) T.g_f__law_told (takes_of rfl rfl rfl rfl) (a_cons (r_frz (r_var 6)) (a_cons (r_frz (r_tup (a_cons (r_frz (r_var 3)) a_nil))) a_nil)))) (a_cons (r_frz r_str) a_nil))))) (s_one (s_ret r_bl)) s_nil)))))
    (s_one (s_ret r_bl))))))))
end K05

set_option Elab.async false
set_option linter.all false
set_option maxRecDepth 100000
set_option autoImplicit false
namespace K05
open PySem L2 Mi
theorem exm_self {K : PySem.W.Frag} {C : Addr} (h1 : PySem.W.subIn K (.ref C) (.type "BaseException") = some true) (h2 : PySem.W.isClsIn K C = true)
    (h3 : PySem.W.typeIn K (.ref C) = some (.type "type")) (h4 : PySem.W.subIn K (.ref C) (.ref C) = some true) : PySem.W.exmOne K (.ref C) (.ref C) = some true := by
  have e1 : (PySem.W.subIn K (.ref C) (.type "BaseException") == some true) = true := by rw [h1] <;> rfl
  have h2' : (PySem.W.clsIn K C).isSome = true := h2
  have e2 : ((PySem.W.clsIn K C).isSome && PySem.W.typeIn K (.ref C) == some (.type "type")) = true := by rw [h2', h3] <;> rfl
  unfold PySem.W.exmOne
  rw [if_pos e1]
  show (if ((PySem.W.clsIn K C).isSome && PySem.W.typeIn K (.ref C) == some (.type "type")) = true then PySem.W.subIn K (.ref C) (.ref C) else none) = some true
  rw [if_pos e2]
  exact h4
theorem fn_ne {K : PySem.W.Frag} {a b : Addr} {o1 o2 : Value} {d1 d2 : Option Addr} {f1 f2 : FuncData} {s1 s2 : Array (Option Value)} (h1 : K.lookup a = some ⟨o1, d1, .func f1, s1⟩) (h2 : K.lookup b = some ⟨o2, d2, .func f2, s2⟩) (hn : f1.name ≠ f2.name) : a ≠ b := by
  intro e
  subst e
  rw [h1] at h2
  cases h2
  exact hn rfl
/-- the law's promise: True, for every script -/
def spLaw (K : PySem.W.Frag) : Sp := fun vs H Q _ => ∃ (a : Addr) (ns : List Int), vs = [.ref a] ∧ SqL K H a (ns.map V.int) ∧ ns.length ≤ 63 ∧ ∀ H', Q (.bl true) H'
theorem all_mk {lp : PySem.W.OpenLaw} {w : World} {K : PySem.W.Frag} {h : Heap} {mg : Str → Option Value} {fa : Addr} (X : K.In h) (G : h.Ns mainGlobals mg) (hfa : mg "law" = some (.ref fa))
    {f0 : Addr} {oc0 kV0 dc0 pm0 cd0 ct0 : Value} {od0 an0 : Option Addr} {sl0 : Array (Option Value)}
    {f1 : Addr} {oc1 kV1 dc1 pm1 cd1 ct1 : Value} {od1 an1 : Option Addr} {sl1 : Array (Option Value)}
    {f2 : Addr} {oc2 kV2 dc2 pm2 cd2 ct2 : Value} {od2 an2 : Option Addr} {sl2 : Array (Option Value)}
    {f3 : Addr} {oc3 kV3 dc3 pm3 cd3 ct3 : Value} {od3 an3 : Option Addr} {sl3 : Array (Option Value)}
    {f4 : Addr} {oc4 kV4 dc4 pm4 cd4 ct4 : Value} {od4 an4 : Option Addr} {sl4 : Array (Option Value)}
    {f5 : Addr} {oc5 kV5 dc5 pm5 cd5 ct5 : Value} {od5 an5 : Option Addr} {sl5 : Array (Option Value)}
    {f6 : Addr} {oc6 kV6 dc6 pm6 cd6 ct6 : Value} {od6 an6 : Option Addr} {sl6 : Array (Option Value)}
    {f7 : Addr} {oc7 kV7 dc7 pm7 cd7 ct7 : Value} {od7 an7 : Option Addr} {sl7 : Array (Option Value)}
    {f8 : Addr} {oc8 kV8 dc8 pm8 cd8 ct8 : Value} {od8 an8 : Option Addr} {sl8 : Array (Option Value)}
    {f9 : Addr} {oc9 kV9 dc9 pm9 cd9 ct9 : Value} {od9 an9 : Option Addr} {sl9 : Array (Option Value)}
    {f10 : Addr} {oc10 kV10 dc10 pm10 cd10 ct10 : Value} {od10 an10 : Option Addr} {sl10 : Array (Option Value)}
    {f11 : Addr} {oc11 kV11 dc11 pm11 cd11 ct11 : Value} {od11 an11 : Option Addr} {sl11 : Array (Option Value)}
    {f12 : Addr} {oc12 kV12 dc12 pm12 cd12 ct12 : Value} {od12 an12 : Option Addr} {sl12 : Array (Option Value)}
    {f13 : Addr} {oc13 kV13 dc13 pm13 cd13 ct13 : Value} {od13 an13 : Option Addr} {sl13 : Array (Option Value)}
    {f14 : Addr} {oc14 kV14 dc14 pm14 cd14 ct14 : Value} {od14 an14 : Option Addr} {sl14 : Array (Option Value)}
    {f15 : Addr} {oc15 kV15 dc15 pm15 cd15 ct15 : Value} {od15 an15 : Option Addr} {sl15 : Array (Option Value)}
    {f16 : Addr} {oc16 kV16 dc16 pm16 cd16 ct16 : Value} {od16 an16 : Option Addr} {sl16 : Array (Option Value)}
    {f17 : Addr} {oc17 kV17 dc17 pm17 cd17 ct17 : Value} {od17 an17 : Option Addr} {sl17 : Array (Option Value)}
    {f18 : Addr} {oc18 kV18 dc18 pm18 cd18 ct18 : Value} {od18 an18 : Option Addr} {sl18 : Array (Option Value)}
    {f19 : Addr} {oc19 kV19 dc19 pm19 cd19 ct19 : Value} {od19 an19 : Option Addr} {sl19 : Array (Option Value)}
    {f20 : Addr} {oc20 kV20 dc20 pm20 cd20 ct20 : Value} {od20 an20 : Option Addr} {sl20 : Array (Option Value)}
    {f21 : Addr} {oc21 kV21 dc21 pm21 cd21 ct21 : Value} {od21 an21 : Option Addr} {sl21 : Array (Option Value)}
    {f22 : Addr} {oc22 kV22 dc22 pm22 cd22 ct22 : Value} {od22 an22 : Option Addr} {sl22 : Array (Option Value)}
    {f23 : Addr} {oc23 kV23 dc23 pm23 cd23 ct23 : Value} {od23 an23 : Option Addr} {sl23 : Array (Option Value)}
    {f24 : Addr} {oc24 kV24 dc24 pm24 cd24 ct24 : Value} {od24 an24 : Option Addr} {sl24 : Array (Option Value)}
    {f25 : Addr} {oc25 kV25 dc25 pm25 cd25 ct25 : Value} {od25 an25 : Option Addr} {sl25 : Array (Option Value)}
    {f26 : Addr} {oc26 kV26 dc26 pm26 cd26 ct26 : Value} {od26 an26 : Option Addr} {sl26 : Array (Option Value)}
    {f27 : Addr} {oc27 kV27 dc27 pm27 cd27 ct27 : Value} {od27 an27 : Option Addr} {sl27 : Array (Option Value)}
    {f28 : Addr} {oc28 kV28 dc28 pm28 cd28 ct28 : Value} {od28 an28 : Option Addr} {sl28 : Array (Option Value)}
    {C_Fault : Addr}
    {C_Malformed : Addr}
    {C_Refused : Addr}
    (a0 : PySem.W.nsIn K mainGlobals "demand" = some (some (.ref f0)))
    (l0 : K.lookup f0 = some ⟨oc0, od0, .func (PySem.W.fnOf "demand" "demand" (defArgs s_f_demand) (defBody s_f_demand) (defScope s_f_demand) .none kV0 dc0 pm0 an0 cd0 ct0), sl0⟩) (c0 : PySem.W.codeIn K cd0 "demand" = true) (k0 : PySem.W.keepIn K (.ref f0) = true)
    (a1 : PySem.W.nsIn K mainGlobals "is_integer" = some (some (.ref f1)))
    (l1 : K.lookup f1 = some ⟨oc1, od1, .func (PySem.W.fnOf "is_integer" "is_integer" (defArgs s_f_is_integer) (defBody s_f_is_integer) (defScope s_f_is_integer) .none kV1 dc1 pm1 an1 cd1 ct1), sl1⟩) (c1 : PySem.W.codeIn K cd1 "is_integer" = true) (k1 : PySem.W.keepIn K (.ref f1) = true)
    (a2 : PySem.W.nsIn K mainGlobals "least_common" = some (some (.ref f2)))
    (l2 : K.lookup f2 = some ⟨oc2, od2, .func (PySem.W.fnOf "least_common" "least_common" (defArgs s_f_least_common) (defBody s_f_least_common) (defScope s_f_least_common) .none kV2 dc2 pm2 an2 cd2 ct2), sl2⟩) (c2 : PySem.W.codeIn K cd2 "least_common" = true) (k2 : PySem.W.keepIn K (.ref f2) = true)
    (a3 : PySem.W.nsIn K mainGlobals "then" = some (some (.ref f3)))
    (l3 : K.lookup f3 = some ⟨oc3, od3, .func (PySem.W.fnOf "then" "then" (defArgs s_f_then) (defBody s_f_then) (defScope s_f_then) .none kV3 dc3 pm3 an3 cd3 ct3), sl3⟩) (c3 : PySem.W.codeIn K cd3 "then" = true) (k3 : PySem.W.keepIn K (.ref f3) = true)
    (a4 : PySem.W.nsIn K mainGlobals "cycle_rows" = some (some (.ref f4)))
    (l4 : K.lookup f4 = some ⟨oc4, od4, .func (PySem.W.fnOf "cycle_rows" "cycle_rows" (defArgs s_f_cycle_rows) (defBody s_f_cycle_rows) (defScope s_f_cycle_rows) .none kV4 dc4 pm4 an4 cd4 ct4), sl4⟩) (c4 : PySem.W.codeIn K cd4 "cycle_rows" = true) (k4 : PySem.W.keepIn K (.ref f4) = true)
    (a5 : PySem.W.nsIn K mainGlobals "lengths_of" = some (some (.ref f5)))
    (l5 : K.lookup f5 = some ⟨oc5, od5, .func (PySem.W.fnOf "lengths_of" "lengths_of" (defArgs s_f_lengths_of) (defBody s_f_lengths_of) (defScope s_f_lengths_of) .none kV5 dc5 pm5 an5 cd5 ct5), sl5⟩) (c5 : PySem.W.codeIn K cd5 "lengths_of" = true) (k5 : PySem.W.keepIn K (.ref f5) = true)
    (a6 : PySem.W.nsIn K mainGlobals "is_permutation" = some (some (.ref f6)))
    (l6 : K.lookup f6 = some ⟨oc6, od6, .func (PySem.W.fnOf "is_permutation" "is_permutation" (defArgs s_f_is_permutation) (defBody s_f_is_permutation) (defScope s_f_is_permutation) .none kV6 dc6 pm6 an6 cd6 ct6), sl6⟩) (c6 : PySem.W.codeIn K cd6 "is_permutation" = true) (k6 : PySem.W.keepIn K (.ref f6) = true)
    (a7 : PySem.W.nsIn K mainGlobals "_demand_one" = some (some (.ref f7)))
    (l7 : K.lookup f7 = some ⟨oc7, od7, .func (PySem.W.fnOf "_demand_one" "_demand_one" (defArgs s_f__demand_one) (defBody s_f__demand_one) (defScope s_f__demand_one) .none kV7 dc7 pm7 an7 cd7 ct7), sl7⟩) (c7 : PySem.W.codeIn K cd7 "_demand_one" = true) (k7 : PySem.W.keepIn K (.ref f7) = true)
    (a8 : PySem.W.nsIn K mainGlobals "_demand_two" = some (some (.ref f8)))
    (l8 : K.lookup f8 = some ⟨oc8, od8, .func (PySem.W.fnOf "_demand_two" "_demand_two" (defArgs s_f__demand_two) (defBody s_f__demand_two) (defScope s_f__demand_two) .none kV8 dc8 pm8 an8 cd8 ct8), sl8⟩) (c8 : PySem.W.codeIn K cd8 "_demand_two" = true) (k8 : PySem.W.keepIn K (.ref f8) = true)
    (a9 : PySem.W.nsIn K mainGlobals "product_of" = some (some (.ref f9)))
    (l9 : K.lookup f9 = some ⟨oc9, od9, .func (PySem.W.fnOf "product_of" "product_of" (defArgs s_f_product_of) (defBody s_f_product_of) (defScope s_f_product_of) .none kV9 dc9 pm9 an9 cd9 ct9), sl9⟩) (c9 : PySem.W.codeIn K cd9 "product_of" = true) (k9 : PySem.W.keepIn K (.ref f9) = true)
    (a10 : PySem.W.nsIn K mainGlobals "cycles_of" = some (some (.ref f10)))
    (l10 : K.lookup f10 = some ⟨oc10, od10, .func (PySem.W.fnOf "cycles_of" "cycles_of" (defArgs s_f_cycles_of) (defBody s_f_cycles_of) (defScope s_f_cycles_of) .none kV10 dc10 pm10 an10 cd10 ct10), sl10⟩) (c10 : PySem.W.codeIn K cd10 "cycles_of" = true) (k10 : PySem.W.keepIn K (.ref f10) = true)
    (a11 : PySem.W.nsIn K mainGlobals "cycle_type" = some (some (.ref f11)))
    (l11 : K.lookup f11 = some ⟨oc11, od11, .func (PySem.W.fnOf "cycle_type" "cycle_type" (defArgs s_f_cycle_type) (defBody s_f_cycle_type) (defScope s_f_cycle_type) .none kV11 dc11 pm11 an11 cd11 ct11), sl11⟩) (c11 : PySem.W.codeIn K cd11 "cycle_type" = true) (k11 : PySem.W.keepIn K (.ref f11) = true)
    (a12 : PySem.W.nsIn K mainGlobals "order_of" = some (some (.ref f12)))
    (l12 : K.lookup f12 = some ⟨oc12, od12, .func (PySem.W.fnOf "order_of" "order_of" (defArgs s_f_order_of) (defBody s_f_order_of) (defScope s_f_order_of) .none kV12 dc12 pm12 an12 cd12 ct12), sl12⟩) (c12 : PySem.W.codeIn K cd12 "order_of" = true) (k12 : PySem.W.keepIn K (.ref f12) = true)
    (a13 : PySem.W.nsIn K mainGlobals "sign_of" = some (some (.ref f13)))
    (l13 : K.lookup f13 = some ⟨oc13, od13, .func (PySem.W.fnOf "sign_of" "sign_of" (defArgs s_f_sign_of) (defBody s_f_sign_of) (defScope s_f_sign_of) .none kV13 dc13 pm13 an13 cd13 ct13), sl13⟩) (c13 : PySem.W.codeIn K cd13 "sign_of" = true) (k13 : PySem.W.keepIn K (.ref f13) = true)
    (a14 : PySem.W.nsIn K mainGlobals "_law_state" = some (some (.ref f14)))
    (l14 : K.lookup f14 = some ⟨oc14, od14, .func (PySem.W.fnOf "_law_state" "_law_state" (defArgs s_f__law_state) (defBody s_f__law_state) (defScope s_f__law_state) .none kV14 dc14 pm14 an14 cd14 ct14), sl14⟩) (c14 : PySem.W.codeIn K cd14 "_law_state" = true) (k14 : PySem.W.keepIn K (.ref f14) = true)
    (a15 : PySem.W.nsIn K mainGlobals "_law_take" = some (some (.ref f15)))
    (l15 : K.lookup f15 = some ⟨oc15, od15, .func (PySem.W.fnOf "_law_take" "_law_take" (defArgs s_f__law_take) (defBody s_f__law_take) (defScope s_f__law_take) .none kV15 dc15 pm15 an15 cd15 ct15), sl15⟩) (c15 : PySem.W.codeIn K cd15 "_law_take" = true) (k15 : PySem.W.keepIn K (.ref f15) = true)
    (a16 : PySem.W.nsIn K mainGlobals "_law_same" = some (some (.ref f16)))
    (l16 : K.lookup f16 = some ⟨oc16, od16, .func (PySem.W.fnOf "_law_same" "_law_same" (defArgs s_f__law_same) (defBody s_f__law_same) (defScope s_f__law_same) .none kV16 dc16 pm16 an16 cd16 ct16), sl16⟩) (c16 : PySem.W.codeIn K cd16 "_law_same" = true) (k16 : PySem.W.keepIn K (.ref f16) = true)
    (a17 : PySem.W.nsIn K mainGlobals "_law_told" = some (some (.ref f17)))
    (l17 : K.lookup f17 = some ⟨oc17, od17, .func (PySem.W.fnOf "_law_told" "_law_told" (defArgs s_f__law_told) (defBody s_f__law_told) (defScope s_f__law_told) .none kV17 dc17 pm17 an17 cd17 ct17), sl17⟩) (c17 : PySem.W.codeIn K cd17 "_law_told" = true) (k17 : PySem.W.keepIn K (.ref f17) = true)
    (a18 : PySem.W.nsIn K mainGlobals "_law_is_told" = some (some (.ref f18)))
    (l18 : K.lookup f18 = some ⟨oc18, od18, .func (PySem.W.fnOf "_law_is_told" "_law_is_told" (defArgs s_f__law_is_told) (defBody s_f__law_is_told) (defScope s_f__law_is_told) .none kV18 dc18 pm18 an18 cd18 ct18), sl18⟩) (c18 : PySem.W.codeIn K cd18 "_law_is_told" = true) (k18 : PySem.W.keepIn K (.ref f18) = true)
    (a19 : PySem.W.nsIn K mainGlobals "_law_is_raised" = some (some (.ref f19)))
    (l19 : K.lookup f19 = some ⟨oc19, od19, .func (PySem.W.fnOf "_law_is_raised" "_law_is_raised" (defArgs s_f__law_is_raised) (defBody s_f__law_is_raised) (defScope s_f__law_is_raised) .none kV19 dc19 pm19 an19 cd19 ct19), sl19⟩) (c19 : PySem.W.codeIn K cd19 "_law_is_raised" = true) (k19 : PySem.W.keepIn K (.ref f19) = true)
    (a20 : PySem.W.nsIn K mainGlobals "_law_times" = some (some (.ref f20)))
    (l20 : K.lookup f20 = some ⟨oc20, od20, .func (PySem.W.fnOf "_law_times" "_law_times" (defArgs s_f__law_times) (defBody s_f__law_times) (defScope s_f__law_times) .none kV20 dc20 pm20 an20 cd20 ct20), sl20⟩) (c20 : PySem.W.codeIn K cd20 "_law_times" = true) (k20 : PySem.W.keepIn K (.ref f20) = true)
    (a21 : PySem.W.nsIn K mainGlobals "_law_drawn" = some (some (.ref f21)))
    (l21 : K.lookup f21 = some ⟨oc21, od21, .func (PySem.W.fnOf "_law_drawn" "_law_drawn" (defArgs s_f__law_drawn) (defBody s_f__law_drawn) (defScope s_f__law_drawn) .none kV21 dc21 pm21 an21 cd21 ct21), sl21⟩) (c21 : PySem.W.codeIn K cd21 "_law_drawn" = true) (k21 : PySem.W.keepIn K (.ref f21) = true)
    (a22 : PySem.W.nsIn K mainGlobals "_law_cycles" = some (some (.ref f22)))
    (l22 : K.lookup f22 = some ⟨oc22, od22, .func (PySem.W.fnOf "_law_cycles" "_law_cycles" (defArgs s_f__law_cycles) (defBody s_f__law_cycles) (defScope s_f__law_cycles) .none kV22 dc22 pm22 an22 cd22 ct22), sl22⟩) (c22 : PySem.W.codeIn K cd22 "_law_cycles" = true) (k22 : PySem.W.keepIn K (.ref f22) = true)
    (a23 : PySem.W.nsIn K mainGlobals "_law_type" = some (some (.ref f23)))
    (l23 : K.lookup f23 = some ⟨oc23, od23, .func (PySem.W.fnOf "_law_type" "_law_type" (defArgs s_f__law_type) (defBody s_f__law_type) (defScope s_f__law_type) .none kV23 dc23 pm23 an23 cd23 ct23), sl23⟩) (c23 : PySem.W.codeIn K cd23 "_law_type" = true) (k23 : PySem.W.keepIn K (.ref f23) = true)
    (a24 : PySem.W.nsIn K mainGlobals "_law_gcd" = some (some (.ref f24)))
    (l24 : K.lookup f24 = some ⟨oc24, od24, .func (PySem.W.fnOf "_law_gcd" "_law_gcd" (defArgs s_f__law_gcd) (defBody s_f__law_gcd) (defScope s_f__law_gcd) .none kV24 dc24 pm24 an24 cd24 ct24), sl24⟩) (c24 : PySem.W.codeIn K cd24 "_law_gcd" = true) (k24 : PySem.W.keepIn K (.ref f24) = true)
    (a25 : PySem.W.nsIn K mainGlobals "_law_turns" = some (some (.ref f25)))
    (l25 : K.lookup f25 = some ⟨oc25, od25, .func (PySem.W.fnOf "_law_turns" "_law_turns" (defArgs s_f__law_turns) (defBody s_f__law_turns) (defScope s_f__law_turns) .none kV25 dc25 pm25 an25 cd25 ct25), sl25⟩) (c25 : PySem.W.codeIn K cd25 "_law_turns" = true) (k25 : PySem.W.keepIn K (.ref f25) = true)
    (a26 : PySem.W.nsIn K mainGlobals "_law_made" = some (some (.ref f26)))
    (l26 : K.lookup f26 = some ⟨oc26, od26, .func (PySem.W.fnOf "_law_made" "_law_made" (defArgs s_f__law_made) (defBody s_f__law_made) (defScope s_f__law_made) .none kV26 dc26 pm26 an26 cd26 ct26), sl26⟩) (c26 : PySem.W.codeIn K cd26 "_law_made" = true) (k26 : PySem.W.keepIn K (.ref f26) = true)
    (a27 : PySem.W.nsIn K mainGlobals "_law_holds" = some (some (.ref f27)))
    (l27 : K.lookup f27 = some ⟨oc27, od27, .func (PySem.W.fnOf "_law_holds" "_law_holds" (defArgs s_f__law_holds) (defBody s_f__law_holds) (defScope s_f__law_holds) .none kV27 dc27 pm27 an27 cd27 ct27), sl27⟩) (c27 : PySem.W.codeIn K cd27 "_law_holds" = true) (k27 : PySem.W.keepIn K (.ref f27) = true)
    (a28 : PySem.W.nsIn K mainGlobals "law" = some (some (.ref f28)))
    (l28 : K.lookup f28 = some ⟨oc28, od28, .func (PySem.W.fnOf "law" "law" (defArgs s_f_law) (defBody s_f_law) (defScope s_f_law) .none kV28 dc28 pm28 an28 cd28 ct28), sl28⟩) (c28 : PySem.W.codeIn K cd28 "law" = true) (k28 : PySem.W.keepIn K (.ref f28) = true)
    (g_Fault : PySem.W.nsIn K mainGlobals "Fault" = some (some (.ref C_Fault)))
    (g_Malformed : PySem.W.nsIn K mainGlobals "Malformed" = some (some (.ref C_Malformed)))
    (g_Refused : PySem.W.nsIn K mainGlobals "Refused" = some (some (.ref C_Refused)))
    (n_abs : PySem.W.nsIn K mainGlobals "abs" = some none)
    (n_all : PySem.W.nsIn K mainGlobals "all" = some none)
    (n_bool : PySem.W.nsIn K mainGlobals "bool" = some none)
    (n_int : PySem.W.nsIn K mainGlobals "int" = some none)
    (n_isinstance : PySem.W.nsIn K mainGlobals "isinstance" = some none)
    (n_len : PySem.W.nsIn K mainGlobals "len" = some none)
    (n_list : PySem.W.nsIn K mainGlobals "list" = some none)
    (n_min : PySem.W.nsIn K mainGlobals "min" = some none)
    (n_range : PySem.W.nsIn K mainGlobals "range" = some none)
    (n_sorted : PySem.W.nsIn K mainGlobals "sorted" = some none)
    (n_str : PySem.W.nsIn K mainGlobals "str" = some none)
    (n_tuple : PySem.W.nsIn K mainGlobals "tuple" = some none)
    (b_lcm : PySem.W.nsIn K mainGlobals "lcm" = some (some (.builtin "math.lcm")))
    (exM : PySem.W.excIn K C_Malformed [.type "ValueError", .type "Exception", .type "BaseException", .type "object"] "ValueError.__new__" = true) (kpM : PySem.W.keepIn K (.ref C_Malformed) = true)
    (sbM : PySem.W.subIn K (.ref C_Malformed) (.type "BaseException") = some true) (tyM : PySem.W.typeIn K (.ref C_Malformed) = some (.type "type")) (icM : PySem.W.isClsIn K C_Malformed = true) (scM : PySem.W.subIn K (.ref C_Malformed) (.ref C_Malformed) = some true) :
    ∃ fd : FuncData, (∀ (s : Shared) (v : Value), BindsTo s fd ⟨[v], []⟩ [("script", v)]) ∧ ∀ base : Heap, K.In base → base.Ns mainGlobals mg → FnOk lp.prog w K mg base CX0 8 fa fd ["script"] (spLaw K) := by
  have e := hfa.symm.trans (PySem.W.mg_of X G a28)
  cases e
  have F0 := fun_mk (st := s_f_demand) l0 c0 k0
  have b0 := F0.binds (ps := ["holds", "what"]) fun _ _ _ _ _ _ us hl => match us, hl with | [_, _], _ => rfl
  have F1 := fun_mk (st := s_f_is_integer) l1 c1 k1
  have b1 := F1.binds (ps := ["value"]) fun _ _ _ _ _ _ us hl => match us, hl with | [_], _ => rfl
  have F2 := fun_mk (st := s_f_least_common) l2 c2 k2
  have b2 := F2.binds (ps := ["a", "b"]) fun _ _ _ _ _ _ us hl => match us, hl with | [_, _], _ => rfl
  have F3 := fun_mk (st := s_f_then) l3 c3 k3
  have b3 := F3.binds (ps := ["p", "q"]) fun _ _ _ _ _ _ us hl => match us, hl with | [_, _], _ => rfl
  have F4 := fun_mk (st := s_f_cycle_rows) l4 c4 k4
  have b4 := F4.binds (ps := ["p"]) fun _ _ _ _ _ _ us hl => match us, hl with | [_], _ => rfl
  have F5 := fun_mk (st := s_f_lengths_of) l5 c5 k5
  have b5 := F5.binds (ps := ["p"]) fun _ _ _ _ _ _ us hl => match us, hl with | [_], _ => rfl
  have F6 := fun_mk (st := s_f_is_permutation) l6 c6 k6
  have b6 := F6.binds (ps := ["value"]) fun _ _ _ _ _ _ us hl => match us, hl with | [_], _ => rfl
  have F7 := fun_mk (st := s_f__demand_one) l7 c7 k7
  have b7 := F7.binds (ps := ["p"]) fun _ _ _ _ _ _ us hl => match us, hl with | [_], _ => rfl
  have F8 := fun_mk (st := s_f__demand_two) l8 c8 k8
  have b8 := F8.binds (ps := ["p", "q"]) fun _ _ _ _ _ _ us hl => match us, hl with | [_, _], _ => rfl
  have F9 := fun_mk (st := s_f_product_of) l9 c9 k9
  have b9 := F9.binds (ps := ["p", "q"]) fun _ _ _ _ _ _ us hl => match us, hl with | [_, _], _ => rfl
  have F10 := fun_mk (st := s_f_cycles_of) l10 c10 k10
  have b10 := F10.binds (ps := ["p"]) fun _ _ _ _ _ _ us hl => match us, hl with | [_], _ => rfl
  have F11 := fun_mk (st := s_f_cycle_type) l11 c11 k11
  have b11 := F11.binds (ps := ["p"]) fun _ _ _ _ _ _ us hl => match us, hl with | [_], _ => rfl
  have F12 := fun_mk (st := s_f_order_of) l12 c12 k12
  have b12 := F12.binds (ps := ["p"]) fun _ _ _ _ _ _ us hl => match us, hl with | [_], _ => rfl
  have F13 := fun_mk (st := s_f_sign_of) l13 c13 k13
  have b13 := F13.binds (ps := ["p"]) fun _ _ _ _ _ _ us hl => match us, hl with | [_], _ => rfl
  have F14 := fun_mk (st := s_f__law_state) l14 c14 k14
  have b14 := F14.binds (ps := ["script"]) fun _ _ _ _ _ _ us hl => match us, hl with | [_], _ => rfl
  have F15 := fun_mk (st := s_f__law_take) l15 c15 k15
  have b15 := F15.binds (ps := ["state", "m"]) fun _ _ _ _ _ _ us hl => match us, hl with | [_, _], _ => rfl
  have F16 := fun_mk (st := s_f__law_same) l16 c16 k16
  have b16 := F16.binds (ps := ["value", "due"]) fun _ _ _ _ _ _ us hl => match us, hl with | [_, _], _ => rfl
  have F17 := fun_mk (st := s_f__law_told) l17 c17 k17
  have b17 := F17.binds (ps := ["f", "given"]) fun _ _ _ _ _ _ us hl => match us, hl with | [_, _], _ => rfl
  have F18 := fun_mk (st := s_f__law_is_told) l18 c18 k18
  have b18 := F18.binds (ps := ["pair", "due"]) fun _ _ _ _ _ _ us hl => match us, hl with | [_, _], _ => rfl
  have F19 := fun_mk (st := s_f__law_is_raised) l19 c19 k19
  have b19 := F19.binds (ps := ["pair", "reason"]) fun _ _ _ _ _ _ us hl => match us, hl with | [_, _], _ => rfl
  have F20 := fun_mk (st := s_f__law_times) l20 c20 k20
  have b20 := F20.binds (ps := ["p", "q"]) fun _ _ _ _ _ _ us hl => match us, hl with | [_, _], _ => rfl
  have F21 := fun_mk (st := s_f__law_drawn) l21 c21 k21
  have b21 := F21.binds (ps := ["state", "d"]) fun _ _ _ _ _ _ us hl => match us, hl with | [_, _], _ => rfl
  have F22 := fun_mk (st := s_f__law_cycles) l22 c22 k22
  have b22 := F22.binds (ps := ["p"]) fun _ _ _ _ _ _ us hl => match us, hl with | [_], _ => rfl
  have F23 := fun_mk (st := s_f__law_type) l23 c23 k23
  have b23 := F23.binds (ps := ["p"]) fun _ _ _ _ _ _ us hl => match us, hl with | [_], _ => rfl
  have F24 := fun_mk (st := s_f__law_gcd) l24 c24 k24
  have b24 := F24.binds (ps := ["a", "b"]) fun _ _ _ _ _ _ us hl => match us, hl with | [_, _], _ => rfl
  have F25 := fun_mk (st := s_f__law_turns) l25 c25 k25
  have b25 := F25.binds (ps := ["p"]) fun _ _ _ _ _ _ us hl => match us, hl with | [_], _ => rfl
  have F26 := fun_mk (st := s_f__law_made) l26 c26 k26
  have b26 := F26.binds (ps := ["state", "d"]) fun _ _ _ _ _ _ us hl => match us, hl with | [_, _], _ => rfl
  have F27 := fun_mk (st := s_f__law_holds) l27 c27 k27
  have b27 := F27.binds (ps := ["p"]) fun _ _ _ _ _ _ us hl => match us, hl with | [_], _ => rfl
  have F28 := fun_mk (st := s_f_law) l28 c28 k28
  have b28 := F28.binds (ps := ["script"]) fun _ _ _ _ _ _ us hl => match us, hl with | [_], _ => rfl
  let A : Adr := ⟨f0, f1, f2, f3, f4, f5, f6, f7, f8, f9, f10, f11, f12, f13, f14, f15, f16, f17, f18, f19, f20, f21, f22, f23, f24, f25, f26, f27, fa, C_Fault, C_Malformed, C_Refused⟩
  have T : Tx K mg A := ⟨PySem.W.mg_of X G a0, PySem.W.mg_of X G a1, PySem.W.mg_of X G a2, PySem.W.mg_of X G a3, PySem.W.mg_of X G a4, PySem.W.mg_of X G a5, PySem.W.mg_of X G a6, PySem.W.mg_of X G a7, PySem.W.mg_of X G a8, PySem.W.mg_of X G a9, PySem.W.mg_of X G a10, PySem.W.mg_of X G a11, PySem.W.mg_of X G a12, PySem.W.mg_of X G a13, PySem.W.mg_of X G a14, PySem.W.mg_of X G a15, PySem.W.mg_of X G a16, PySem.W.mg_of X G a17, PySem.W.mg_of X G a18, PySem.W.mg_of X G a19, PySem.W.mg_of X G a20, PySem.W.mg_of X G a21, PySem.W.mg_of X G a22, PySem.W.mg_of X G a23, PySem.W.mg_of X G a24, PySem.W.mg_of X G a25, PySem.W.mg_of X G a26, PySem.W.mg_of X G a27, PySem.W.mg_of X G a28, PySem.W.mg_of X G g_Fault, PySem.W.mg_of X G g_Malformed, PySem.W.mg_of X G g_Refused, PySem.W.mg_none_of X G n_abs, PySem.W.mg_none_of X G n_all, PySem.W.mg_none_of X G n_bool, PySem.W.mg_none_of X G n_int, PySem.W.mg_none_of X G n_isinstance, PySem.W.mg_none_of X G n_len, PySem.W.mg_none_of X G n_list, PySem.W.mg_none_of X G n_min, PySem.W.mg_none_of X G n_range, PySem.W.mg_none_of X G n_sorted, PySem.W.mg_none_of X G n_str, PySem.W.mg_none_of X G n_tuple, PySem.W.mg_of X G b_lcm, exM, kpM, sbM, tyM, exm_self sbM icM tyM scM⟩
  refine ⟨PySem.W.fnOf "law" "law" (defArgs s_f_law) (defBody s_f_law) (defScope s_f_law) .none kV28 dc28 pm28 an28 cd28 ct28, fun s v => .of_eq rfl, fun base kb gb => ?_⟩
  have D0 := ok_f_demand (P := lp.prog) (w := w) (base := base) (A := A) F0 b0 T 
  have D1 := ok_f_is_integer (P := lp.prog) (w := w) (base := base) (A := A) F1 b1 T 
  have D2 := ok_f_least_common (P := lp.prog) (w := w) (base := base) (A := A) F2 b2 T 
  have D3 := ok_f_then (P := lp.prog) (w := w) (base := base) (A := A) F3 b3 T 
  have D4 := ok_f_cycle_rows (P := lp.prog) (w := w) (base := base) (A := A) F4 b4 T 
  have D5 := ok_f_lengths_of (P := lp.prog) (w := w) (base := base) (A := A) F5 b5 T D4
  have D6 := ok_f_is_permutation (P := lp.prog) (w := w) (base := base) (A := A) F6 b6 T D1
  have D7 := ok_f__demand_one (P := lp.prog) (w := w) (base := base) (A := A) F7 b7 T D6 D0
  have D8 := ok_f__demand_two (P := lp.prog) (w := w) (base := base) (A := A) F8 b8 T D7 D0
  have D9 := ok_f_product_of (P := lp.prog) (w := w) (base := base) (A := A) F9 b9 T D8 D3
  have D10 := ok_f_cycles_of (P := lp.prog) (w := w) (base := base) (A := A) F10 b10 T D7 D4
  have D11 := ok_f_cycle_type (P := lp.prog) (w := w) (base := base) (A := A) F11 b11 T D7 D5
  have D12 := ok_f_order_of (P := lp.prog) (w := w) (base := base) (A := A) F12 b12 T D7 D5 D2
  have D13 := ok_f_sign_of (P := lp.prog) (w := w) (base := base) (A := A) F13 b13 T D7 D4
  have D14 := ok_f__law_state (P := lp.prog) (w := w) (base := base) (A := A) F14 b14 T 
  have D15 := ok_f__law_take (P := lp.prog) (w := w) (base := base) (A := A) F15 b15 T 
  have D16 := ok_f__law_same (P := lp.prog) (w := w) (base := base) (A := A) F16 b16 T  4
  have hT := tab_ok (P := lp.prog) (w := w) (base := base) D10 D11 D12 D13
  have D17 := ok_f__law_told (P := lp.prog) (w := w) (base := base) (A := A) F17 b17 T  hT
  have D18 := ok_f__law_is_told (P := lp.prog) (w := w) (base := base) (A := A) F18 b18 T D16
  have D19 := ok_f__law_is_raised (P := lp.prog) (w := w) (base := base) (A := A) F19 b19 T D16
  have D20 := ok_f__law_times (P := lp.prog) (w := w) (base := base) (A := A) F20 b20 T 
  have D21 := ok_f__law_drawn (P := lp.prog) (w := w) (base := base) (A := A) F21 b21 T D15
  have D22 := ok_f__law_cycles (P := lp.prog) (w := w) (base := base) (A := A) F22 b22 T 
  have D23 := ok_f__law_type (P := lp.prog) (w := w) (base := base) (A := A) F23 b23 T D22
  have D24 := ok_f__law_gcd (P := lp.prog) (w := w) (base := base) (A := A) F24 b24 T 
  have D25 := ok_f__law_turns (P := lp.prog) (w := w) (base := base) (A := A) F25 b25 T 
  have D26 := ok_f__law_made (P := lp.prog) (w := w) (base := base) (A := A) F26 b26 T D21 D15
  have D27 := ok_f__law_holds (P := lp.prog) (w := w) (base := base) (A := A) F27 b27 T D23 D24 D25 D17 D22 D18
  have ne_1_0 : A.f_cycle_type ≠ A.f_cycles_of := fn_ne l11 l10 (show ("cycle_type" : Str) ≠ ("cycles_of" : Str) by decide)
  have ne_2_0 : A.f_order_of ≠ A.f_cycles_of := fn_ne l12 l10 (show ("order_of" : Str) ≠ ("cycles_of" : Str) by decide)
  have ne_2_1 : A.f_order_of ≠ A.f_cycle_type := fn_ne l12 l11 (show ("order_of" : Str) ≠ ("cycle_type" : Str) by decide)
  have ne_3_0 : A.f_sign_of ≠ A.f_cycles_of := fn_ne l13 l10 (show ("sign_of" : Str) ≠ ("cycles_of" : Str) by decide)
  have ne_3_1 : A.f_sign_of ≠ A.f_cycle_type := fn_ne l13 l11 (show ("sign_of" : Str) ≠ ("cycle_type" : Str) by decide)
  have ne_3_2 : A.f_sign_of ≠ A.f_order_of := fn_ne l13 l12 (show ("sign_of" : Str) ≠ ("order_of" : Str) by decide)
  refine fn_cx0 (fnok_law (P := lp.prog) (w := w) (base := base) (A := A) F28 T D14 D15 D26 D21 D27 D20 D9 D13 D17 D19) ?_
  rintro vs H Q E ⟨a, ns, rfl, hS, hl, q⟩
  exact law_true (law_math A ⟨ne_1_0, ne_2_0, ne_2_1, ne_3_0, ne_3_1, ne_3_2⟩ ns hl) hS q

end K05
open PySem PySem.W PyProof.Rows
set_option maxHeartbeats 0 in
theorem PySem.Challenge.cw_branchsheets_k05_cycles_types_orders_and_holds : PySem.Challenge.rw_branchsheets_k05_cycles_types_orders_and.Holds := by
  w_on; o_law; k_head; (case hw => w_witness2)
  k_fill
  refine L2.walk_of (l := PySem.Challenge.rw_branchsheets_k05_cycles_types_orders_and) (n := 63) (k := 8) (x := "script") (CX := fun _ => L2.CX0) (sp := fun w => K05.spLaw _) rfl (by decide) rfl ⟨rfl, by decide, by decide⟩ (fun w h Y => PySem.W.kIn_of Y) ?F (fun _ _ a ns hl _ hS => ⟨a, ns, rfl, hS, hl, fun _ => rfl⟩) (fun _ _ _ _ _ h => h)
  case F =>
    intro w mg fa h KX G hmg
    refine' K05.all_mk KX G hmg ?a0 ?l0 ?c0 ?k0 ?a1 ?l1 ?c1 ?k1 ?a2 ?l2 ?c2 ?k2 ?a3 ?l3 ?c3 ?k3 ?a4 ?l4 ?c4 ?k4 ?a5 ?l5 ?c5 ?k5 ?a6 ?l6 ?c6 ?k6 ?a7 ?l7 ?c7 ?k7 ?a8 ?l8 ?c8 ?k8 ?a9 ?l9 ?c9 ?k9 ?a10 ?l10 ?c10 ?k10 ?a11 ?l11 ?c11 ?k11 ?a12 ?l12 ?c12 ?k12 ?a13 ?l13 ?c13 ?k13 ?a14 ?l14 ?c14 ?k14 ?a15 ?l15 ?c15 ?k15 ?a16 ?l16 ?c16 ?k16 ?a17 ?l17 ?c17 ?k17 ?a18 ?l18 ?c18 ?k18 ?a19 ?l19 ?c19 ?k19 ?a20 ?l20 ?c20 ?k20 ?a21 ?l21 ?c21 ?k21 ?a22 ?l22 ?c22 ?k22 ?a23 ?l23 ?c23 ?k23 ?a24 ?l24 ?c24 ?k24 ?a25 ?l25 ?c25 ?k25 ?a26 ?l26 ?c26 ?k26 ?a27 ?l27 ?c27 ?k27 ?a28 ?l28 ?c28 ?k28 ?g_Fault ?g_Malformed ?g_Refused ?n_abs ?n_all ?n_bool ?n_int ?n_isinstance ?n_len ?n_list ?n_min ?n_range ?n_sorted ?n_str ?n_tuple ?b_lcm ?exM ?kpM ?sbM ?tyM ?icM ?scM
    (case a0 => k_is); (case l0 => k_is); (case c0 => k_is); (case k0 => k_is); (case a1 => k_is); (case l1 => k_is); (case c1 => k_is); (case k1 => k_is)
    (case a2 => k_is); (case l2 => k_is); (case c2 => k_is); (case k2 => k_is); (case a3 => k_is); (case l3 => k_is); (case c3 => k_is); (case k3 => k_is)
    (case a4 => k_is); (case l4 => k_is); (case c4 => k_is); (case k4 => k_is); (case a5 => k_is); (case l5 => k_is); (case c5 => k_is); (case k5 => k_is)
    (case a6 => k_is); (case l6 => k_is); (case c6 => k_is); (case k6 => k_is); (case a7 => k_is); (case l7 => k_is); (case c7 => k_is); (case k7 => k_is)
    (case a8 => k_is); (case l8 => k_is); (case c8 => k_is); (case k8 => k_is); (case a9 => k_is); (case l9 => k_is); (case c9 => k_is); (case k9 => k_is)
    (case a10 => k_is); (case l10 => k_is); (case c10 => k_is); (case k10 => k_is); (case a11 => k_is); (case l11 => k_is); (case c11 => k_is); (case k11 => k_is)
    (case a12 => k_is); (case l12 => k_is); (case c12 => k_is); (case k12 => k_is); (case a13 => k_is); (case l13 => k_is); (case c13 => k_is); (case k13 => k_is)
    (case a14 => k_is); (case l14 => k_is); (case c14 => k_is); (case k14 => k_is); (case a15 => k_is); (case l15 => k_is); (case c15 => k_is); (case k15 => k_is)
    (case a16 => k_is); (case l16 => k_is); (case c16 => k_is); (case k16 => k_is); (case a17 => k_is); (case l17 => k_is); (case c17 => k_is); (case k17 => k_is)
    (case a18 => k_is); (case l18 => k_is); (case c18 => k_is); (case k18 => k_is); (case a19 => k_is); (case l19 => k_is); (case c19 => k_is); (case k19 => k_is)
    (case a20 => k_is); (case l20 => k_is); (case c20 => k_is); (case k20 => k_is); (case a21 => k_is); (case l21 => k_is); (case c21 => k_is); (case k21 => k_is)
    (case a22 => k_is); (case l22 => k_is); (case c22 => k_is); (case k22 => k_is); (case a23 => k_is); (case l23 => k_is); (case c23 => k_is); (case k23 => k_is)
    (case a24 => k_is); (case l24 => k_is); (case c24 => k_is); (case k24 => k_is); (case a25 => k_is); (case l25 => k_is); (case c25 => k_is); (case k25 => k_is)
    (case a26 => k_is); (case l26 => k_is); (case c26 => k_is); (case k26 => k_is); (case a27 => k_is); (case l27 => k_is); (case c27 => k_is); (case k27 => k_is)
    (case a28 => k_is); (case l28 => k_is); (case c28 => k_is); (case k28 => k_is); (case g_Fault => k_is); (case g_Malformed => k_is); (case g_Refused => k_is); (case n_abs => k_is)
    (case n_all => k_is); (case n_bool => k_is); (case n_int => k_is); (case n_isinstance => k_is); (case n_len => k_is); (case n_list => k_is); (case n_min => k_is); (case n_range => k_is)
    (case n_sorted => k_is); (case n_str => k_is); (case n_tuple => k_is); (case b_lcm => k_is); (case kpM => k_is); (case sbM => k_is); (case tyM => k_is); (case icM => k_is)
    (case scM => k_is)
    (case exM => k_exc)

