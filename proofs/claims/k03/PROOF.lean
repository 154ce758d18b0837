import PyProof.Rows.All
import HandS.ForMost
import HandS.ForExc
import HandS.Wide
import HandS.Gcd
import HandS.Defaults
import HandS.RaiseMore
import HandS.HeadHook1
import HandS.TupMul
import HandS.Style
import HandS.Steps
import HandS.HeadEnd
import KE.KMathG
import KE.KStateDown
import HandS.Head0
import HandS.Head1
import HandS.Head2
import HandS.Head3
import HandS.HeadHook2
import PyProof.ReprRoads
import PyProof.Rows.ReprR
import HandS.ExcValue
import HandS.ExcOwn
import HandS.ExcIs
import PyProof.Rows.Digits
import HandS.FStr
import PyProof.Rows.CountFlat
import PySem.Challenge.RW_twospeeds_k03_arithmetic
set_option Elab.async false
set_option linter.all false
set_option maxRecDepth 100000
namespace FD
open PySem PySem.Spec PyProof.Rows L2
abbrev St := L2.St

/-- at a: an exception of this class, with this dict -/
def ExK (cls : Value) (d : Option Addr) (a : Addr) : HO := .ext fun h => ∃ (oe : Obj) (vs : Array Value), h.get? a = some oe ∧ Zc cls d oe ∧ oe.data = .fields vs
/-! ## values as data -/
inductive DV where
  | non | bl (b : Bool) | int (i : Int) | str (x : Str) | tup (ds : List DV) | lst (ds : List DV) | scr (ns : List Int) | raw (v : V) | exc (c : Str)

mutual
/-- the value v is the datum d in the heap G -/
def Rp (K : PySem.W.Frag) (G : Hp) (v : V) : DV → Prop
  | .non => v = .non
  | .bl b => v = .bl b
  | .int i => v = .int i
  | .str x => v = .str x
  | .tup ds => ∃ a vs, v = .ref a ∧ SqT K G a vs ∧ RpL K G vs ds
  | .lst ds => ∃ a vs, v = .ref a ∧ G a = some (.lst vs) ∧ RpL K G vs ds
  | .scr ns => ∃ a, v = .ref a ∧ SqL K G a (ns.map V.int)
  | .raw u => v = u
  | .exc c => ∃ a, v = .ref a ∧ G a = some (ExK (.ref (He.ga K c)) none a)
def RpL (K : PySem.W.Frag) (G : Hp) (vs : List V) : List DV → Prop
  | [] => vs = []
  | d :: ds => ∃ v r, vs = v :: r ∧ Rp K G v d ∧ RpL K G r ds
end

theorem Same.tup {K : PySem.W.Frag} {H H' : Hp} {a : Addr} {xs : List V} (e : Same H H') (h : SqT K H a xs) : SqT K H' a xs := by
  rcases h with (h | ⟨o, h⟩) | h
  · exact .inl (.inl (e _ _ h))
  · exact .inl (.inr ⟨o, e _ _ h⟩)
  · exact .inr h
section
variable {K : PySem.W.Frag} {G G' H : Hp}
mutual
theorem Rp.mono (e : Same G G') : ∀ (d : DV) (v : V), Rp K G v d → Rp K G' v d
  | .non, _, h => h
  | .bl _, _, h => h
  | .int _, _, h => h
  | .str _, _, h => h
  | .tup ds, _, h => by
    obtain ⟨a, vs, e1, h1, h2⟩ := h
    exact ⟨a, vs, e1, Same.tup e h1, RpL.mono e ds vs h2⟩
  | .lst ds, _, h => by
    obtain ⟨a, vs, e1, h1, h2⟩ := h
    exact ⟨a, vs, e1, e _ _ h1, RpL.mono e ds vs h2⟩
  | .scr _, _, h => by
    obtain ⟨a, e1, h1⟩ := h
    exact ⟨a, e1, e.seq h1⟩
  | .raw _, _, h => h
  | .exc _, _, h => by
    obtain ⟨a, e1, h1⟩ := h
    exact ⟨a, e1, e _ _ h1⟩
theorem RpL.mono (e : Same G G') : ∀ (ds : List DV) (vs : List V), RpL K G vs ds → RpL K G' vs ds
  | [], _, h => h
  | d :: ds, _, h => by
    obtain ⟨v, r, e1, h1, h2⟩ := h
    exact ⟨v, r, e1, Rp.mono e d v h1, RpL.mono e ds r h2⟩
end
theorem RpL.length : ∀ {ds : List DV} {vs : List V}, RpL K G vs ds → vs.length = ds.length
  | [], _, h => by
    have h' : _ = [] := h
    rw [h']; rfl
  | d :: ds, _, h => by
    obtain ⟨v, r, e1, _, h2⟩ := h
    rw [e1, List.length_cons, List.length_cons, RpL.length h2]
theorem RpL.get : ∀ {ds : List DV} {vs : List V} {i : Nat} {d : DV}, RpL K G vs ds → ds[i]? = some d → ∃ v, vs[i]? = some v ∧ Rp K G v d
  | [], _, i, d, _, e => by simp at e
  | d :: ds, _, 0, d', h, e => by
    obtain ⟨v, r, e1, h1, h2⟩ := h
    simp at e
    subst e e1
    exact ⟨v, rfl, h1⟩
  | d :: ds, _, i + 1, d', h, e => by
    obtain ⟨v, r, e1, h1, h2⟩ := h
    subst e1
    obtain ⟨w, q1, q2⟩ := RpL.get (i := i) h2 (by simpa using e)
    exact ⟨w, by simpa using q1, q2⟩
theorem RpL.get' : ∀ {ds : List DV} {vs : List V} {i : Nat} {v : V}, RpL K G vs ds → vs[i]? = some v → ∃ d, ds[i]? = some d ∧ Rp K G v d := fun {ds vs i v} h e => by
  have hl := h.length
  have hi : i < vs.length := (List.getElem?_eq_some_iff.mp e).1
  have hd : ds[i]? = some ds[i] := List.getElem?_eq_getElem (by omega)
  obtain ⟨w, q1, q2⟩ := h.get hd
  rw [e] at q1
  cases q1
  exact ⟨_, hd, q2⟩
theorem RpL.append : ∀ {ds es : List DV} {vs us : List V}, RpL K G vs ds → RpL K G us es → RpL K G (vs ++ us) (ds ++ es)
  | [], _, _, _, h, h' => by
    have e : _ = [] := h
    subst e
    exact h'
  | d :: ds, es, _, us, h, h' => by
    obtain ⟨v, r, e1, h1, h2⟩ := h
    subst e1
    exact ⟨v, r ++ us, rfl, h1, RpL.append h2 h'⟩
theorem RpL.one {v : V} {d : DV} (h : Rp K G v d) : RpL K G [v] [d] := ⟨v, [], rfl, h, rfl⟩
theorem RpL.take : ∀ {ds : List DV} {vs : List V} (n : Nat), RpL K G vs ds → RpL K G (vs.take n) (ds.take n)
  | [], _, n, h => by
    have e : _ = [] := h
    subst e
    simp
    rfl
  | d :: ds, _, 0, h => rfl
  | d :: ds, _, n + 1, h => by
    obtain ⟨v, r, e1, h1, h2⟩ := h
    subst e1
    exact ⟨v, r.take n, rfl, h1, RpL.take n h2⟩
theorem RpL.drop : ∀ {ds : List DV} {vs : List V} (n : Nat), RpL K G vs ds → RpL K G (vs.drop n) (ds.drop n)
  | [], _, n, h => by
    have e : _ = [] := h
    subst e
    simp
    rfl
  | d :: ds, _, 0, h => h
  | d :: ds, _, n + 1, h => by
    obtain ⟨v, r, e1, h1, h2⟩ := h
    subst e1
    exact RpL.drop n h2
theorem RpL.set : ∀ {ds : List DV} {vs : List V} (i : Nat) {v : V} {d : DV}, RpL K G vs ds → Rp K G v d → RpL K G (vs.set i v) (ds.set i d)
  | [], _, n, v, d, h, _ => by
    have e : _ = [] := h
    subst e
    simp
    rfl
  | d :: ds, _, 0, w, e, h, q => by
    obtain ⟨v, r, e1, h1, h2⟩ := h
    subst e1
    exact ⟨w, r, rfl, q, h2⟩
  | d :: ds, _, n + 1, w, e, h, q => by
    obtain ⟨v, r, e1, h1, h2⟩ := h
    subst e1
    exact ⟨v, _, rfl, h1, RpL.set n h2 q⟩
theorem RpL.ints : ∀ (ns : List Int), RpL K G (ns.map V.int) (ns.map DV.int)
  | [] => rfl
  | n :: ns => ⟨_, _, rfl, rfl, RpL.ints ns⟩
theorem RpL.ints' : ∀ {ns : List Int} {vs : List V}, RpL K G vs (ns.map DV.int) → vs = ns.map V.int
  | [], vs, h => h
  | n :: ns, vs, h => by
    obtain ⟨v, r, e1, h1, h2⟩ := h
    have q : v = .int n := h1
    rw [e1, q, RpL.ints' h2]
    rfl
end

/-! ## the state: the frame's slots, the spool -/
inductive SV where
  | dat (d : DV) | own (ds : List DV) | spl
structure Spl where
  nums : List Int
  place : Int
  cell : Int
  size : Int
structure S where
  sl : List (Option SV)
  sp : Spl
/-- the entry: ghost heap, heap, the spool's address -/
structure Cn where
  G0 : Hp
  H0 : Hp
  sp : Option Addr
  W : Value → Option Addr → St → Hp → Prop
abbrev noW : Value → Option Addr → St → Hp → Prop := fun _ _ _ _ => False

def SpOk (K : PySem.W.Frag) (G H : Hp) (sp : Option Addr) (s : Spl) : Prop :=
  match sp with
  | none => True
  | some a => G a = none ∧ ∃ nb, H a = some (.lst [.ref nb, .int s.place, .int s.cell, .int s.size]) ∧ Rp K G (.ref nb) (.lst (s.nums.map DV.int))
def SlOk (K : PySem.W.Frag) (C : Cn) (G H : Hp) (o : Option V) : Option SV → Prop
  | none => True
  | some (.dat d) => ∃ v, o = some v ∧ Rp K G v d
  | some (.own ds) => ∃ a vs, o = some (.ref a) ∧ H a = some (.lst vs) ∧ RpL K G vs ds ∧ G a = none ∧ C.H0 a = none ∧ C.sp ≠ some a
  | some .spl => ∃ a, C.sp = some a ∧ o = some (.ref a)

structure Ab (K : PySem.W.Frag) (C : Cn) (G H : Hp) (σ : List (Option V)) (s : S) : Prop where
  gh : Same G H
  fr : ∀ b o, C.H0 b = some o → C.sp ≠ some b → H b = some o
  g0 : Same C.G0 G
  gn : ∀ b, C.H0 b ≠ none → G b = C.G0 b
  len : σ.length = s.sl.length
  sl : ∀ (i : Nat) v x, σ[i]? = some v → s.sl[i]? = some x → SlOk K C G H v x
  dis : ∀ (i j : Nat) a ds es, i ≠ j → s.sl[i]? = some (some (.own ds)) → s.sl[j]? = some (some (.own es)) → σ[i]? = some (some (.ref a)) → σ[j]? ≠ some (some (.ref a))
  spk : SpOk K G H C.sp s.sp

section
variable {K : PySem.W.Frag} {C : Cn} {G H G' H' : Hp} {σ : List (Option V)} {s : S}
theorem Ab.h0 (A : Ab K C G H σ s) {b : Addr} (h : C.H0 b ≠ none) : H b ≠ none := by
  by_cases e : C.sp = some b
  · have q := A.spk
    unfold SpOk at q
    rw [e] at q
    obtain ⟨_, nb, q1, _⟩ := q
    rw [q1]
    exact fun z => nomatch z
  · cases z : C.H0 b with
    | none => exact absurd z h
    | some o => rw [A.fr b o z e]; exact fun z => nomatch z
theorem Ab.slot (A : Ab K C G H σ s) {i : Nat} {x : Option SV} (h : s.sl[i]? = some x) : ∃ v, σ[i]? = some v ∧ SlOk K C G H v x := by
  have hi : i < s.sl.length := (List.getElem?_eq_some_iff.mp h).1
  have hi' : i < σ.length := by rw [A.len]; exact hi
  have hs : σ[i]? = some σ[i] := List.getElem?_eq_getElem hi'
  exact ⟨_, hs, A.sl i _ x hs h⟩
/-- the heaps grow: what was tracked stays (but the spool, which stays as said), the ghost grows by new things -/
structure Fw (G H G' H' : Hp) (sp : Option Addr) : Prop where
  g : Same G G'
  gh : Same G' H'
  h : ∀ b o, H b = some o → sp ≠ some b → H' b = some o
  n : ∀ b, H b ≠ none → G' b = G b
theorem SlOk.fw {v : Option V} {x : Option SV} (F : Fw G H G' H' C.sp) (h : SlOk K C G H v x) : SlOk K C G' H' v x := by
  match x, h with
  | none, h => trivial
  | some (.dat d), h =>
    obtain ⟨v, e, r⟩ := h
    exact ⟨v, e, Rp.mono F.g d v r⟩
  | some (.own ds), h =>
    obtain ⟨a, vs, e, h1, h2, h3, h4, h5⟩ := h
    exact ⟨a, vs, e, F.h _ _ h1 h5, RpL.mono F.g ds vs h2, by rw [F.n a (by rw [h1]; exact fun z => nomatch z)]; exact h3, h4, h5⟩
  | some .spl, h => exact h
theorem Ab.fw (A : Ab K C G H σ s) (F : Fw G H G' H' C.sp) {sp' : Spl} (k : SpOk K G' H' C.sp sp') : Ab K C G' H' σ { s with sp := sp' } where
  gh := F.gh
  fr := fun b o e n => F.h b o (A.fr b o e n) n
  g0 := A.g0.trans F.g
  gn := fun b e => by rw [F.n b (A.h0 e), A.gn b e]
  len := A.len
  sl := fun i v x e1 e2 => (A.sl i v x e1 e2).fw F
  dis := A.dis
  spk := k
/-- the same where the spool's cell stays too -/
theorem Fw.none_any (F : Fw G H G' H' none) (sp : Option Addr) : Fw G H G' H' sp := ⟨F.g, F.gh, fun b o e _ => F.h b o e (fun z => nomatch z), F.n⟩
theorem SpOk.fw {sp : Option Addr} {t : Spl} (F : Fw G H G' H' none) (k : SpOk K G H sp t) : SpOk K G' H' sp t := by
  unfold SpOk at *
  cases sp with
  | none => trivial
  | some a =>
    obtain ⟨h1, nb, h2, h3⟩ := k
    exact ⟨by rw [F.n a (by rw [h2]; exact fun z => nomatch z)]; exact h1, nb, F.h _ _ h2 (fun z => nomatch z), Rp.mono F.g _ _ h3⟩
theorem Ab.fw0 (A : Ab K C G H σ s) (F : Fw G H G' H' none) : Ab K C G' H' σ s := A.fw (F.none_any _) (A.spk.fw F)
/-- a new object that joins the data -/
theorem Fw.add (A : Same G H) {p : Addr} {o : HO} (hp : H p = none) : Fw G H (upd G p o) (upd H p o) none where
  g := fun b u e => by rw [upd_ne (fun z => by rw [z] at e; rw [A _ _ e] at hp; cases hp)]; exact e
  gh := fun b u e => by
    by_cases z : b = p
    · rw [z, upd_same] at e ⊢
      exact e
    · rw [upd_ne z] at e ⊢
      exact A _ _ e
  h := fun b u e _ => by rw [upd_ne (fun z => by rw [z, hp] at e; cases e)]; exact e
  n := fun b e => upd_ne (fun z => e (by rw [z]; exact hp))
/-- a new object that is left outside -/
theorem Fw.lay (A : Same G H) {p : Addr} {o : HO} (hp : H p = none) : Fw G H G (upd H p o) none where
  g := Same.refl G
  gh := fun b u e => by rw [upd_ne (fun z => by rw [z] at e; rw [A _ _ e] at hp; cases hp)]; exact A _ _ e
  h := fun b u e _ => by rw [upd_ne (fun z => by rw [z, hp] at e; cases e)]; exact e
  n := fun b e => rfl
theorem Fw.refl (A : Same G H) : Fw G H G H none := ⟨Same.refl _, A, fun _ _ e _ => e, fun _ _ => rfl⟩
/-- an owned list joins the data -/
theorem Ab.freeze (A : Ab K C G H σ s) {i : Nat} {ds : List DV} (h : s.sl[i]? = some (some (.own ds))) :
    ∃ a vs, σ[i]? = some (some (.ref a)) ∧ Ab K C (upd G a (.lst vs)) H σ { s with sl := s.sl.set i (some (.dat (.lst ds))) } ∧ Rp K (upd G a (.lst vs)) (.ref a) (.lst ds) ∧ Same G (upd G a (.lst vs)) := by
  obtain ⟨v, e1, a, vs, e2, h1, h2, h3, h4, h5⟩ := A.slot h
  subst e2
  have sg : Same G (upd G a (.lst vs)) := fun b u e => by rw [upd_ne (fun z => by rw [z, h3] at e; cases e)]; exact e
  have rp : Rp K (upd G a (.lst vs)) (.ref a) (.lst ds) := ⟨a, vs, rfl, upd_same, RpL.mono sg ds vs h2⟩
  have hi : i < s.sl.length := (List.getElem?_eq_some_iff.mp h).1
  refine ⟨a, vs, e1, ⟨fun b u e => ?_, A.fr, A.g0.trans sg, fun b e => ?_, by rw [List.length_set]; exact A.len, fun j v x q1 q2 => ?_, fun j k b es fs n q1 q2 q3 => ?_, ?_⟩, rp, sg⟩
  · by_cases z : b = a
    · rw [z, upd_same] at e
      rw [z, ← e]
      exact h1
    · rw [upd_ne z] at e
      exact A.gh _ _ e
  · rw [upd_ne (fun z => e (by rw [z]; exact h4)), A.gn b e]
  · rw [List.getElem?_set] at q2
    by_cases z : i = j
    · subst z
      rw [if_pos rfl, if_pos hi] at q2
      cases q2
      rw [e1] at q1
      cases q1
      exact ⟨_, rfl, rp⟩
    · rw [if_neg z] at q2
      have r := A.sl j v x q1 q2
      match x, r with
      | none, _ => trivial
      | some (.dat d), ⟨w, e, r⟩ => exact ⟨w, e, Rp.mono sg d w r⟩
      | some (.own es), ⟨b, us, e, r1, r2, r3, r4, r5⟩ =>
        subst e
        have nb : b ≠ a := fun zz => A.dis i j a ds es z h q2 e1 (by rw [q1, zz])
        exact ⟨b, us, rfl, r1, RpL.mono sg es us r2, by rw [upd_ne nb]; exact r3, r4, r5⟩
      | some .spl, r => exact r
  · have nj : ∀ {k : Nat} {es : List DV}, (s.sl.set i (some (.dat (.lst ds))))[k]? = some (some (.own es)) → s.sl[k]? = some (some (.own es)) := fun {k es} q => by
      rw [List.getElem?_set] at q
      by_cases z : i = k
      · rw [if_pos z] at q
        split at q
        · cases q
        · cases q
      · rw [if_neg z] at q
        exact q
    exact A.dis j k b es fs n (nj q1) (nj q2) q3
  · have k := A.spk
    unfold SpOk at *
    cases z : C.sp with
    | none => rw [z] at k; trivial
    | some c =>
      rw [z] at k
      obtain ⟨k1, nb, k2, k3⟩ := k
      exact ⟨by rw [upd_ne (fun e => h5 (by rw [z, e]))]; exact k1, nb, k2, Rp.mono sg _ _ k3⟩
/-- a slot is set to a datum -/
theorem Ab.set_dat (A : Ab K C G H σ s) {i : Nat} {v : V} {d : DV} (r : Rp K G v d) : Ab K C G H (σ.set i (some v)) { s with sl := s.sl.set i (some (.dat d)) } where
  gh := A.gh
  fr := A.fr
  g0 := A.g0
  gn := A.gn
  len := by rw [List.length_set, List.length_set]; exact A.len
  sl := fun j w x q1 q2 => by
    rw [List.getElem?_set] at q1 q2
    by_cases z : i = j
    · rw [if_pos z] at q1 q2
      split at q1
      · split at q2
        · cases q1
          cases q2
          exact ⟨v, rfl, r⟩
        · cases q2
      · cases q1
    · rw [if_neg z] at q1 q2
      exact A.sl j w x q1 q2
  dis := fun j k a ds es n q1 q2 q3 => by
    rw [List.getElem?_set] at q1 q2 q3
    rw [List.getElem?_set]
    by_cases z1 : i = j
    · rw [if_pos z1] at q1
      split at q1 <;> cases q1
    · by_cases z2 : i = k
      · rw [if_pos z2] at q2
        split at q2 <;> cases q2
      · rw [if_neg z1] at q1 q3
        rw [if_neg z2] at q2 ⊢
        exact A.dis j k a ds es n q1 q2 q3
  spk := A.spk
/-- a slot is set to a new list of the frame's own -/
theorem Ab.set_own (A : Ab K C G H σ s) {i : Nat} {p : Addr} {vs : List V} {ds : List DV} (hp : H p = some (.lst vs)) (r : RpL K G vs ds) (hg : G p = none) (h0 : C.H0 p = none) (hs : C.sp ≠ some p)
    (no : ∀ (j : Nat) es, s.sl[j]? = some (some (.own es)) → σ[j]? ≠ some (some (.ref p))) : Ab K C G H (σ.set i (some (.ref p))) { s with sl := s.sl.set i (some (.own ds)) } where
  gh := A.gh
  fr := A.fr
  g0 := A.g0
  gn := A.gn
  len := by rw [List.length_set, List.length_set]; exact A.len
  sl := fun j w x q1 q2 => by
    rw [List.getElem?_set] at q1 q2
    by_cases z : i = j
    · rw [if_pos z] at q1 q2
      split at q1
      · split at q2
        · cases q1
          cases q2
          exact ⟨p, vs, rfl, hp, r, hg, h0, hs⟩
        · cases q2
      · cases q1
    · rw [if_neg z] at q1 q2
      exact A.sl j w x q1 q2
  dis := fun j k a fs es n q1 q2 q3 => by
    rw [List.getElem?_set] at q1 q2 q3
    rw [List.getElem?_set]
    by_cases z1 : i = j
    · have z2 : i ≠ k := fun z => n (z1.symm.trans z)
      rw [if_pos z1] at q3
      rw [if_neg z2] at q2 ⊢
      split at q3
      · cases q3
        exact no k es q2
      · cases q3
    · rw [if_neg z1] at q1 q3
      by_cases z2 : i = k
      · rw [if_pos z2]
        split
        · intro e
          cases e
          exact no j fs q1 q3
        · exact fun e => nomatch e
      · rw [if_neg z2] at q2 ⊢
        exact A.dis j k a fs es n q1 q2 q3
  spk := A.spk
/-- the list that a slot owns is written anew -/
theorem Ab.put_own (A : Ab K C G H σ s) {i : Nat} {a : Addr} {ds es : List DV} {us : List V} (h : s.sl[i]? = some (some (.own ds))) (e : σ[i]? = some (some (.ref a))) (r : RpL K G us es) :
    Ab K C G (upd H a (.lst us)) σ { s with sl := s.sl.set i (some (.own es)) } := by
  obtain ⟨v, e1, a', vs, e2, h1, h2, h3, h4, h5⟩ := A.slot h
  subst e2
  rw [e] at e1
  cases e1
  have hi : i < s.sl.length := (List.getElem?_eq_some_iff.mp h).1
  have nj : ∀ {k : Nat} {fs : List DV}, (s.sl.set i (some (.own es)))[k]? = some (some (.own fs)) → ∃ fs', s.sl[k]? = some (some (.own fs')) := fun {k fs} q => by
    rw [List.getElem?_set] at q
    by_cases z : i = k
    · exact ⟨ds, z ▸ h⟩
    · rw [if_neg z] at q
      exact ⟨fs, q⟩
  refine ⟨fun b u q => ?_, fun b o q n => ?_, A.g0, A.gn, by rw [List.length_set]; exact A.len, fun j w x q1 q2 => ?_, fun j k b fs gs n q1 q2 q3 => ?_, ?_⟩
  · rw [upd_ne (fun z => by rw [z, h3] at q; cases q)]
    exact A.gh _ _ q
  · rw [upd_ne (fun z => by rw [z, h4] at q; cases q)]
    exact A.fr b o q n
  · rw [List.getElem?_set] at q2
    by_cases z : i = j
    · subst z
      rw [if_pos rfl, if_pos hi] at q2
      cases q2
      rw [e] at q1
      cases q1
      exact ⟨a, us, rfl, upd_same, r, h3, h4, h5⟩
    · rw [if_neg z] at q2
      have rr := A.sl j w x q1 q2
      match x, rr with
      | none, _ => trivial
      | some (.dat d), rr => exact rr
      | some (.own gs), ⟨b, ws, eb, r1, r2, r3, r4, r5⟩ =>
        subst eb
        have nb : b ≠ a := fun zz => A.dis i j a ds gs z h q2 e (by rw [q1, zz])
        exact ⟨b, ws, rfl, by rw [upd_ne nb]; exact r1, r2, r3, r4, r5⟩
      | some .spl, rr => exact rr
  · obtain ⟨fs', q1'⟩ := nj q1
    obtain ⟨gs', q2'⟩ := nj q2
    exact A.dis j k b fs' gs' n q1' q2' q3
  · have k := A.spk
    unfold SpOk at *
    cases z : C.sp with
    | none => rw [z] at k; trivial
    | some c =>
      rw [z] at k
      obtain ⟨k1, nb, k2, k3⟩ := k
      exact ⟨k1, nb, by rw [upd_ne (fun e => h5 (by rw [z, e]))]; exact k2, k3⟩
/-- the spool is written -/
theorem Ab.put_spl (A : Ab K C G H σ s) {a nb : Addr} {t : Spl} (hs : C.sp = some a) (hn : Rp K G (.ref nb) (.lst (t.nums.map DV.int))) : Ab K C G (upd H a (.lst [.ref nb, .int t.place, .int t.cell, .int t.size])) σ { s with sp := t } := by
  have k := A.spk
  unfold SpOk at k
  rw [hs] at k
  obtain ⟨k1, nb', k2, k3⟩ := k
  refine ⟨fun b u q => ?_, fun b o q n => ?_, A.g0, A.gn, A.len, fun j w x q1 q2 => ?_, A.dis, ?_⟩
  · rw [upd_ne (fun z => by rw [z, k1] at q; cases q)]
    exact A.gh _ _ q
  · rw [upd_ne (fun z => n (by rw [z, hs]))]
    exact A.fr b o q n
  · have rr := A.sl j w x q1 q2
    match x, rr with
    | none, _ => trivial
    | some (.dat d), rr => exact rr
    | some (.own gs), ⟨b, ws, eb, r1, r2, r3, r4, r5⟩ => exact ⟨b, ws, eb, by rw [upd_ne (fun z => r5 (by rw [hs, z]))]; exact r1, r2, r3, r4, r5⟩
    | some .spl, rr => exact rr
  · show SpOk K G _ C.sp t
    unfold SpOk
    rw [hs]
    exact ⟨k1, nb, upd_same, hn⟩
end
end FD

set_option maxRecDepth 100000
namespace FD
open PySem PySem.Spec PyProof.Rows L2

/-! ## readings as functions -/
abbrev EF := S → Option (DV × S)
abbrev TF := S → Option (Bool × S)
abbrev AF := S → Option (List DV × S)
def EvE (K : PySem.W.Frag) (C : Cn) (te : TE) (f : EF) : Prop := ∀ G H σ s d s', Ab K C G H σ s → f s = some (d, s') →
  ∀ Q : VK, (∀ v H' G', Same G G' → Ab K C G' H' σ s' → Rp K G' v d → Q v H') → te σ H Q
def EvT (K : PySem.W.Frag) (C : Cn) (tt : TT) (f : TF) : Prop := ∀ G H σ s b s', Ab K C G H σ s → f s = some (b, s') →
  ∀ Q : Bool → Hp → Prop, (∀ H' G', Same G G' → Ab K C G' H' σ s' → Q b H') → tt σ H Q
def EvA (K : PySem.W.Frag) (C : Cn) (ta : TA) (f : AF) : Prop := ∀ G H σ s ds s', Ab K C G H σ s → f s = some (ds, s') →
  ∀ Q : List V → Hp → Prop, (∀ vs H' G', Same G G' → Ab K C G' H' σ s' → RpL K G' vs ds → Q vs H') → ta σ H Q
/-- an expression, a test, an argument list of the frame X, as functions of the state -/
def FE (X : Cx) (C : Cn) (e : Expr) (f : EF) : Prop := ∃ te, PE X e te ∧ EvE X.K C te f
def FT (X : Cx) (C : Cn) (e : Expr) (f : TF) : Prop := ∃ tt, PT X e tt ∧ EvT X.K C tt f
def FW (X : Cx) (C : Cn) (e : Expr) (f : TF) : Prop := ∃ tt, PW X e tt ∧ EvT X.K C tt f
def FA (X : Cx) (C : Cn) (es : List Expr) (f : AF) : Prop := ∃ ta, PA X es ta ∧ EvA X.K C ta f

section
variable {X : Cx} {C : Cn} {e a b c : Expr} {es : List Expr} {pos : Pos}

/-! ### constants, names -/
def eC (d : DV) : EF := fun s => some (d, s)
theorem evC {K : PySem.W.Frag} {v : V} {d : DV} (r : ∀ G, Rp K G v d) : EvE K C (tC v) (eC d) := by
  intro G H σ s d' s' A h Q q
  cases h
  exact q v H G (Same.refl _) A (r G)
theorem fe_int {i j} : FE X C (.Constant (.int i) j pos) (eC (.int i)) := ⟨_, pe_int, evC fun _ => rfl⟩
theorem fe_bl {i j} : FE X C (.Constant (.bool i) j pos) (eC (.bl i)) := ⟨_, pe_bl, evC fun _ => rfl⟩
theorem fe_non {j} : FE X C (.Constant .none j pos) (eC .non) := ⟨_, pe_non, evC fun _ => rfl⟩
theorem fe_str {x j} : FE X C (.Constant (.str x) j pos) (eC (.str x)) := ⟨_, pe_str, evC fun _ => rfl⟩
/-- the datum in a slot; a list of the frame's own joins the data -/
def eV (i : Nat) : EF := fun s => match s.sl[i]? with
  | some (some (.dat d)) => some (d, s)
  | some (some (.own ds)) => some (.lst ds, { s with sl := s.sl.set i (some (.dat (.lst ds))) })
  | _ => none
theorem evV {K : PySem.W.Frag} {i : Nat} : EvE K C (tVar i) (eV i) := by
  intro G H σ s d s' A h Q q
  unfold eV at h
  split at h
  · rename_i d' e1
    cases h
    obtain ⟨v, e2, w, e3, r⟩ := A.slot e1
    subst e3
    exact ⟨w, e2, q w H G (Same.refl _) A r⟩
  · rename_i ds e1
    cases h
    obtain ⟨a, vs, e2, A', r, sg⟩ := A.freeze e1
    exact ⟨_, e2, q _ H _ sg A' r⟩
  · cases h
theorem fv (i : Nat) {x : Str} {pos : Pos} (hN : X.N[i]? = some x := by rfl) (hv : Vis X.env.scope x := by first | exact Or.inl rfl | exact Or.inr (Or.inl rfl) | exact Or.inr (Or.inr rfl)) (hd : (x == ("__debug__" : Str)) = false := by decide)
    (hcd : (x == ("__classdict__" : Str)) = false := by decide) : FE X C (.Name x pos) (eV i) := ⟨_, pe_var hN hv hd hcd, evV⟩

/-! ### argument lists, displays -/
def aNil : AF := fun s => some ([], s)
def aCons (f : EF) (g : AF) : AF := fun s => match f s with
  | some (d, s1) => match g s1 with
    | some (ds, s2) => some (d :: ds, s2)
    | none => none
  | none => none
theorem fa_nil : FA X C [] aNil := ⟨_, pa_nil, by
  intro G H σ s ds s' A h Q q
  cases h
  exact q [] H G (Same.refl _) A rfl⟩
theorem fa_cons {f : EF} {g : AF} (h1 : FE X C e f) (h2 : FA X C es g) (hs : starEach (e :: es) X.env = (false, eval e X.env) :: starEach es X.env := by rfl) : FA X C (e :: es) (aCons f g) := by
  obtain ⟨te, p1, q1⟩ := h1
  obtain ⟨ta, p2, q2⟩ := h2
  refine ⟨_, pa_cons p1 p2 hs, ?_⟩
  intro G H σ s ds s' A h Q q
  unfold aCons at h
  split at h
  · rename_i d s1 e1
    split at h
    · rename_i ds' s2 e2
      cases h
      refine q1 G H σ s d s1 A e1 _ fun v H1 G1 g1 A1 r1 => ?_
      refine q2 G1 H1 σ s1 ds' _ A1 e2 _ fun vs H2 G2 g2 A2 r2 => ?_
      exact q (v :: vs) H2 G2 (g1.trans g2) A2 ⟨v, vs, rfl, Rp.mono g2 d v r1, r2⟩
    · cases h
  · cases h
/-- an expression whose reading is a function's -/
def eA (g : AF) (op : List DV → Option DV) : EF := fun s => match g s with
  | some (ds, s1) => match op ds with
    | some d => some (d, s1)
    | none => none
  | none => none
/-- from the arguments by values: r holds wherever the answer is the operation's -/
theorem evA_of {K : PySem.W.Frag} {ta : TA} {g : AF} {op : List DV → Option DV} {t : TE} (h : EvA K C ta g) {r : List V → Hp → VK → Prop}
    (ht : ∀ σ H Q, (ta σ H fun vs H1 => r vs H1 Q) → t σ H Q)
    (hr : ∀ G H σ s vs ds d, Ab K C G H σ s → RpL K G vs ds → op ds = some d → ∀ Q : VK, (∀ v H' G', Fw G H G' H' none → Rp K G' v d → Q v H') → r vs H Q) : EvE K C t (eA g op) := by
  intro G H σ s d s' A h' Q q
  unfold eA at h'
  split at h'
  · rename_i ds s1 e1
    split at h'
    · rename_i d' e2
      cases h'
      refine ht σ H Q (h G H σ s ds _ A e1 _ fun vs H1 G1 g1 A1 r1 => ?_)
      exact hr G1 H1 σ _ vs ds _ A1 r1 e2 Q fun v H' G' F rv => q v H' G' (g1.trans F.g) (A1.fw0 F) rv
    · cases h'
  · cases h'
def oTup : List DV → Option DV := fun ds => if ds.length ≤ sizeLine then some (.tup ds) else none
def oLst : List DV → Option DV := fun ds => if ds.length ≤ sizeLine then some (.lst ds) else none
theorem tup_ok {K : PySem.W.Frag} {G H : Hp} {σ : List (Option V)} {s : S} {vs : List V} {ds : List DV} {Q : VK} (A : Ab K C G H σ s) (r : RpL K G vs ds) (q : ∀ v H' G', Fw G H G' H' none → Rp K G' v (.tup ds) → Q v H') :
    ∀ p, H p = none → Q (.ref p) (upd H p (.tup vs)) := fun p hp => by
  have F : Fw G H (upd G p (.tup vs)) (upd H p (.tup vs)) none := Fw.add A.gh hp
  exact q _ _ _ F ⟨p, vs, rfl, SqT.of upd_same, RpL.mono F.g ds vs r⟩
theorem lst_ok {K : PySem.W.Frag} {G H : Hp} {σ : List (Option V)} {s : S} {vs : List V} {ds : List DV} {Q : VK} (A : Ab K C G H σ s) (r : RpL K G vs ds) (q : ∀ v H' G', Fw G H G' H' none → Rp K G' v (.lst ds) → Q v H') :
    ∀ p, H p = none → Q (.ref p) (upd H p (.lst vs)) := fun p hp => by
  have F : Fw G H (upd G p (.lst vs)) (upd H p (.lst vs)) none := Fw.add A.gh hp
  exact q _ _ _ F ⟨p, vs, rfl, upd_same, RpL.mono F.g ds vs r⟩
theorem fe_tup {f : AF} {x1} (h : FA X C es f) : FE X C (.Tuple es x1 pos) (eA f oTup) := by
  obtain ⟨ta, p, q⟩ := h
  refine ⟨_, pe_tup p, evA_of (op := oTup) q (r := fun xs H1 Q => xs.length ≤ sizeLine ∧ ∀ p, H1 p = none → Q (.ref p) (upd H1 p (.tup xs))) (fun _ _ _ h => h) ?_⟩
  intro G H σ s vs ds d A r e Q k
  unfold oTup at e
  split at e
  · cases e
    rename_i hl
    exact ⟨by rw [r.length]; exact hl, tup_ok A r k⟩
  · cases e
theorem fe_lst {f : AF} (h : FA X C es f) : FE X C (.List es pos) (eA f oLst) := by
  obtain ⟨ta, p, q⟩ := h
  refine ⟨_, pe_lst p, evA_of (op := oLst) q (r := fun xs H1 Q => xs.length ≤ sizeLine ∧ ∀ p, H1 p = none → Q (.ref p) (upd H1 p (.lst xs))) (fun _ _ _ h => h) ?_⟩
  intro G H σ s vs ds d A r e Q k
  unfold oLst at e
  split at e
  · cases e
    rename_i hl
    exact ⟨by rw [r.length]; exact hl, lst_ok A r k⟩
  · cases e

/-! ### operators of one and two -/
def e1 (f : EF) (op : DV → Option DV) : EF := fun s => match f s with
  | some (d, s1) => match op d with
    | some z => some (z, s1)
    | none => none
  | none => none
def e2 (f g : EF) (op : DV → DV → Option DV) : EF := fun s => match f s with
  | some (d, s1) => match g s1 with
    | some (y, s2) => match op d y with
      | some z => some (z, s2)
      | none => none
    | none => none
  | none => none
/-- what an operator's rule r is worth on data -/
def Op2 (K : PySem.W.Frag) (r : R2) (op : DV → DV → Option DV) : Prop := ∀ C G H σ s x y d e z, Ab K C G H σ s → Rp K G x d → Rp K G y e → op d e = some z →
  ∀ Q : VK, (∀ v H' G', Fw G H G' H' none → Rp K G' v z → Q v H') → r x y H Q
def Op1 (K : PySem.W.Frag) (r : V → Hp → VK → Prop) (op : DV → Option DV) : Prop := ∀ C G H σ s x d z, Ab K C G H σ s → Rp K G x d → op d = some z →
  ∀ Q : VK, (∀ v H' G', Fw G H G' H' none → Rp K G' v z → Q v H') → r x H Q
theorem ev2 {K : PySem.W.Frag} {ta tb t : TE} {f g : EF} {r : R2} {op : DV → DV → Option DV} (h1 : EvE K C ta f) (h2 : EvE K C tb g) (ho : Op2 K r op) (ht : ∀ σ H Q, (ta σ H fun x H1 => tb σ H1 fun y H2 => r x y H2 Q) → t σ H Q) : EvE K C t (e2 f g op) := by
  intro G H σ s z s' A h Q q
  unfold e2 at h
  split at h
  · rename_i d s1 q1
    split at h
    · rename_i y s2 q2
      split at h
      · rename_i z' q3
        cases h
        refine ht σ H Q (h1 G H σ s d s1 A q1 _ fun v H1 G1 g1 A1 r1 => ?_)
        refine h2 G1 H1 σ s1 y _ A1 q2 _ fun u H2 G2 g2 A2 r2 => ?_
        exact ho C G2 H2 σ _ v u d y _ A2 (Rp.mono g2 d v r1) r2 q3 Q fun w H' G' F rw' => q w H' G' ((g1.trans g2).trans F.g) (A2.fw0 F) rw'
      · cases h
    · cases h
  · cases h
theorem ev1 {K : PySem.W.Frag} {ta t : TE} {f : EF} {r : V → Hp → VK → Prop} {op : DV → Option DV} (h1 : EvE K C ta f) (ho : Op1 K r op) (ht : ∀ σ H Q, (ta σ H fun x H1 => r x H1 Q) → t σ H Q) : EvE K C t (e1 f op) := by
  intro G H σ s z s' A h Q q
  unfold e1 at h
  split at h
  · rename_i d s1 q1
    split at h
    · rename_i z' q3
      cases h
      refine ht σ H Q (h1 G H σ s d _ A q1 _ fun v H1 G1 g1 A1 r1 => ?_)
      exact ho C G1 H1 σ _ v d _ A1 r1 q3 Q fun w H' G' F rw' => q w H' G' (g1.trans F.g) (A1.fw0 F) rw'
    · cases h
  · cases h
theorem fe_op {r : R2} {op : DV → DV → Option DV} {o : Operator} {f g : EF} (hr : OpR X (binaryOp o) r) (ho : Op2 X.K r op) (h1 : FE X C a f) (h2 : FE X C b g) : FE X C (.BinOp a o b pos) (e2 f g op) := by
  obtain ⟨ta, p1, q1⟩ := h1
  obtain ⟨tb, p2, q2⟩ := h2
  exact ⟨_, pe_op hr p1 p2, ev2 q1 q2 ho fun _ _ _ h => h⟩
theorem fe_un {r : V → Hp → VK → Prop} {op : DV → Option DV} {o : UnaryOp} {f : EF} (hr : UnR X (unaryOp o) r) (ho : Op1 X.K r op) (h1 : FE X C a f) (hn : PE X a = PE X a := rfl) (mk : ∀ {ta}, PE X a ta → PE X (.UnaryOp o a pos) (tUn r ta)) : FE X C (.UnaryOp o a pos) (e1 f op) := by
  obtain ⟨ta, p1, q1⟩ := h1
  exact ⟨_, mk p1, ev1 q1 ho fun _ _ _ h => h⟩
theorem fe_cmp {r : R2} {op : DV → DV → Option DV} {o : CmpOp} {f g : EF} (hr : OpR X (compareOp o) r) (ho : Op2 X.K r op) (h1 : FE X C a f) (h2 : FE X C b g) (hm : behindInMarks o b = false := by first | exact nomark _ | rfl) : FE X C (.Compare a [o] [b] pos) (e2 f g op) := by
  obtain ⟨ta, p1, q1⟩ := h1
  obtain ⟨tb, p2, q2⟩ := h2
  exact ⟨_, pe_cmpR hr p1 p2 hm, ev2 q1 q2 ho fun _ _ _ h => h⟩
end
end FD

set_option maxRecDepth 100000
namespace FD
open PySem PySem.Spec PyProof.Rows L2

theorem OpR.or {X : Cx} {f : Value → Value → Sem Value} {r r' : R2} (h : OpR X f r) (h' : OpR X f r') : OpR X f (fun x y H Q => r x y H Q ∨ r' x y H Q) := by
  intro pins s σ H x y v u Q I rx ry q
  rcases q with q | q
  · exact h pins s σ H x y v u Q I rx ry q
  · exact h' pins s σ H x y v u Q I rx ry q
theorem CallR.or {X : Cx} {f : Value} {r r' : List V → Hp → VK → Prop} (h : CallR X f r) (h' : CallR X f r') : CallR X f (fun x H Q => r x H Q ∨ r' x H Q) := by
  intro pins s σ H x v Q I rx q
  rcases q with q | q
  · exact h pins s σ H x v Q I rx q
  · exact h' pins s σ H x v Q I rx q

/-! ## operations on data -/
def dAdd : DV → DV → Option DV
  | .int i, .int j => some (.int (i + j))
  | .str x, .str y => if x.length + y.length ≤ sizeLine then some (.str (x ++ y)) else none
  | .lst a, .lst b => if a.length + b.length ≤ sizeLine then some (.lst (a ++ b)) else none
  | .tup (a :: as), .tup b => if (a :: as).length + b.length ≤ sizeLine then some (.tup ((a :: as) ++ b)) else none
  | _, _ => none
def dSub : DV → DV → Option DV
  | .int i, .int j => some (.int (i - j))
  | _, _ => none
/-- the bits of a product are bounded -/
def fitM (i j : Int) : Bool := decide (i.natAbs.log2 + j.natAbs.log2 < 134217000)
def dMul : DV → DV → Option DV
  | .int i, .int j => if fitM i j then some (.int (i * j)) else none
  | .lst a, .int k => if decide (-(2 ^ 63) ≤ k ∧ k < 2 ^ 63 ∧ a.length * k.toNat ≤ sizeLine) then some (.lst (List.replicate k.toNat a).flatten) else none
  | _, _ => none
def dFdiv : DV → DV → Option DV
  | .int i, .int j => if decide (j ≠ 0 ∧ j.natAbs.log2 < 9000) then some (.int (i.fdiv j)) else none
  | _, _ => none
def dMod : DV → DV → Option DV
  | .int i, .int j => if decide (j ≠ 0) then some (.int (i.fmod j)) else none
  | _, _ => none
def dPow : DV → DV → Option DV
  | .int i, .int j => if decide (0 ≤ j ∧ j ≤ 1000000 ∧ i.natAbs < 2 ^ 64) then some (.int (i ^ j.toNat)) else none
  | _, _ => none
def dNeg : DV → Option DV
  | .int i => some (.int (-i))
  | _ => none
def dI (p : Int → Int → Bool) : DV → DV → Option DV
  | .int i, .int j => some (.bl (p i j))
  | _, _ => none
abbrev dLt := dI fun i j => decide (i < j)
abbrev dLe := dI fun i j => decide (i ≤ j)
abbrev dGt := dI fun i j => decide (j < i)
abbrev dGe := dI fun i j => decide (j ≤ i)
mutual
def toPy : DV → Option PyData
  | .non => some .none
  | .bl b => some (.bool b)
  | .int i => some (.int i)
  | .str x => some (.str x)
  | .tup ds => (toPyL ds).map .tuple
  | .lst ds => (toPyL ds).map .list
  | .scr ns => some (.list (ns.map .int))
  | .raw _ => none
  | .exc _ => none
def toPyL : List DV → Option (List PyData)
  | [] => some []
  | d :: ds => match toPy d with
    | some x => match toPyL ds with
      | some r => some (x :: r)
      | none => none
    | none => none
end
def dEq (d e : DV) : Option DV := match toPy d with
  | some x => match toPy e with
    | some y => if SeqAt.shaped x && SeqAt.shaped y then some (.bl (PyData.eqv x y)) else none
    | none => none
  | none => none
def dNe (d e : DV) : Option DV := match toPy d with
  | some x => match toPy e with
    | some y => if SeqAt.shaped x && SeqAt.shaped y then some (.bl (!PyData.eqv x y)) else none
    | none => none
  | none => none
def dIsN : DV → DV → Option DV
  | .raw _, _ => none
  | .non, .non => some (.bl true)
  | _, .non => some (.bl false)
  | _, _ => none
def dNotN : DV → DV → Option DV
  | .raw _, _ => none
  | .non, .non => some (.bl false)
  | _, .non => some (.bl true)
  | _, _ => none

section
variable {K : PySem.W.Frag} {X : Cx}
theorem CallFit {i j : Int} (h : fitM i j = true) : IntMulOk i j := by
  have b : ∀ x : Int, Builtin.Int.intBits x ≤ x.natAbs.log2 + 1 := fun x => by
    unfold Builtin.Int.intBits
    split <;> omega
  have h1 := b i
  have h2 := b j
  have h3 : i.natAbs.log2 + j.natAbs.log2 < 134217000 := of_decide_eq_true h
  have e : bitsLine = 134217728 := by decide
  unfold IntMulOk
  intro z
  rw [Bool.and_eq_true] at z
  have z2 := z.2
  unfold Builtin.Int.intTooBig at z2
  have z3 := of_decide_eq_true z2
  rw [e] at z3
  omega
theorem op_mulX : OpR X (binaryOp .Mult) (rI (fun i j => fitM i j = true) fun i j => .int (i * j)) := opI fun _ _ _ _ _ _ _ hc q => mul_int q (CallFit hc)
theorem op_fdivX : OpR X (binaryOp .FloorDiv) (rI (fun i j => j ≠ 0 ∧ j.natAbs.log2 < 9000) fun i j => .int (i.fdiv j)) := opI fun i j _ _ _ _ _ hc q => floordiv_int hc.1 q (.inl (PyProof.noPylong_of_log2 hc.2))

theorem o_int {Cd : Int → Int → Prop} {g : Int → Int → V} {op : DV → DV → Option DV} (h : ∀ d e z, op d e = some z → ∃ i j, d = .int i ∧ e = .int j ∧ Cd i j ∧ ∀ G, Rp K G (g i j) z) : Op2 K (rI Cd g) op := by
  intro C G H σ s x y d e z A r1 r2 ho Q q
  obtain ⟨i, j, rfl, rfl, c, e1⟩ := h d e z ho
  exact ⟨i, j, r1, r2, c, q _ H G (Fw.refl A.gh) (e1 G)⟩
theorem o_int0 {g : Int → Int → V} {op : DV → DV → Option DV} (h : ∀ d e z, op d e = some z → ∃ i j, d = .int i ∧ e = .int j ∧ ∀ G, Rp K G (g i j) z) : Op2 K (rI0 g) op := by
  intro C G H σ s x y d e z A r1 r2 ho Q q
  obtain ⟨i, j, rfl, rfl, e1⟩ := h d e z ho
  exact ⟨i, j, r1, r2, q _ H G (Fw.refl A.gh) (e1 G)⟩
theorem o_sub : Op2 K (rI0 fun i j => .int (i - j)) dSub := o_int0 fun d e z h => by
  unfold dSub at h
  split at h
  · cases h; exact ⟨_, _, rfl, rfl, fun _ => rfl⟩
  · cases h
theorem o_fdiv : Op2 K (rI (fun i j => j ≠ 0 ∧ j.natAbs.log2 < 9000) fun i j => .int (i.fdiv j)) dFdiv := o_int fun d e z h => by
  unfold dFdiv at h
  split at h
  · split at h
    · rename_i hd
      cases h; exact ⟨_, _, rfl, rfl, of_decide_eq_true hd, fun _ => rfl⟩
    · cases h
  · cases h
theorem o_mod : Op2 K (rI (fun _ j => j ≠ 0) fun i j => .int (i.fmod j)) dMod := o_int fun d e z h => by
  unfold dMod at h
  split at h
  · split at h
    · rename_i hd
      cases h; exact ⟨_, _, rfl, rfl, of_decide_eq_true hd, fun _ => rfl⟩
    · cases h
  · cases h
theorem o_pow : Op2 K (rI CPow fun i j => .int (i ^ j.toNat)) dPow := o_int fun d e z h => by
  unfold dPow at h
  split at h
  · split at h
    · rename_i hd
      cases h; exact ⟨_, _, rfl, rfl, (of_decide_eq_true hd : _ ∧ _ ∧ _), fun _ => rfl⟩
    · cases h
  · cases h
theorem o_cmp {p : Int → Int → Bool} : Op2 K (rI0 fun i j => .bl (p i j)) (dI p) := o_int0 fun d e z h => by
  unfold dI at h
  split at h
  · cases h; exact ⟨_, _, rfl, rfl, fun _ => rfl⟩
  · cases h
abbrev rAddX (K : PySem.W.Frag) : R2 := fun x y H Q => (rI0 (fun i j => .int (i + j)) x y H Q) ∨ (rAddS x y H Q ∨ (rCat x y H Q ∨ rCatT K x y H Q))
theorem op_addX : OpR X (binaryOp .Add) (rAddX X.K) := OpR.or op_add (OpR.or op_add_str (OpR.or op_cat op_catT))
theorem o_add : Op2 K (rAddX K) dAdd := by
  intro C G H σ s x y d e z A r1 r2 ho Q q
  unfold dAdd at ho
  split at ho
  · cases ho
    exact .inl ⟨_, _, r1, r2, q _ H G (Fw.refl A.gh) rfl⟩
  · split at ho
    · rename_i hl
      cases ho
      exact .inr (.inl ⟨_, _, r1, r2, hl, q _ H G (Fw.refl A.gh) rfl⟩)
    · cases ho
  · split at ho
    · rename_i hl
      cases ho
      obtain ⟨a, vs, e1, h1, h2⟩ := r1
      obtain ⟨b, us, e2, h3, h4⟩ := r2
      subst e1 e2
      refine .inr (.inr (.inl ⟨a, b, vs, us, rfl, rfl, A.gh _ _ h1, A.gh _ _ h3, by rw [h2.length, h4.length]; exact hl, fun p hp => ?_⟩))
      exact lst_ok A (h2.append h4) q p hp
    · cases ho
  · split at ho
    · rename_i hl
      cases ho
      obtain ⟨a, vs, e1, h1, h2⟩ := r1
      obtain ⟨b, us, e2, h3, h4⟩ := r2
      subst e1 e2
      have l1 := h2.length
      have l2 := h4.length
      refine .inr (.inr (.inr ⟨a, b, vs, us, rfl, rfl, Same.tup A.gh h1, Same.tup A.gh h3, fun z => ?_, by rw [l1, l2]; exact hl, fun z => ?_, fun z p hp => tup_ok A (h2.append h4) q p hp⟩))
      · rw [z] at l1
        simp at l1
      · subst z
        have q1 := h2.append h4
        rw [List.append_nil] at q1
        exact q _ H G (Fw.refl A.gh) ⟨a, vs, rfl, h1, q1⟩
    · cases ho
  · cases ho
abbrev rMulX : R2 := fun x y H Q => (rI (fun i j => fitM i j = true) (fun i j => .int (i * j)) x y H Q) ∨ rRep x y H Q
theorem op_mulXX : OpR X (binaryOp .Mult) rMulX := OpR.or op_mulX op_rep
theorem RpL.rep {G : Hp} {vs : List V} {ds : List DV} (h : RpL K G vs ds) : ∀ n : Nat, RpL K G (List.replicate n vs).flatten (List.replicate n ds).flatten
  | 0 => rfl
  | n + 1 => by
    rw [List.replicate_succ, List.replicate_succ, List.flatten_cons, List.flatten_cons]
    exact h.append (RpL.rep h n)
theorem o_mul : Op2 K rMulX dMul := by
  intro C G H σ s x y d e z A r1 r2 ho Q q
  unfold dMul at ho
  split at ho
  · split at ho
    · rename_i hl
      cases ho
      exact .inl ⟨_, _, r1, r2, hl, q _ H G (Fw.refl A.gh) rfl⟩
    · cases ho
  · split at ho
    · rename_i hl
      cases ho
      obtain ⟨a, vs, e1, h1, h2⟩ := r1
      have e2 : y = .int _ := r2
      subst e1 e2
      obtain ⟨l1, l2, l3⟩ := of_decide_eq_true hl
      exact .inr ⟨a, _, vs, rfl, rfl, A.gh _ _ h1, l1, l2, by rw [h2.length]; exact l3, fun p hp => lst_ok A (h2.rep _) q p hp⟩
    · cases ho
  · cases ho
mutual
theorem Rp.dp {G H : Hp} (g : Same G H) : ∀ (d : DV) (v : V) (x : PyData), Rp K G v d → toPy d = some x → Dp K H v x
  | .non, v, x, h, e => by
    cases e
    have h' : v = .non := h
    rw [h']
    exact .non
  | .bl b, v, x, h, e => by
    cases e
    have h' : v = .bl b := h
    rw [h']
    exact .bl b
  | .int b, v, x, h, e => by
    cases e
    have h' : v = .int b := h
    rw [h']
    exact .int b
  | .str b, v, x, h, e => by
    cases e
    have h' : v = .str b := h
    rw [h']
    exact .str b
  | .tup ds, v, x, h, e => by
    obtain ⟨a, vs, e1, h1, h2⟩ := h
    unfold toPy at e
    cases q : toPyL ds with
    | none => rw [q] at e; cases e
    | some xs =>
      rw [q] at e
      cases e
      rw [e1]
      exact .tup (Same.tup g h1) (RpL.dp g ds vs xs h2 q)
  | .lst ds, v, x, h, e => by
    obtain ⟨a, vs, e1, h1, h2⟩ := h
    unfold toPy at e
    cases q : toPyL ds with
    | none => rw [q] at e; cases e
    | some xs =>
      rw [q] at e
      cases e
      rw [e1]
      exact .lst (SqL.of (g _ _ h1)) (RpL.dp g ds vs xs h2 q)
  | .scr ns, v, x, h, e => by
    obtain ⟨a, e1, h1⟩ := h
    cases e
    rw [e1]
    refine .lst (g.seq h1) ?_
    clear h1 e1
    induction ns with
    | nil => exact .nil
    | cons n ns ih => exact .cons (.int n) ih
  | .raw _, _, _, _, e => by cases e
  | .exc _, _, _, _, e => by cases e
theorem RpL.dp {G H : Hp} (g : Same G H) : ∀ (ds : List DV) (vs : List V) (xs : List PyData), RpL K G vs ds → toPyL ds = some xs → DpAll K H vs xs
  | [], vs, xs, h, e => by
    cases e
    have h' : vs = [] := h
    rw [h']
    exact .nil
  | d :: ds, vs, xs, h, e => by
    obtain ⟨v, r, e1, h1, h2⟩ := h
    unfold toPyL at e
    split at e
    · rename_i x q1
      split at e
      · rename_i r' q2
        cases e
        rw [e1]
        exact .cons (Rp.dp g d v x h1 q1) (RpL.dp g ds r r' h2 q2)
      · cases e
    · cases e
end
theorem o_eq : Op2 K (rEqD K) dEq := by
  intro C G H σ s x y d e z A r1 r2 ho Q q
  unfold dEq at ho
  cases h1 : toPy d with
  | none => rw [h1] at ho; cases ho
  | some a =>
    rw [h1] at ho
    cases h2 : toPy e with
    | none => rw [h2] at ho; cases ho
    | some b =>
      rw [h2] at ho
      dsimp only at ho
      split at ho
      · rename_i hs
        cases ho
        rw [Bool.and_eq_true] at hs
        exact ⟨a, b, Rp.dp A.gh d x a r1 h1, Rp.dp A.gh e y b r2 h2, hs.1, hs.2, q _ H G (Fw.refl A.gh) rfl⟩
      · cases ho
theorem o_ne : Op2 K (rNeD K) dNe := by
  intro C G H σ s x y d e z A r1 r2 ho Q q
  unfold dNe at ho
  cases h1 : toPy d with
  | none => rw [h1] at ho; cases ho
  | some a =>
    rw [h1] at ho
    cases h2 : toPy e with
    | none => rw [h2] at ho; cases ho
    | some b =>
      rw [h2] at ho
      dsimp only at ho
      split at ho
      · rename_i hs
        cases ho
        rw [Bool.and_eq_true] at hs
        exact ⟨a, b, Rp.dp A.gh d x a r1 h1, Rp.dp A.gh e y b r2 h2, hs.1, hs.2, q _ H G (Fw.refl A.gh) rfl⟩
      · cases ho
theorem Rp.non_iff {G : Hp} {v : V} {d : DV} (h : Rp K G v d) (hr : ∀ u, d ≠ .raw u) : v = .non ↔ d = .non := by
  constructor
  · intro e
    subst e
    cases d with
    | non => rfl
    | raw u => exact absurd rfl (hr u)
    | tup ds => obtain ⟨a, vs, e, _⟩ := h; cases e
    | lst ds => obtain ⟨a, vs, e, _⟩ := h; cases e
    | scr ns => obtain ⟨a, e, _⟩ := h; cases e
    | exc c => obtain ⟨a, e, _⟩ := h; cases e
    | bl b => cases (show V.non = V.bl b from h)
    | int b => cases (show V.non = V.int b from h)
    | str b => cases (show V.non = V.str b from h)
  · intro e
    subst e
    exact h
theorem o_isN : Op2 K rIsN dIsN := by
  intro C G H σ s x y d e z A r1 r2 ho Q q
  unfold dIsN at ho
  split at ho
  · cases ho
  · cases ho
    exact ⟨r2, q _ H G (Fw.refl A.gh) (by rw [show x = .non from r1]; rfl)⟩
  · rename_i n1 n2
    cases ho
    have hx : x ≠ .non := fun z => n2 ((Rp.non_iff r1 (fun u z => n1 u z)).mp z)
    exact ⟨r2, q _ H G (Fw.refl A.gh) (by rw [decide_eq_false hx]; rfl)⟩
  · cases ho
theorem o_notN : Op2 K rNotN dNotN := by
  intro C G H σ s x y d e z A r1 r2 ho Q q
  unfold dNotN at ho
  split at ho
  · cases ho
  · cases ho
    exact ⟨r2, q _ H G (Fw.refl A.gh) (by rw [show x = .non from r1]; rfl)⟩
  · rename_i n1 n2
    cases ho
    have hx : x ≠ .non := fun z => n2 ((Rp.non_iff r1 (fun u z => n1 u z)).mp z)
    exact ⟨r2, q _ H G (Fw.refl A.gh) (by rw [decide_eq_false hx]; rfl)⟩
  · cases ho
end

/-! ## expressions by their operators -/
section
variable {X : Cx} {C : Cn} {e a b c : Expr} {es : List Expr} {pos : Pos} {f g h : EF}
theorem fe_add (h1 : FE X C a f) (h2 : FE X C b g) : FE X C (.BinOp a .Add b pos) (e2 f g dAdd) := fe_op op_addX o_add h1 h2
theorem fe_sub (h1 : FE X C a f) (h2 : FE X C b g) : FE X C (.BinOp a .Sub b pos) (e2 f g dSub) := fe_op op_sub o_sub h1 h2
theorem fe_mul (h1 : FE X C a f) (h2 : FE X C b g) : FE X C (.BinOp a .Mult b pos) (e2 f g dMul) := fe_op op_mulXX o_mul h1 h2
theorem fe_fdiv (h1 : FE X C a f) (h2 : FE X C b g) : FE X C (.BinOp a .FloorDiv b pos) (e2 f g dFdiv) := fe_op op_fdivX o_fdiv h1 h2
theorem fe_mod (h1 : FE X C a f) (h2 : FE X C b g) : FE X C (.BinOp a .Mod b pos) (e2 f g dMod) := fe_op op_modN o_mod h1 h2
theorem fe_pow (h1 : FE X C a f) (h2 : FE X C b g) : FE X C (.BinOp a .Pow b pos) (e2 f g dPow) := fe_op op_pow o_pow h1 h2
theorem o_neg {K : PySem.W.Frag} : Op1 K (rU fun i => .int (-i)) dNeg := by
  intro C G H σ s x d z A r1 ho Q q
  unfold dNeg at ho
  split at ho
  · cases ho
    exact ⟨_, r1, q _ H G (Fw.refl A.gh) rfl⟩
  · cases ho
theorem fe_neg (h1 : FE X C a f) : FE X C (.UnaryOp .USub a pos) (e1 f dNeg) := by
  obtain ⟨ta, p1, q1⟩ := h1
  exact ⟨_, pe_un un_neg p1, ev1 q1 o_neg fun _ _ _ h => h⟩
theorem fe_lt (h1 : FE X C a f) (h2 : FE X C b g) : FE X C (.Compare a [.Lt] [b] pos) (e2 f g dLt) := fe_cmp op_lt o_cmp h1 h2
theorem fe_le (h1 : FE X C a f) (h2 : FE X C b g) : FE X C (.Compare a [.LtE] [b] pos) (e2 f g dLe) := fe_cmp op_le o_cmp h1 h2
theorem fe_gt (h1 : FE X C a f) (h2 : FE X C b g) : FE X C (.Compare a [.Gt] [b] pos) (e2 f g dGt) := fe_cmp op_gt o_cmp h1 h2
theorem fe_ge (h1 : FE X C a f) (h2 : FE X C b g) : FE X C (.Compare a [.GtE] [b] pos) (e2 f g dGe) := fe_cmp op_ge o_cmp h1 h2
theorem fe_eq (hu : X.A.units + 64 < cLine) (h1 : FE X C a f) (h2 : FE X C b g) : FE X C (.Compare a [.Eq] [b] pos) (e2 f g dEq) := fe_cmp (op_eqD hu) o_eq h1 h2
theorem fe_ne (hu : X.A.units + 64 < cLine) (h1 : FE X C a f) (h2 : FE X C b g) : FE X C (.Compare a [.NotEq] [b] pos) (e2 f g dNe) := fe_cmp (op_neD hu) o_ne h1 h2
theorem fe_isN (h1 : FE X C a f) (h2 : FE X C b g) : FE X C (.Compare a [.Is] [b] pos) (e2 f g dIsN) := fe_cmp op_isN1 o_isN h1 h2
theorem fe_notN (h1 : FE X C a f) (h2 : FE X C b g) : FE X C (.Compare a [.IsNot] [b] pos) (e2 f g dNotN) := fe_cmp op_notN1 o_notN h1 h2
end
end FD

set_option maxRecDepth 100000
namespace FD
open PySem PySem.Spec PyProof.Rows L2

/-! ## tests -/
def truD : DV → Option Bool
  | .non => some false
  | .bl b => some b
  | .int i => some (i != 0)
  | .str x => if x.length ≤ sizeLine then some ((x.length : Int) != 0) else none
  | .lst ds => some (!ds.isEmpty)
  | .tup ds => some (!ds.isEmpty)
  | .scr ns => some (!ns.isEmpty)
  | .raw _ => none
  | .exc _ => none
/-- a value that is True or False; any value's truth -/
def tBl (f : EF) : TF := fun s => match f s with
  | some (.bl b, s1) => some (b, s1)
  | _ => none
def tTr (f : EF) : TF := fun s => match f s with
  | some (d, s1) => match truD d with
    | some b => some (b, s1)
    | none => none
  | none => none
def tAn (f g : TF) : TF := fun s => match f s with
  | some (true, s1) => g s1
  | some (false, s1) => some (false, s1)
  | none => none
def tOo (f g : TF) : TF := fun s => match f s with
  | some (true, s1) => some (true, s1)
  | some (false, s1) => g s1
  | none => none
def tNo (f : TF) : TF := fun s => match f s with
  | some (b, s1) => some (!b, s1)
  | none => none
def eIf (t : TF) (f g : EF) : EF := fun s => match t s with
  | some (true, s1) => f s1
  | some (false, s1) => g s1
  | none => none
def eAn (f g : EF) : EF := fun s => match f s with
  | some (.bl true, s1) => g s1
  | some (.bl false, s1) => some (.bl false, s1)
  | _ => none
def eOo (f g : EF) : EF := fun s => match f s with
  | some (.bl true, s1) => some (.bl true, s1)
  | some (.bl false, s1) => g s1
  | _ => none
def eNo (f : EF) : EF := fun s => match f s with
  | some (.bl b, s1) => some (.bl (!b), s1)
  | _ => none
section
variable {X : Cx} {C : Cn} {e a b c : Expr} {es : List Expr} {pos : Pos} {f g h : EF} {t u : TF}
theorem evBl {K : PySem.W.Frag} {te : TE} (q : EvE K C te f) {tt : TT} (ht : ∀ σ H Q, (te σ H fun x H' => ∃ k, x = .bl k ∧ Q k H') → tt σ H Q) : EvT K C tt (tBl f) := by
  intro G H σ s k s' A h Q k1
  unfold tBl at h
  split at h
  · rename_i k' s1 e1
    cases h
    exact ht σ H Q (q G H σ s _ _ A e1 _ fun v H' G' g1 A1 r => ⟨_, r, k1 H' G' g1 A1⟩)
  · cases h
theorem ft_cmp {r : R2} {op : DV → DV → Option DV} {o : CmpOp} (hr : OpR X (compareOp o) r) (ho : Op2 X.K r op) (h1 : FE X C a f) (h2 : FE X C b g) (hm : behindInMarks o b = false := by first | exact nomark _ | rfl) : FT X C (.Compare a [o] [b] pos) (tBl (e2 f g op)) := by
  obtain ⟨ta, p1, q1⟩ := h1
  obtain ⟨tb, p2, q2⟩ := h2
  exact ⟨_, pt_cmpR hr p1 p2 hm, evBl (ev2 (t := tOp r ta tb) q1 q2 ho fun _ _ _ h => h) fun _ _ _ h => h⟩
theorem ft_lt (h1 : FE X C a f) (h2 : FE X C b g) : FT X C (.Compare a [.Lt] [b] pos) (tBl (e2 f g dLt)) := ft_cmp op_lt o_cmp h1 h2
theorem ft_le (h1 : FE X C a f) (h2 : FE X C b g) : FT X C (.Compare a [.LtE] [b] pos) (tBl (e2 f g dLe)) := ft_cmp op_le o_cmp h1 h2
theorem ft_gt (h1 : FE X C a f) (h2 : FE X C b g) : FT X C (.Compare a [.Gt] [b] pos) (tBl (e2 f g dGt)) := ft_cmp op_gt o_cmp h1 h2
theorem ft_ge (h1 : FE X C a f) (h2 : FE X C b g) : FT X C (.Compare a [.GtE] [b] pos) (tBl (e2 f g dGe)) := ft_cmp op_ge o_cmp h1 h2
theorem ft_eq (hu : X.A.units + 64 < cLine) (h1 : FE X C a f) (h2 : FE X C b g) : FT X C (.Compare a [.Eq] [b] pos) (tBl (e2 f g dEq)) := ft_cmp (op_eqD hu) o_eq h1 h2
theorem ft_ne (hu : X.A.units + 64 < cLine) (h1 : FE X C a f) (h2 : FE X C b g) : FT X C (.Compare a [.NotEq] [b] pos) (tBl (e2 f g dNe)) := ft_cmp (op_neD hu) o_ne h1 h2
theorem ft_isN (h1 : FE X C a f) (h2 : FE X C b g) : FT X C (.Compare a [.Is] [b] pos) (tBl (e2 f g dIsN)) := ft_cmp op_isN1 o_isN h1 h2
theorem ft_notN (h1 : FE X C a f) (h2 : FE X C b g) : FT X C (.Compare a [.IsNot] [b] pos) (tBl (e2 f g dNotN)) := ft_cmp op_notN1 o_notN h1 h2
theorem tru_of {K : PySem.W.Frag} {G H : Hp} (g : Same G H) {v : V} {d : DV} {k : Bool} (r : Rp K G v d) (e : truD d = some k) : TruV K v H k := by
  cases d with
  | non => cases e; rw [show v = .non from r]; rfl
  | bl b => cases e; rw [show v = .bl _ from r]; rfl
  | int b => cases e; rw [show v = .int _ from r]; rfl
  | str x =>
    simp only [truD] at e
    split at e
    · rename_i hl
      cases e
      rw [show v = .str _ from r]
      exact ⟨hl, rfl⟩
    · cases e
  | lst ds =>
    cases e
    obtain ⟨a, vs, e1, h1, h2⟩ := r
    rw [e1]
    refine .inl ⟨vs, SqL.of (g _ _ h1), ?_⟩
    have := h2.length
    cases vs <;> cases ds <;> first | rfl | (simp at this)
  | tup ds =>
    cases e
    obtain ⟨a, vs, e1, h1, h2⟩ := r
    rw [e1]
    refine .inr (.inl ⟨vs, Same.tup g h1, ?_⟩)
    have := h2.length
    cases vs <;> cases ds <;> first | rfl | (simp at this)
  | scr ns =>
    cases e
    obtain ⟨a, e1, h1⟩ := r
    rw [e1]
    refine .inl ⟨_, g.seq h1, ?_⟩
    cases ns <;> rfl
  | raw u => cases e
  | exc c => cases e
theorem ft_tr (h1 : FE X C a f) (he : ∀ whole, isTrue a X.env whole = (do let v ← whole; standAt a.pos; holding [v] (truthy v)) := by intro _; rfl) : FT X C a (tTr f) := by
  obtain ⟨ta, p1, q1⟩ := h1
  refine ⟨_, pt_truth p1 he, ?_⟩
  intro G H σ s k s' A h Q k1
  unfold tTr at h
  split at h
  · rename_i d s1 e1
    split at h
    · rename_i b e2
      cases h
      exact q1 G H σ s d _ A e1 _ fun v H' G' g1 A1 r => ⟨_, tru_of A1.gh r e2, k1 H' G' g1 A1⟩
    · cases h
  · cases h
theorem FW.ft (h : FW X C e t) : FT X C e t := let ⟨tt, p, q⟩ := h; ⟨tt, p.pt, q⟩
theorem evAn {K : PySem.W.Frag} {ta tb : TT} (q1 : EvT K C ta t) (q2 : EvT K C tb u) : EvT K C (tAnd ta tb) (tAn t u) := by
  intro G H σ s k s' A h Q k1
  unfold tAn at h
  split at h
  · rename_i s1 e1
    refine q1 G H σ s _ _ A e1 _ fun H1 G1 g1 A1 => ?_
    rw [if_pos rfl]
    exact q2 G1 H1 σ _ _ _ A1 h Q fun H2 G2 g2 A2 => k1 H2 G2 (g1.trans g2) A2
  · rename_i s1 e1
    cases h
    refine q1 G H σ s _ _ A e1 _ fun H1 G1 g1 A1 => ?_
    rw [if_neg Bool.false_ne_true]
    exact k1 H1 G1 g1 A1
  · cases h
theorem evOo {K : PySem.W.Frag} {ta tb : TT} (q1 : EvT K C ta t) (q2 : EvT K C tb u) : EvT K C (tOr ta tb) (tOo t u) := by
  intro G H σ s k s' A h Q k1
  unfold tOo at h
  split at h
  · rename_i s1 e1
    cases h
    refine q1 G H σ s _ _ A e1 _ fun H1 G1 g1 A1 => ?_
    rw [if_pos rfl]
    exact k1 H1 G1 g1 A1
  · rename_i s1 e1
    refine q1 G H σ s _ _ A e1 _ fun H1 G1 g1 A1 => ?_
    rw [if_neg Bool.false_ne_true]
    exact q2 G1 H1 σ _ _ _ A1 h Q fun H2 G2 g2 A2 => k1 H2 G2 (g1.trans g2) A2
  · cases h
theorem fw_and1 (h : FT X C a t) : FW X C (.BoolOp .And [a] pos) t := let ⟨tt, p, q⟩ := h; ⟨tt, pw_and1 p, q⟩
theorem fw_or1 (h : FT X C a t) : FW X C (.BoolOp .Or [a] pos) t := let ⟨tt, p, q⟩ := h; ⟨tt, pw_or1 p, q⟩
theorem fw_and (h : FT X C a t) (h2 : FW X C (.BoolOp .And (b :: es) pos) u) : FW X C (.BoolOp .And (a :: b :: es) pos) (tAn t u) :=
  let ⟨_, p, q⟩ := h; let ⟨_, p2, q2⟩ := h2; ⟨_, pw_and p p2, evAn q q2⟩
theorem fw_or (h : FT X C a t) (h2 : FW X C (.BoolOp .Or (b :: es) pos) u) : FW X C (.BoolOp .Or (a :: b :: es) pos) (tOo t u) :=
  let ⟨_, p, q⟩ := h; let ⟨_, p2, q2⟩ := h2; ⟨_, pw_or p p2, evOo q q2⟩
theorem ft_not (h : FT X C a t) : FT X C (.UnaryOp .Not a pos) (tNo t) := by
  obtain ⟨tt, p, q⟩ := h
  refine ⟨_, pt_not p, ?_⟩
  intro G H σ s k s' A h Q k1
  unfold tNo at h
  split at h
  · rename_i b s1 e1
    cases h
    exact q G H σ s _ _ A e1 _ fun H1 G1 g1 A1 => k1 H1 G1 g1 A1
  · cases h
theorem fe_if (h : FT X C c t) (h1 : FE X C a f) (h2 : FE X C b g) : FE X C (.IfExp c a b pos) (eIf t f g) := by
  obtain ⟨tt, p, q⟩ := h
  obtain ⟨ta, p1, q1⟩ := h1
  obtain ⟨tb, p2, q2⟩ := h2
  refine ⟨_, pe_ifExp p p1 p2, ?_⟩
  intro G H σ s k s' A h Q k1
  unfold eIf at h
  split at h
  · rename_i s1 e1
    refine q G H σ s _ _ A e1 _ fun H1 G1 g1 A1 => ?_
    rw [if_pos rfl]
    exact q1 G1 H1 σ _ _ _ A1 h Q fun v H2 G2 g2 A2 r => k1 v H2 G2 (g1.trans g2) A2 r
  · rename_i s1 e1
    refine q G H σ s _ _ A e1 _ fun H1 G1 g1 A1 => ?_
    rw [if_neg Bool.false_ne_true]
    exact q2 G1 H1 σ _ _ _ A1 h Q fun v H2 G2 g2 A2 r => k1 v H2 G2 (g1.trans g2) A2 r
  · cases h
theorem fe_one {op} (h : FE X C a f) : FE X C (.BoolOp op [a] pos) f := let ⟨_, p, q⟩ := h; ⟨_, pe_one p, q⟩
theorem fe_and (h1 : FE X C a f) (h2 : FE X C (.BoolOp .And (b :: es) pos) g) : FE X C (.BoolOp .And (a :: b :: es) pos) (eAn f g) := by
  obtain ⟨ta, p1, q1⟩ := h1
  obtain ⟨tb, p2, q2⟩ := h2
  refine ⟨_, pe_and p1 p2, ?_⟩
  intro G H σ s k s' A h Q k1
  unfold eAn at h
  split at h
  · rename_i s1 e1
    refine q1 G H σ s _ _ A e1 _ fun v H1 G1 g1 A1 r => ⟨true, r, ?_⟩
    rw [if_pos rfl]
    exact q2 G1 H1 σ _ _ _ A1 h Q fun v H2 G2 g2 A2 r => k1 v H2 G2 (g1.trans g2) A2 r
  · rename_i s1 e1
    cases h
    refine q1 G H σ s _ _ A e1 _ fun v H1 G1 g1 A1 r => ⟨false, r, ?_⟩
    rw [if_neg Bool.false_ne_true]
    exact k1 _ H1 G1 g1 A1 rfl
  · cases h
theorem fe_or (h1 : FE X C a f) (h2 : FE X C (.BoolOp .Or (b :: es) pos) g) : FE X C (.BoolOp .Or (a :: b :: es) pos) (eOo f g) := by
  obtain ⟨ta, p1, q1⟩ := h1
  obtain ⟨tb, p2, q2⟩ := h2
  refine ⟨_, pe_or p1 p2, ?_⟩
  intro G H σ s k s' A h Q k1
  unfold eOo at h
  split at h
  · rename_i s1 e1
    cases h
    refine q1 G H σ s _ _ A e1 _ fun v H1 G1 g1 A1 r => ⟨true, r, ?_⟩
    rw [if_pos rfl]
    exact k1 _ H1 G1 g1 A1 rfl
  · rename_i s1 e1
    refine q1 G H σ s _ _ A e1 _ fun v H1 G1 g1 A1 r => ⟨false, r, ?_⟩
    rw [if_neg Bool.false_ne_true]
    exact q2 G1 H1 σ _ _ _ A1 h Q fun v H2 G2 g2 A2 r => k1 v H2 G2 (g1.trans g2) A2 r
  · cases h
theorem fe_not (h1 : FE X C a f) : FE X C (.UnaryOp .Not a pos) (eNo f) := by
  obtain ⟨ta, p1, q1⟩ := h1
  refine ⟨_, pe_not p1, ?_⟩
  intro G H σ s k s' A h Q k1
  unfold eNo at h
  split at h
  · rename_i b s1 e1
    cases h
    exact q1 G H σ s _ _ A e1 _ fun v H1 G1 g1 A1 r => ⟨b, r, k1 _ H1 G1 g1 A1 rfl⟩
  · cases h
end

/-! ## subscripts -/
def dIx : DV → DV → Option DV
  | .lst ds, .int i => atI ds i
  | .tup ds, .int i => atI ds i
  | .str z, .int i => if z.length ≤ sizeLine then (atI z.cps.toList i).map fun c => .str ⟨#[c]⟩ else none
  | _, _ => none
section
variable {K : PySem.W.Frag} {X : Cx} {C : Cn} {e a b c : Expr} {es : List Expr} {pos p2 : Pos} {f g h : EF} {t u : TF}
theorem RpL.atI {G : Hp} {vs : List V} {ds : List DV} {i : Int} {d : DV} (h : RpL K G vs ds) (e : atI ds i = some d) : ∃ v, L2.atI vs i = some v ∧ Rp K G v d := by
  unfold L2.atI at *
  rw [h.length]
  cases q : ixN ds.length i with
  | none => rw [q] at e; cases e
  | some j =>
    rw [q] at e
    exact h.get e
theorem o_ix : Op2 K (rIx K) dIx := by
  intro C G H σ s x y d e z A r1 r2 ho Q q
  unfold dIx at ho
  split at ho
  · obtain ⟨a, vs, e1, h1, h2⟩ := r1
    obtain ⟨v, h3, h4⟩ := h2.atI ho
    exact .inl ⟨a, vs, _, v, e1, r2, SqL.of (A.gh _ _ h1), h3, q v H G (Fw.refl A.gh) h4⟩
  · obtain ⟨a, vs, e1, h1, h2⟩ := r1
    obtain ⟨v, h3, h4⟩ := h2.atI ho
    exact .inr (.inl ⟨a, vs, _, v, e1, r2, Same.tup A.gh h1, h3, q v H G (Fw.refl A.gh) h4⟩)
  · rename_i zz ii
    split at ho
    · rename_i hl
      cases q1 : atI zz.cps.toList ii with
      | none => rw [q1] at ho; cases ho
      | some c =>
        rw [q1] at ho
        cases ho
        exact .inr (.inr ⟨_, _, c, r1, r2, hl, q1, q _ H G (Fw.refl A.gh) rfl⟩)
    · cases ho
  · cases ho
theorem fe_ix (h1 : FE X C a f) (h2 : FE X C b g) (hs : PlainIx b := by exact fun _ _ => rfl) : FE X C (.Subscript a b pos) (e2 f g dIx) := by
  obtain ⟨ta, p1, q1⟩ := h1
  obtain ⟨tb, p2, q2⟩ := h2
  exact ⟨_, pe_ix ix_seq p1 p2 hs, ev2 q1 q2 o_ix fun _ _ _ h => h⟩
/-- what a name's slot is worth for a reader: a list of the frame's own stays its own -/
def peek (s : S) (i : Nat) : Option DV := match s.sl[i]? with
  | some (some (.dat d)) => some d
  | some (some (.own ds)) => some (.lst ds)
  | _ => none
/-- the datum at v, in the heap itself; its items are data -/
theorem Ab.peek {K : PySem.W.Frag} {G H : Hp} {σ : List (Option V)} {s : S} {i : Nat} {d : DV} (A : Ab K C G H σ s) (h : FD.peek s i = some d) : ∃ v G', σ[i]? = some (some v) ∧ Same G G' ∧ Same G' H ∧ Rp K G' v d ∧
    (∀ ds, d = .lst ds → ∃ a vs, v = .ref a ∧ H a = some (.lst vs) ∧ RpL K G vs ds) ∧ ((∀ ds, d ≠ .lst ds) → Rp K G v d) := by
  unfold FD.peek at h
  split at h
  · rename_i d' e1
    cases h
    obtain ⟨o, e2, v, e3, r⟩ := A.slot e1
    subst e3
    refine ⟨v, G, e2, Same.refl _, A.gh, r, fun ds e => ?_, fun _ => r⟩
    subst e
    obtain ⟨a, vs, q1, q2, q3⟩ := r
    exact ⟨a, vs, q1, A.gh _ _ q2, q3⟩
  · rename_i ds e1
    cases h
    obtain ⟨o, e2, a, vs, e3, h1, h2, h3, h4, h5⟩ := A.slot e1
    subst e3
    have sg : Same G (upd G a (.lst vs)) := fun b u e => by rw [upd_ne (fun z => by rw [z, h3] at e; cases e)]; exact e
    refine ⟨_, upd G a (.lst vs), e2, sg, fun b u e => ?_, ⟨a, vs, rfl, upd_same, RpL.mono sg ds vs h2⟩, fun ds' e => ?_, fun z => absurd rfl (z ds)⟩
    · by_cases z : b = a
      · rw [z, upd_same] at e
        rw [z, ← e]
        exact h1
      · rw [upd_ne z] at e
        exact A.gh _ _ e
    · cases e
      exact ⟨a, vs, rfl, h1, h2⟩
  · cases h
def eIxN (i : Nat) (g : EF) : EF := fun s => match FD.peek s i with
  | some _ => match g s with
    | some (k, s1) => match FD.peek s1 i with
      | some d => match dIx d k with
        | some z => some (z, s1)
        | none => none
      | none => none
    | none => none
  | none => none
theorem fe_ixn (i : Nat) {x : Str} {pos' : Pos} (h2 : FE X C b g) (hN : X.N[i]? = some x := by rfl) (hv : Vis X.env.scope x := by first | exact Or.inl rfl | exact Or.inr (Or.inl rfl) | exact Or.inr (Or.inr rfl)) (hd : (x == ("__debug__" : Str)) = false := by decide)
    (hcd : (x == ("__classdict__" : Str)) = false := by decide) (hs : PlainIx b := by exact fun _ _ => rfl) : FE X C (.Subscript (.Name x pos') b pos) (eIxN i g) := by
  obtain ⟨tb, p2, q2⟩ := h2
  refine ⟨_, pe_ix ix_seq (pe_var hN hv hd hcd) p2 hs, ?_⟩
  intro G H σ s z s' A h Q q
  unfold eIxN at h
  split at h
  · rename_i d0 e0
    obtain ⟨v, _, ev, _⟩ := A.peek e0
    split at h
    · rename_i k s1 e1
      split at h
      · rename_i d e2
        split at h
        · rename_i z' e3
          cases h
          refine ⟨v, ev, q2 G H σ s k _ A e1 _ fun u H1 G1 g1 A1 r => ?_⟩
          obtain ⟨w, G2, ew, g2, g3, r2, r3, r4⟩ := A1.peek e2
          rw [ev] at ew
          cases ew
          cases d with
          | lst ds =>
            obtain ⟨a, vs, rfl, ha, hr⟩ := r3 ds rfl
            cases k with
            | int j =>
              obtain ⟨y, q3, q4⟩ := hr.atI e3
              exact .inl ⟨a, vs, _, y, rfl, r, SqL.of ha, q3, q y H1 G1 g1 A1 q4⟩
            | _ => cases e3
          | _ =>
            have r5 := r4 (fun ds z => nomatch z)
            exact o_ix C G1 H1 σ _ v u _ k _ A1 r5 r e3 Q fun y H' G' F ry => q y H' G' (g1.trans F.g) (A1.fw0 F) ry
        · cases h
      · cases h
    · cases h
  · cases h
/-! ## slices -/
def cutD (ds : List DV) (lo hi : Option Int) : List DV := (ds.drop (HT.sIx ds.length 0 lo)).take (HT.sIx ds.length ds.length hi - HT.sIx ds.length 0 lo)
def dSl : DV → Option Int → Option Int → Option DV
  | .lst ds, lo, hi => some (.lst (cutD ds lo hi))
  | .scr ns, lo, hi => some (.lst (cutD (ns.map .int) lo hi))
  | .tup ds, lo, hi => if HT.sIx ds.length 0 lo = 0 ∧ HT.sIx ds.length ds.length hi = ds.length then none else some (.tup (cutD ds lo hi))
  | _, _, _ => none
theorem RpL.cut {G : Hp} {vs : List V} {ds : List DV} (h : RpL K G vs ds) (lo hi : Option Int) : RpL K G (cutV vs lo hi) (cutD ds lo hi) := by
  unfold cutV cutD
  rw [h.length]
  exact (h.drop _).take _
abbrev rSlX (K : PySem.W.Frag) : V → Option Int → Option Int → Hp → VK → Prop := fun x lo hi H Q => rSlL K x lo hi H Q ∨ rSlT K x lo hi H Q
theorem slX : SlR X (rSlX X.K) := SlR.or sl_list sl_tup
/-- a part of a slice -/
abbrev OF := S → Option (Option Int × S)
def EvO (K : PySem.W.Frag) (C : Cn) (to : TO) (f : OF) : Prop := ∀ G H σ s d s', Ab K C G H σ s → f s = some (d, s') →
  ∀ Q : Option Int → Hp → Prop, (∀ H' G', Same G G' → Ab K C G' H' σ s' → Q d H') → to σ H Q
def FO (X : Cx) (C : Cn) (e : Option Expr) (f : OF) : Prop := ∃ to, PO X e to ∧ EvO X.K C to f
def oNo : OF := fun s => some (none, s)
def oSo (f : EF) : OF := fun s => match f s with
  | some (.int i, s1) => some (some i, s1)
  | _ => none
theorem fo_none : FO X C none oNo := ⟨_, po_none, by
  intro G H σ s d s' A h Q q
  cases h
  exact q H G (Same.refl _) A⟩
theorem fo_some (h : FE X C e f) : FO X C (some e) (oSo f) := by
  obtain ⟨te, p, q⟩ := h
  refine ⟨_, po_some p, ?_⟩
  intro G H σ s d s' A h Q k
  unfold oSo at h
  split at h
  · rename_i i s1 e1
    cases h
    exact q G H σ s _ _ A e1 _ fun v H' G' g A' r => ⟨i, r, k H' G' g A'⟩
  · cases h
def eSl (f : EF) (l h : OF) : EF := fun s => match f s with
  | some (d, s1) => match l s1 with
    | some (lo, s2) => match h s2 with
      | some (hi, s3) => match dSl d lo hi with
        | some z => some (z, s3)
        | none => none
      | none => none
    | none => none
  | none => none
theorem sl_of {G H : Hp} {σ : List (Option V)} {s : S} {v : V} {d z : DV} {lo hi : Option Int} {Q : VK} (A : Ab K C G H σ s) (r : Rp K G v d) (e : dSl d lo hi = some z) (q : ∀ v H' G', Fw G H G' H' none → Rp K G' v z → Q v H') : rSlX K v lo hi H Q := by
  unfold dSl at e
  split at e
  · cases e
    obtain ⟨a, vs, e1, h1, h2⟩ := r
    exact .inl ⟨a, vs, e1, SqL.of (A.gh _ _ h1), lst_ok A (h2.cut lo hi) q⟩
  · cases e
    obtain ⟨a, e1, h1⟩ := r
    exact .inl ⟨a, _, e1, A.gh.seq h1, lst_ok A ((RpL.ints _).cut lo hi) q⟩
  · split at e
    · cases e
    · rename_i hw
      cases e
      obtain ⟨a, vs, e1, h1, h2⟩ := r
      exact .inr ⟨a, vs, e1, Same.tup A.gh h1, by rw [h2.length]; exact hw, tup_ok A (h2.cut lo hi) q⟩
  · cases e
theorem fe_sl {lo hi : Option Expr} {l h : OF} (h1 : FE X C e f) (h2 : FO X C lo l) (h3 : FO X C hi h) : FE X C (.Subscript e (.Slice lo hi none p2) pos) (eSl f l h) := by
  obtain ⟨te, p1, q1⟩ := h1
  obtain ⟨tl, pl, ql⟩ := h2
  obtain ⟨th, ph, qh⟩ := h3
  refine ⟨_, pe_slice slX p1 pl ph, ?_⟩
  intro G H σ s z s' A e Q q
  unfold eSl at e
  split at e
  · rename_i d s1 a1
    split at e
    · rename_i lo' s2 a2
      split at e
      · rename_i hi' s3 a3
        split at e
        · rename_i z' a4
          cases e
          refine q1 G H σ s d s1 A a1 _ fun v H1 G1 g1 A1 r1 => ?_
          refine ql G1 H1 σ s1 _ s2 A1 a2 _ fun H2 G2 g2 A2 => ?_
          refine qh G2 H2 σ s2 _ _ A2 a3 _ fun H3 G3 g3 A3 => ?_
          exact sl_of A3 (Rp.mono (g2.trans g3) d v r1) a4 fun v H' G' F r => q v H' G' ((g1.trans (g2.trans g3)).trans F.g) (A3.fw0 F) r
        · cases e
      · cases e
    · cases e
  · cases e
/-- a slice of a name's list -/
def eSlN (i : Nat) (l h : OF) : EF := fun s => match FD.peek s i with
  | some _ => match l s with
    | some (lo, s2) => match h s2 with
      | some (hi, s3) => match FD.peek s3 i with
        | some d => match dSl d lo hi with
          | some z => some (z, s3)
          | none => none
        | none => none
      | none => none
    | none => none
  | none => none
theorem fe_sln (i : Nat) {x : Str} {pos' : Pos} {lo hi : Option Expr} {l h : OF} (h2 : FO X C lo l) (h3 : FO X C hi h) (hN : X.N[i]? = some x := by rfl) (hv : Vis X.env.scope x := by first | exact Or.inl rfl | exact Or.inr (Or.inl rfl) | exact Or.inr (Or.inr rfl)) (hd : (x == ("__debug__" : Str)) = false := by decide)
    (hcd : (x == ("__classdict__" : Str)) = false := by decide) : FE X C (.Subscript (.Name x pos') (.Slice lo hi none p2) pos) (eSlN i l h) := by
  obtain ⟨tl, pl, ql⟩ := h2
  obtain ⟨th, ph, qh⟩ := h3
  refine ⟨_, pe_slice slX (pe_var hN hv hd hcd) pl ph, ?_⟩
  intro G H σ s z s' A e Q q
  unfold eSlN at e
  split at e
  · rename_i d0 e0
    obtain ⟨v, _, ev, _⟩ := A.peek e0
    split at e
    · rename_i lo' s2 a2
      split at e
      · rename_i hi' s3 a3
        split at e
        · rename_i d a5
          split at e
          · rename_i z' a4
            cases e
            refine ⟨v, ev, ql G H σ s _ s2 A a2 _ fun H2 G2 g2 A2 => ?_⟩
            refine qh G2 H2 σ s2 _ _ A2 a3 _ fun H3 G3 g3 A3 => ?_
            obtain ⟨w, G4, ew, g4, g5, r2, r3, r4⟩ := A3.peek a5
            rw [ev] at ew
            cases ew
            cases d with
            | lst ds =>
              obtain ⟨a, vs, rfl, ha, hr⟩ := r3 ds rfl
              cases a4
              exact .inl ⟨a, vs, rfl, SqL.of ha, lst_ok A3 (hr.cut lo' hi') fun v H' G' F r => q v H' G' ((g2.trans g3).trans F.g) (A3.fw0 F) r⟩
            | _ => exact sl_of A3 (r4 (fun ds z => nomatch z)) a4 fun v H' G' F r => q v H' G' ((g2.trans g3).trans F.g) (A3.fw0 F) r
          · cases e
        · cases e
      · cases e
    · cases e
  · cases e
end

/-! ## calls of built-ins -/
def OpA (K : PySem.W.Frag) (r : List V → Hp → VK → Prop) (op : List DV → Option DV) : Prop := ∀ C G H σ s vs ds d, Ab K C G H σ s → RpL K G vs ds → op ds = some d →
  ∀ Q : VK, (∀ v H' G', Fw G H G' H' none → Rp K G' v d → Q v H') → r vs H Q
section
variable {K : PySem.W.Frag} {X : Cx} {C : Cn} {e a b c : Expr} {es : List Expr} {pos p p2 : Pos} {f g h : EF} {fa : AF} {x : Str} {id : String} {r : List V → Hp → VK → Prop} {op : List DV → Option DV}
theorem fe_callB (hc : CallR X (.builtin id) r) (ho : OpA X.K r op) (hm : X.mg x = none) (hv : bootBuiltins x = some (.builtin id)) (ha : FA X C (e :: es) fa) (hg : Gl X x := by rfl) (hn : x ≠ "__name__" := by decide) (hdb : (x == ("__debug__" : Str)) = false := by decide)
    (he : starEach (e :: es) X.env = (false, eval e X.env) :: starEach es X.env := by rfl) (hpl : (backTo pos (starEach es X.env)).any (·.1) = false := by rfl) : FE X C (.Call (.Name x p) (e :: es) [] pos) (eA fa op) := by
  obtain ⟨ta, p1, q1⟩ := ha
  exact ⟨_, pe_callB hc hg hm hv p1 hn hdb he hpl, evA_of q1 (fun _ _ _ h => h) fun G H σ s vs ds d A r e Q q => ho C G H σ s vs ds d A r e Q q⟩
theorem fe_callTy {T : String} (hc : CallR X (.type T) r) (ho : OpA X.K r op) (hm : X.mg x = none) (hv : bootBuiltins x = some (.type T)) (ha : FA X C (e :: es) fa) (hg : Gl X x := by rfl) (hn : x ≠ "__name__" := by decide) (hdb : (x == ("__debug__" : Str)) = false := by decide)
    (he : starEach (e :: es) X.env = (false, eval e X.env) :: starEach es X.env := by rfl) (hpl : (backTo pos (starEach es X.env)).any (·.1) = false := by rfl) : FE X C (.Call (.Name x p) (e :: es) [] pos) (eA fa op) := by
  obtain ⟨ta, p1, q1⟩ := ha
  exact ⟨_, pe_callTy hc hg hm hv p1 hn hdb he hpl, evA_of q1 (fun _ _ _ h => h) fun G H σ s vs ds d A r e Q q => ho C G H σ s vs ds d A r e Q q⟩
theorem fe_callM (hc : CallR X (.builtin id) r) (ho : OpA X.K r op) (hm : X.mg x = some (.builtin id)) (ha : FA X C (e :: es) fa) (hg : Gl X x := by rfl) (hdb : (x == ("__debug__" : Str)) = false := by decide)
    (he : starEach (e :: es) X.env = (false, eval e X.env) :: starEach es X.env := by rfl) (hpl : (backTo pos (starEach es X.env)).any (·.1) = false := by rfl) : FE X C (.Call (.Name x p) (e :: es) [] pos) (eA fa op) := by
  obtain ⟨ta, p1, q1⟩ := ha
  exact ⟨_, pe_callBfun hc hg hm p1 hdb he hpl, evA_of q1 (fun _ _ _ h => h) fun G H σ s vs ds d A r e Q q => ho C G H σ s vs ds d A r e Q q⟩
def dLen : List DV → Option DV
  | [.lst ds] => some (.int ds.length)
  | [.tup ds] => some (.int ds.length)
  | [.scr ns] => some (.int ns.length)
  | [.str x] => if x.length ≤ sizeLine then some (.int x.length) else none
  | _ => none
theorem RpL.single {G : Hp} {vs : List V} {d : DV} (h : RpL K G vs [d]) : ∃ v, vs = [v] ∧ Rp K G v d := by
  obtain ⟨v, r, e, h1, h2⟩ := h
  have h2' : r = [] := h2
  exact ⟨v, by rw [e, h2'], h1⟩
theorem RpL.double {G : Hp} {vs : List V} {d d' : DV} (h : RpL K G vs [d, d']) : ∃ v v', vs = [v, v'] ∧ Rp K G v d ∧ Rp K G v' d' := by
  obtain ⟨v, r, e, h1, h2⟩ := h
  obtain ⟨w, rfl, h3⟩ := h2.single
  exact ⟨v, w, e, h1, h3⟩
theorem o_len : OpA K (fun xs H Q => ∃ x n, xs = [x] ∧ LenV K x H n ∧ Q (.int n) H) dLen := by
  intro C G H σ s vs ds d A r ho Q q
  unfold dLen at ho
  split at ho
  · cases ho
    obtain ⟨v, e, a, us, e1, h1, h2⟩ := r.single
    rw [e1] at e
    exact ⟨_, _, e, .inl ⟨us, SqL.of (A.gh _ _ h1), h2.length.symm⟩, q _ H G (Fw.refl A.gh) rfl⟩
  · cases ho
    obtain ⟨v, e, a, us, e1, h1, h2⟩ := r.single
    rw [e1] at e
    exact ⟨_, _, e, .inr ⟨us, Same.tup A.gh h1, h2.length.symm⟩, q _ H G (Fw.refl A.gh) rfl⟩
  · cases ho
    obtain ⟨v, e, a, e1, h1⟩ := r.single
    rw [e1] at e
    exact ⟨_, _, e, .inl ⟨_, A.gh.seq h1, (List.length_map _).symm⟩, q _ H G (Fw.refl A.gh) rfl⟩
  · split at ho
    · rename_i hl
      cases ho
      obtain ⟨v, e, e1⟩ := r.single
      rw [show v = .str _ from e1] at e
      exact ⟨_, _, e, ⟨hl, rfl⟩, q _ H G (Fw.refl A.gh) rfl⟩
    · cases ho
  · cases ho
def dAbs : List DV → Option DV
  | [.int i] => some (.int (if i < 0 then -i else i))
  | _ => none
theorem o_abs : OpA K (fun xs H Q => ∃ i, xs = [.int i] ∧ Q (.int (if i < 0 then -i else i)) H) dAbs := by
  intro C G H σ s vs ds d A r ho Q q
  unfold dAbs at ho
  split at ho
  · cases ho
    obtain ⟨v, e, e1⟩ := r.single
    rw [show v = .int _ from e1] at e
    exact ⟨_, e, q _ H G (Fw.refl A.gh) rfl⟩
  · cases ho
def dMax : List DV → Option DV
  | [.int i, .int j] => some (.int (if j > i then j else i))
  | _ => none
def dMin : List DV → Option DV
  | [.int i, .int j] => some (.int (if j < i then j else i))
  | _ => none
theorem o_max : OpA K (fun xs H Q => ∃ i j, xs = [.int i, .int j] ∧ Q (.int (if j > i then j else i)) H) dMax := by
  intro C G H σ s vs ds d A r ho Q q
  unfold dMax at ho
  split at ho
  · cases ho
    obtain ⟨v, w, e, e1, e2⟩ := r.double
    rw [show v = .int _ from e1, show w = .int _ from e2] at e
    exact ⟨_, _, e, q _ H G (Fw.refl A.gh) rfl⟩
  · cases ho
theorem o_min : OpA K (fun xs H Q => ∃ i j, xs = [.int i, .int j] ∧ Q (.int (if j < i then j else i)) H) dMin := by
  intro C G H σ s vs ds d A r ho Q q
  unfold dMin at ho
  split at ho
  · cases ho
    obtain ⟨v, w, e, e1, e2⟩ := r.double
    rw [show v = .int _ from e1, show w = .int _ from e2] at e
    exact ⟨_, _, e, q _ H G (Fw.refl A.gh) rfl⟩
  · cases ho
theorem fe_len (hm : X.mg "len" = none) (ha : FA X C [e] fa) (hg : Gl X "len" := by rfl) (he : starEach [e] X.env = (false, eval e X.env) :: starEach [] X.env := by rfl) : FE X C (.Call (.Name "len" p) [e] [] pos) (eA fa dLen) := fe_callB call_len o_len hm PySem.boot_len ha hg (he := he)
theorem fe_abs (hm : X.mg "abs" = none) (ha : FA X C [e] fa) (hg : Gl X "abs" := by rfl) (he : starEach [e] X.env = (false, eval e X.env) :: starEach [] X.env := by rfl) : FE X C (.Call (.Name "abs" p) [e] [] pos) (eA fa dAbs) := fe_callB call_abs o_abs hm (by decide +kernel) ha hg (he := he)
theorem fe_max (hc : X.calm = true) (hm : X.mg "max" = none) (ha : FA X C [a, b] fa) (hg : Gl X "max" := by rfl) (he : starEach [a, b] X.env = (false, eval a X.env) :: starEach [b] X.env := by rfl) (hpl : (backTo pos (starEach [b] X.env)).any (·.1) = false := by rfl) : FE X C (.Call (.Name "max" p) [a, b] [] pos) (eA fa dMax) := fe_callB (call_max2 hc) o_max hm (by decide +kernel) ha hg (he := he) (hpl := hpl)
theorem fe_min (hc : X.calm = true) (hm : X.mg "min" = none) (ha : FA X C [a, b] fa) (hg : Gl X "min" := by rfl) (he : starEach [a, b] X.env = (false, eval a X.env) :: starEach [b] X.env := by rfl) (hpl : (backTo pos (starEach [b] X.env)).any (·.1) = false := by rfl) : FE X C (.Call (.Name "min" p) [a, b] [] pos) (eA fa dMin) := fe_callB (call_min2 hc) o_min hm (by decide +kernel) ha hg (he := he) (hpl := hpl)
end
end FD

set_option maxRecDepth 100000
namespace FD
open PySem PySem.Spec PyProof.Rows L2

/-! ## statements -/
inductive Out where
  | nx (s : S) | rt (d : DV) (s : S) | bk (s : S) | ct (s : S) | er (c : Str) (s : S)
abbrev SF := S → Option Out
def Kont (K : PySem.W.Frag) (C : Cn) (G : Hp) (D : Ends) : Out → Prop
  | .nx s' => ∀ σ' H' G', Same G G' → Ab K C G' H' σ' s' → D.nx σ' H'
  | .bk s' => ∀ σ' H' G', Same G G' → Ab K C G' H' σ' s' → D.bk σ' H'
  | .ct s' => ∀ σ' H' G', Same G G' → Ab K C G' H' σ' s' → D.ct σ' H'
  | .rt d s' => ∀ v σ' H' G', Same G G' → Ab K C G' H' σ' s' → Rp K G' v d → D.rt v H'
  | .er c s' => ∀ σ' H' G', Same G G' → Ab K C G' H' σ' s' → C.W (.ref (He.ga K c)) none σ' H'
def EvS (K : PySem.W.Frag) (C : Cn) (ts : TS) (g : SF) : Prop := ∀ G H σ s o, Ab K C G H σ s → g s = some o → ∀ D : Ends, Kont K C G D o → ts D σ H
def FS (X : Cx) (C : Cn) (st : Stmt) (g : SF) : Prop := ∃ ts, PS X st ts ∧ EvS X.K C ts g
def FSs (X : Cx) (C : Cn) (st : List Stmt) (g : SF) : Prop := ∃ ts, PSs X st ts ∧ EvS X.K C ts g
theorem Kont.to {K : PySem.W.Frag} {C : Cn} {G G' : Hp} {D : Ends} {o : Out} (k : Kont K C G D o) (g : Same G G') : Kont K C G' D o := by
  cases o with
  | nx s => exact fun σ' H' G2 g2 A => k σ' H' G2 (g.trans g2) A
  | bk s => exact fun σ' H' G2 g2 A => k σ' H' G2 (g.trans g2) A
  | ct s => exact fun σ' H' G2 g2 A => k σ' H' G2 (g.trans g2) A
  | rt d s => exact fun v σ' H' G2 g2 A => k v σ' H' G2 (g.trans g2) A
  | er c s => exact fun σ' H' G2 g2 A => k σ' H' G2 (g.trans g2) A

def sNx : SF := fun s => some (.nx s)
def sSeq (f g : SF) : SF := fun s => match f s with
  | some (.nx s1) => g s1
  | o => o
section
variable {X : Cx} {C : Cn} {e a b c : Expr} {es : List Expr} {st : Stmt} {rest body orelse : List Stmt} {pos : Pos} {f g h : EF} {t : TF} {u w : SF}
theorem evSeq {K : PySem.W.Frag} {ta tb : TS} (q1 : EvS K C ta u) (q2 : EvS K C tb w) : EvS K C (tSeq ta tb) (sSeq u w) := by
  intro G H σ s o A e1 D k
  unfold sSeq at e1
  split at e1
  · rename_i s1 e2
    exact q1 G H σ s _ A e2 { D with nx := tb D } fun σ1 H1 G1 g1 A1 => q2 G1 H1 σ1 s1 o A1 e1 D (k.to g1)
  · rename_i o' ne
    refine q1 G H σ s o A e1 { D with nx := tb D } ?_
    cases o with
    | nx s1 => exact absurd e1 (ne s1)
    | bk s1 => exact k
    | ct s1 => exact k
    | rt d s1 => exact k
    | er c s1 => exact k
theorem fs_nil : FSs X C [] sNx := ⟨_, pss_nil, by
  intro G H σ s o A e1 D k
  cases e1
  exact k σ H G (Same.refl _) A⟩
theorem fs_one (h : FS X C st u) : FSs X C [st] u := let ⟨_, p, q⟩ := h; ⟨_, pss_one p, q⟩
theorem fs_cons (h1 : FS X C st u) (h2 : FSs X C rest w) : FSs X C (st :: rest) (sSeq u w) := let ⟨_, p, q⟩ := h1; let ⟨_, p2, q2⟩ := h2; ⟨_, pss_cons p p2, evSeq q q2⟩
theorem fs_pass : FS X C (.Pass pos) sNx := ⟨_, ps_pass, by
  intro G H σ s o A e1 D k
  cases e1
  exact k σ H G (Same.refl _) A⟩
def sBk : SF := fun s => some (.bk s)
def sCt : SF := fun s => some (.ct s)
theorem fs_break : FS X C (.Break pos) sBk := ⟨_, ps_break, by
  intro G H σ s o A e1 D k
  cases e1
  exact k σ H G (Same.refl _) A⟩
theorem fs_continue : FS X C (.Continue pos) sCt := ⟨_, ps_continue, by
  intro G H σ s o A e1 D k
  cases e1
  exact k σ H G (Same.refl _) A⟩
/-- a statement that is not come to -/
def sNo : SF := fun _ => none
theorem fs_never : FS X C st sNo := ⟨_, ps_never, by
  intro G H σ s o A e1 D k
  cases e1⟩
def sRt (f : EF) : SF := fun s => match f s with
  | some (d, s1) => some (.rt d s1)
  | none => none
theorem fs_ret (h : FE X C e f) : FS X C (.Return (some e) pos) (sRt f) := by
  obtain ⟨te, p, q⟩ := h
  refine ⟨_, ps_ret p, ?_⟩
  intro G H σ s o A e1 D k
  unfold sRt at e1
  split at e1
  · cases e1
    rename_i d s1 e2
    exact q G H σ s d s1 A e2 _ fun v H1 G1 g1 A1 r => k v σ H1 G1 g1 A1 r
  · cases e1
def sDr (f : EF) : SF := fun s => match f s with
  | some (_, s1) => some (.nx s1)
  | none => none
theorem fs_expr (h : FE X C e f) (hs : swapsWith e none pos.line X.env = pure false := by rfl) : FS X C (.Expr e pos) (sDr f) := by
  obtain ⟨te, p, q⟩ := h
  refine ⟨_, ps_expr p hs, ?_⟩
  intro G H σ s o A e1 D k
  unfold sDr at e1
  split at e1
  · cases e1
    rename_i d s1 e2
    exact q G H σ s d s1 A e2 _ fun v H1 G1 g1 A1 r => k σ H1 G1 g1 A1
  · cases e1
def sIf (t : TF) (u w : SF) : SF := fun s => match t s with
  | some (true, s1) => u s1
  | some (false, s1) => w s1
  | none => none
theorem fs_if (h : FT X C c t) (h1 : FSs X C body u) (h2 : FSs X C orelse w) : FS X C (.If c body orelse pos) (sIf t u w) := by
  obtain ⟨tt, p, q⟩ := h
  obtain ⟨ta, p1, q1⟩ := h1
  obtain ⟨tb, p2, q2⟩ := h2
  refine ⟨_, ps_if p p1 p2, ?_⟩
  intro G H σ s o A e1 D k
  unfold sIf at e1
  split at e1
  · rename_i s1 e2
    refine q G H σ s _ _ A e2 _ fun H1 G1 g1 A1 => ?_
    rw [if_pos rfl]
    exact q1 G1 H1 σ s1 o A1 e1 D (k.to g1)
  · rename_i s1 e2
    refine q G H σ s _ _ A e2 _ fun H1 G1 g1 A1 => ?_
    rw [if_neg Bool.false_ne_true]
    exact q2 G1 H1 σ s1 o A1 e1 D (k.to g1)
  · cases e1

/-! ### targets -/
abbrev GF := DV → S → Option S
def EvG (K : PySem.W.Frag) (C : Cn) (tg : TG) (g : GF) : Prop := ∀ G H σ s v d s', Ab K C G H σ s → Rp K G v d → g d s = some s' → ∀ Q : St → Hp → Prop, (∀ σ' H' G', Same G G' → Ab K C G' H' σ' s' → Q σ' H') → tg v σ H Q
def EvGs (K : PySem.W.Frag) (C : Cn) (tg : TGs) (g : List DV → S → Option S) : Prop := ∀ G H σ s vs ds s', Ab K C G H σ s → RpL K G vs ds → g ds s = some s' → ∀ Q : St → Hp → Prop, (∀ σ' H' G', Same G G' → Ab K C G' H' σ' s' → Q σ' H') → tg vs σ H Q
def FG (X : Cx) (C : Cn) (e : Expr) (g : GF) : Prop := ∃ tg, PG X e tg ∧ EvG X.K C tg g
def FGs (X : Cx) (C : Cn) (es : List Expr) (g : List DV → S → Option S) : Prop := ∃ tg, PGs X es tg ∧ EvGs X.K C tg g
def gNm (i : Nat) : GF := fun d s => some { s with sl := s.sl.set i (some (.dat d)) }
theorem fg_name (i : Nat) {x : Str} (hN : X.N.Nodup) (hi : X.N[i]? = some x := by rfl) (hx : Loc X.env.scope x := by first | exact Or.inl rfl | exact Or.inr rfl) (hf : X.fn x = true ∨ X.env.scope.names.lookup x = some .local := by first | exact .inl rfl | exact .inr rfl | assumption) : FG X C (.Name x pos) (gNm i) := by
  refine ⟨_, pg_name hN hi hx hf, ?_⟩
  intro G H σ s v d s' A r e1 Q k
  cases e1
  exact k _ H G (Same.refl _) (A.set_dat r)
def gNi : List DV → S → Option S := fun ds s => match ds with
  | [] => some s
  | _ => none
def gCo (g : GF) (r : List DV → S → Option S) : List DV → S → Option S := fun ds s => match ds with
  | d :: ds => match g d s with
    | some s1 => r ds s1
    | none => none
  | [] => none
theorem fgs_nil : FGs X C [] gNi := ⟨_, pgs_nil, by
  intro G H σ s vs ds s' A r e1 Q k
  unfold gNi at e1
  split at e1
  · cases e1
    exact ⟨r, k σ H G (Same.refl _) A⟩
  · cases e1⟩
theorem fgs_cons {g : GF} {r : List DV → S → Option S} (h1 : FG X C e g) (h2 : FGs X C es r) (hs : (assignEach (e :: es) X.env).map (·.2) = assign e X.env :: (assignEach es X.env).map (·.2) := by rfl) : FGs X C (e :: es) (gCo g r) := by
  obtain ⟨tg, p, q⟩ := h1
  obtain ⟨tr, p2, q2⟩ := h2
  refine ⟨_, pgs_cons p p2 hs, ?_⟩
  intro G H σ s vs ds s' A rr e1 Q k
  unfold gCo at e1
  split at e1
  · rename_i d ds
    split at e1
    · rename_i s1 e2
      obtain ⟨v, vr, rfl, r1, r2⟩ := rr
      refine ⟨v, vr, rfl, q G H σ s v d s1 A r1 e2 _ fun σ1 H1 G1 g1 A1 => ?_⟩
      exact q2 G1 H1 σ1 s1 vr ds s' A1 (RpL.mono g1 ds vr r2) e1 Q fun σ2 H2 G2 g2 A2 => k σ2 H2 G2 (g1.trans g2) A2
    · cases e1
  · cases e1
def gTp (n : Nat) (r : List DV → S → Option S) : GF := fun d s => match d with
  | .tup ds => if ds.length = n then r ds s else none
  | _ => none
def gLs (n : Nat) (r : List DV → S → Option S) : GF := fun d s => match d with
  | .lst ds => if ds.length = n then r ds s else none
  | _ => none
theorem fg_tup {r : List DV → S → Option S} {k : Nat} {n : Nat} (hc : X.calm = true) (h : FGs X C es r) (hn : (assignEach es X.env).length = n := by rfl) (hst : (assignEach es X.env).findIdx? (·.1) = none := by rfl) : FG X C (.Tuple es k pos) (gTp n r) := by
  obtain ⟨tg, p, q⟩ := h
  refine ⟨_, pg_tup hc p hn hst, ?_⟩
  intro G H σ s v d s' A rr e1 Q k
  unfold gTp at e1
  split at e1
  · rename_i ds
    split at e1
    · rename_i hl
      obtain ⟨a, vs, rfl, r1, r2⟩ := rr
      exact ⟨a, vs, rfl, Same.tup A.gh r1, by rw [r2.length]; exact hl, q G H σ s vs ds s' A r2 e1 Q k⟩
    · cases e1
  · cases e1
theorem fg_lst {r : List DV → S → Option S} {k : Nat} {n : Nat} (hc : X.calm = true) (h : FGs X C es r) (hn : (assignEach es X.env).length = n := by rfl) (hst : (assignEach es X.env).findIdx? (·.1) = none := by rfl) : FG X C (.Tuple es k pos) (gLs n r) := by
  obtain ⟨tg, p, q⟩ := h
  refine ⟨_, pg_lst hc p hn hst, ?_⟩
  intro G H σ s v d s' A rr e1 Q k
  unfold gLs at e1
  split at e1
  · rename_i ds
    split at e1
    · rename_i hl
      obtain ⟨a, vs, rfl, r1, r2⟩ := rr
      exact ⟨a, vs, rfl, SqL.of (A.gh _ _ r1), by rw [r2.length]; exact hl, q G H σ s vs ds s' A r2 e1 Q k⟩
    · cases e1
  · cases e1
def sAsg (f : EF) (g : GF) : SF := fun s => match f s with
  | some (d, s1) => match g d s1 with
    | some s2 => some (.nx s2)
    | none => none
  | none => none
theorem fs_asg {tg : Expr} {g : GF} (he : FE X C e f) (hg : FG X C tg g) (hs : swapsWithSole [tg] e pos.line X.env = pure false := by rfl) (hw : swappedStores [tg] e X.env = pure none := by rfl)
    (h1 : (assignEach [tg] X.env).map (·.2) = [assign tg X.env] := by rfl) : FS X C (.Assign [tg] e pos) (sAsg f g) := by
  obtain ⟨te, p, q⟩ := he
  obtain ⟨tg', p2, q2⟩ := hg
  refine ⟨_, ps_asg p p2 hs hw h1, ?_⟩
  intro G H σ s o A e1 D k
  unfold sAsg at e1
  split at e1
  · rename_i d s1 e2
    split at e1
    · rename_i s2 e3
      cases e1
      exact q G H σ s d s1 A e2 _ fun v H1 G1 g1 A1 r => q2 G1 H1 σ s1 v d s2 A1 r e3 _ fun σ2 H2 G2 g2 A2 => k σ2 H2 G2 (g1.trans g2) A2
    · cases e1
  · cases e1
theorem fs_set (i : Nat) {x : Str} {pos' : Pos} (he : FE X C e f) (hN : X.N.Nodup) (hi : X.N[i]? = some x := by rfl) (hx : Loc X.env.scope x := by first | exact Or.inl rfl | exact Or.inr rfl) (hs : swapsWith e (some (.Name x pos')) pos.line X.env = pure false := by rfl) (hf : X.fn x = true ∨ X.env.scope.names.lookup x = some .local := by first | exact .inl rfl | exact .inr rfl | assumption) :
    FS X C (.Assign [.Name x pos'] e pos) (sAsg f (gNm i)) := by
  obtain ⟨te, p, q⟩ := he
  refine ⟨_, ps_set hN hi hx p hs hf, ?_⟩
  intro G H σ s o A e1 D k
  unfold sAsg at e1
  split at e1
  · rename_i d s1 e2
    cases e1
    exact q G H σ s d s1 A e2 _ fun v H1 G1 g1 A1 r => k _ H1 G1 g1 (A1.set_dat r)
  · cases e1
/-- a, b = x, y -/
def sPar (i j : Nat) (f : AF) : SF := fun s => match f s with
  | some ([d, e], s1) => some (.nx { s1 with sl := (s1.sl.set i (some (.dat d))).set j (some (.dat e)) })
  | _ => none
theorem fs_par (i j : Nat) {x y : Str} {ff : AF} {px py pt : Pos} {kt k2 pt2} (ha : FA X C [a, b] ff) (hc : X.calm = true) (hN : X.N.Nodup) (hi : X.N[i]? = some x := by rfl) (hj : X.N[j]? = some y := by rfl) (hij : i ≠ j := by decide)
    (hx : X.env.scope.names.lookup x = some .local := by rfl) (hy : X.env.scope.names.lookup y = some .local := by rfl)
    (hw : swappedStores [.Tuple [.Name x px, .Name y py] kt pt] (.Tuple [a, b] k2 pt2) X.env = pure (some [x, y]) := by rfl)
    (hs : swapsWithSole [.Tuple [.Name x px, .Name y py] kt pt] (.Tuple [a, b] k2 pt2) pos.line X.env = pure false := by rfl) :
    FS X C (.Assign [.Tuple [.Name x px, .Name y py] kt pt] (.Tuple [a, b] k2 pt2) pos) (sPar i j ff) := by
  obtain ⟨ta, p, q⟩ := ha
  refine ⟨_, ps_par hc hN hi hj hij hx hy p hw hs, ?_⟩
  intro G H σ s o A e1 D k
  unfold sPar at e1
  split at e1
  · rename_i d e' s1 e2
    cases e1
    refine q G H σ s _ s1 A e2 _ fun vs H1 G1 g1 A1 r => ?_
    obtain ⟨v, w, e3, r1, r2⟩ := r.double
    exact ⟨v, w, e3, k _ H1 G1 g1 ((A1.set_dat r1).set_dat (s := { s1 with sl := s1.sl.set i (some (.dat d)) }) r2)⟩
  · cases e1

/-! ### lists of the frame's own -/
theorem Ab.fresh {K : PySem.W.Frag} {G H : Hp} {σ : List (Option V)} {s : S} (A : Ab K C G H σ s) {p : Addr} (hp : H p = none) :
    G p = none ∧ C.H0 p = none ∧ C.sp ≠ some p ∧ ∀ (j : Nat) es, s.sl[j]? = some (some (.own es)) → σ[j]? ≠ some (some (.ref p)) := by
  refine ⟨?_, ?_, fun z => ?_, fun j es h1 h2 => ?_⟩
  · cases q : G p with
    | none => rfl
    | some o => rw [A.gh _ _ q] at hp; cases hp
  · cases q : C.H0 p with
    | none => rfl
    | some o => exact absurd hp (A.h0 (by rw [q]; exact fun z => nomatch z))
  · have k := A.spk
    unfold SpOk at k
    rw [z] at k
    obtain ⟨_, nb, k2, _⟩ := k
    rw [hp] at k2
    cases k2
  · obtain ⟨o, e1, a, vs, e2, h3, _⟩ := A.slot h1
    subst e2
    rw [h2] at e1
    cases e1
    rw [hp] at h3
    cases h3
/-- an expression that makes a new list -/
abbrev LF := S → Option (List DV × S)
structure NewL (K : PySem.W.Frag) (C : Cn) (G H : Hp) (σ : List (Option V)) (s : S) (p : Addr) (vs : List V) (ds : List DV) : Prop where
  at_ : H p = some (.lst vs)
  rp : RpL K G vs ds
  g : G p = none
  h0 : C.H0 p = none
  sp : C.sp ≠ some p
  no : ∀ (j : Nat) es, s.sl[j]? = some (some (.own es)) → σ[j]? ≠ some (some (.ref p))
def EvL (K : PySem.W.Frag) (C : Cn) (te : TE) (f : LF) : Prop := ∀ G H σ s ds s', Ab K C G H σ s → f s = some (ds, s') →
  ∀ Q : VK, (∀ p vs H' G', Same G G' → Ab K C G' H' σ s' → NewL K C G' H' σ s' p vs ds → Q (.ref p) H') → te σ H Q
def FL (X : Cx) (C : Cn) (e : Expr) (f : LF) : Prop := ∃ te, PE X e te ∧ EvL X.K C te f
theorem Ab.lay {K : PySem.W.Frag} {G H : Hp} {σ : List (Option V)} {s : S} {p : Addr} {vs : List V} {ds : List DV} (A : Ab K C G H σ s) (r : RpL K G vs ds) (hp : H p = none) : Ab K C G (upd H p (.lst vs)) σ s ∧ NewL K C G (upd H p (.lst vs)) σ s p vs ds := by
  obtain ⟨h1, h2, h3, h4⟩ := A.fresh hp
  exact ⟨A.fw0 (Fw.lay A.gh hp), ⟨upd_same, r, h1, h2, h3, h4⟩⟩
def lDs (f : AF) : LF := fun s => match f s with
  | some (ds, s1) => if ds.length ≤ sizeLine then some (ds, s1) else none
  | none => none
theorem fl_lst {ff : AF} (h : FA X C es ff) : FL X C (.List es pos) (lDs ff) := by
  obtain ⟨ta, p, q⟩ := h
  refine ⟨_, pe_lst p, ?_⟩
  intro G H σ s ds s' A e1 Q k
  unfold lDs at e1
  split at e1
  · split at e1
    · rename_i ds' s1 e2 hl
      cases e1
      refine q G H σ s _ _ A e2 _ fun vs H1 G1 g1 A1 r => ⟨by rw [r.length]; exact hl, fun p hp => ?_⟩
      obtain ⟨B, n⟩ := A1.lay r hp
      exact k p vs _ G1 g1 B n
    · cases e1
  · cases e1
/-- a new list as a datum -/
def eL (f : LF) : EF := fun s => match f s with
  | some (ds, s1) => some (.lst ds, s1)
  | none => none
theorem Ab.take_in {K : PySem.W.Frag} {G H : Hp} {σ : List (Option V)} {s : S} {p : Addr} {vs : List V} {ds : List DV} (A : Ab K C G H σ s) (n : NewL K C G H σ s p vs ds) : ∃ G', Same G G' ∧ Ab K C G' H σ s ∧ Rp K G' (.ref p) (.lst ds) := by
  have sg : Same G (upd G p (.lst vs)) := fun b u e => by rw [upd_ne (fun z => by rw [z, n.g] at e; cases e)]; exact e
  refine ⟨_, sg, ⟨fun b u e => ?_, A.fr, A.g0.trans sg, fun b e => ?_, A.len, fun j v x q1 q2 => ?_, A.dis, ?_⟩, ⟨p, vs, rfl, upd_same, RpL.mono sg ds vs n.rp⟩⟩
  · by_cases z : b = p
    · rw [z, upd_same] at e
      rw [z, ← e]
      exact n.at_
    · rw [upd_ne z] at e
      exact A.gh _ _ e
  · rw [upd_ne (fun z => e (by rw [z]; exact n.h0)), A.gn b e]
  · have r := A.sl j v x q1 q2
    match x, r with
    | none, _ => trivial
    | some (.dat d), ⟨w, e, r⟩ => exact ⟨w, e, Rp.mono sg d w r⟩
    | some (.own es), ⟨b, us, e, r1, r2, r3, r4, r5⟩ =>
      subst e
      have nb : b ≠ p := fun zz => n.no j es q2 (by rw [q1, zz])
      exact ⟨b, us, rfl, r1, RpL.mono sg es us r2, by rw [upd_ne nb]; exact r3, r4, r5⟩
    | some .spl, r => exact r
  · have k := A.spk
    unfold SpOk at *
    cases z : C.sp with
    | none => rw [z] at k; trivial
    | some c =>
      rw [z] at k
      obtain ⟨k1, nb, k2, k3⟩ := k
      exact ⟨by rw [upd_ne (fun e => n.sp (by rw [z, e]))]; exact k1, nb, k2, Rp.mono sg _ _ k3⟩
theorem fe_fl {ff : LF} (h : FL X C e ff) : FE X C e (eL ff) := by
  obtain ⟨te, p, q⟩ := h
  refine ⟨te, p, ?_⟩
  intro G H σ s d s' A e1 Q k
  unfold eL at e1
  split at e1
  · rename_i ds s1 e2
    cases e1
    refine q G H σ s ds _ A e2 _ fun p vs H1 G1 g1 A1 n => ?_
    obtain ⟨G2, g2, A2, r⟩ := A1.take_in n
    exact k _ H1 G2 (g1.trans g2) A2 r
  · cases e1
def sOwn (i : Nat) (f : LF) : SF := fun s => match f s with
  | some (ds, s1) => some (.nx { s1 with sl := s1.sl.set i (some (.own ds)) })
  | none => none
theorem fs_own (i : Nat) {x : Str} {pos' : Pos} {ff : LF} (he : FL X C e ff) (hN : X.N.Nodup) (hi : X.N[i]? = some x := by rfl) (hx : Loc X.env.scope x := by first | exact Or.inl rfl | exact Or.inr rfl) (hs : swapsWith e (some (.Name x pos')) pos.line X.env = pure false := by rfl) (hf : X.fn x = true ∨ X.env.scope.names.lookup x = some .local := by first | exact .inl rfl | exact .inr rfl | assumption) :
    FS X C (.Assign [.Name x pos'] e pos) (sOwn i ff) := by
  obtain ⟨te, p, q⟩ := he
  refine ⟨_, ps_set hN hi hx p hs hf, ?_⟩
  intro G H σ s o A e1 D k
  unfold sOwn at e1
  split at e1
  · rename_i ds s1 e2
    cases e1
    exact q G H σ s ds s1 A e2 _ fun p vs H1 G1 g1 A1 n => k _ H1 G1 g1 (A1.set_own n.at_ n.rp n.g n.h0 n.sp n.no)
  · cases e1
/-- xs.append(e), xs a list of the frame's own -/
def sApp (i : Nat) (f : EF) : SF := fun s => match s.sl[i]? with
  | some (some (.own _)) => match f s with
    | some (d, s1) => match s1.sl[i]? with
      | some (some (.own ds)) => if ds.length < sizeLine then some (.nx { s1 with sl := s1.sl.set i (some (.own (ds ++ [d]))) }) else none
      | _ => none
    | none => none
  | _ => none
theorem fs_app (i : Nat) {x : Str} {pos' apos cpos : Pos} (he : FE X C e f) (hN : X.N[i]? = some x := by rfl) (hv : Vis X.env.scope x := by first | exact Or.inl rfl | exact Or.inr (Or.inl rfl) | exact Or.inr (Or.inr rfl)) (hd : (x == ("__debug__" : Str)) = false := by decide)
    (hcd : (x == ("__classdict__" : Str)) = false := by decide)
    (hbase : attributeBase (.Name x pos') "append" X.env (eval (.Name x pos') X.env) = eval (.Name x pos') X.env := by rfl)
    (hfew : ((backTo cpos (starEach [e] X.env)).all (fun x => !x.1) && (backToKw cpos (keywordEach [] X.env)).all (fun x => x.1.isSome)
      && decide (([e] : List Expr).length + ([] : List Keyword).length + (if ([] : List Keyword).isEmpty then 0 else 1) < 30)) = true := by rfl)
    (hline : (apos.endLine == cpos.line) = true := by rfl) (hs : starEach [e] X.env = (false, eval e X.env) :: starEach [] X.env := by rfl) (hplain : (backTo cpos (starEach [] X.env)).any (·.1) = false := by rfl)
    (hs' : swapsWith (.Call (.Attribute (.Name x pos') "append" apos) [e] [] cpos) none pos.line X.env = pure false := by rfl) :
    FS X C (.Expr (.Call (.Attribute (.Name x pos') "append" apos) [e] [] cpos) pos) (sApp i f) := by
  obtain ⟨te, p, q⟩ := he
  refine ⟨_, ps_expr (pe_bm PySem.F.plainAttrs_list PySem.F.slot_list_append PySem.F.type_list_append mt_append (pe_var hN hv hd hcd) (pa_cons p pa_nil hs) hbase hfew hline hs hplain) hs', ?_⟩
  intro G H σ s o A e1 D k
  unfold sApp at e1
  split at e1
  · rename_i ds0 e0
    split at e1
    · rename_i d s1 e2
      split at e1
      · rename_i ds e3
        split at e1
        · rename_i hl
          cases e1
          obtain ⟨w, ew, a, vs0, rfl, h0, _⟩ := A.slot e0
          refine ⟨.ref a, ew, .inl ⟨rfl, _, .inl (.inl h0)⟩, q G H σ s d s1 A e2 _ fun v H1 G1 g1 A1 r => ?_⟩
          obtain ⟨w1, ew1, a1, vs1, e5, h1, h2, _⟩ := A1.slot e3
          subst e5
          rw [ew] at ew1
          cases ew1
          refine ⟨a, vs1, v, rfl, rfl, h1, by rw [h2.length]; exact hl, ?_⟩
          exact k σ _ G1 g1 (A1.put_own e3 ew (h2.append (RpL.one r)))
        · cases e1
      · cases e1
    · cases e1
  · cases e1
/-- xs[k] = e, xs a list of the frame's own -/
def sPut (i : Nat) (f kf : EF) : SF := fun s => match f s with
  | some (d, s1) => match s1.sl[i]? with
    | some (some (.own _)) => match kf s1 with
      | some (.int j, s2) => match s2.sl[i]? with
        | some (some (.own ds)) => match ixN ds.length j with
          | some n => some (.nx { s2 with sl := s2.sl.set i (some (.own (ds.set n d))) })
          | none => none
        | _ => none
      | _ => none
    | _ => none
  | none => none
theorem fs_put (i : Nat) {x : Str} {pos' pos2 : Pos} (he : FE X C e f) (hk : FE X C b g) (hN : X.N[i]? = some x := by rfl) (hv : Vis X.env.scope x := by first | exact Or.inl rfl | exact Or.inr (Or.inl rfl) | exact Or.inr (Or.inr rfl)) (hd : (x == ("__debug__" : Str)) = false := by decide)
    (hcd : (x == ("__classdict__" : Str)) = false := by decide)
    (ha : ∀ v, assign (.Subscript (.Name x pos') b pos2) X.env v = (do
      let ov ← holding [v] (eval (.Name x pos') X.env)
      let iv ← holding [v, ov] (eval b X.env)
      standAt pos2
      holding [v, ov, iv] (setItem ov iv v)
      release [v, ov, iv] []) := by intro _; rfl)
    (hs : swapsWithSole [.Subscript (.Name x pos') b pos2] e pos.line X.env = pure false := by rfl) (hw : swappedStores [.Subscript (.Name x pos') b pos2] e X.env = pure none := by rfl)
    (h1 : (assignEach [.Subscript (.Name x pos') b pos2] X.env).map (·.2) = [assign (.Subscript (.Name x pos') b pos2) X.env] := by rfl) :
    FS X C (.Assign [.Subscript (.Name x pos') b pos2] e pos) (sPut i f g) := by
  obtain ⟨te, p, q⟩ := he
  obtain ⟨tk, p2, q2⟩ := hk
  refine ⟨_, ps_asg p (pg_sub (pe_var hN hv hd hcd) p2 set_list ha) hs hw h1, ?_⟩
  intro G H σ s o A e1 D k
  unfold sPut at e1
  split at e1
  · rename_i d s1 e2
    split at e1
    · rename_i ds0 e0
      split at e1
      · rename_i j s2 e3
        split at e1
        · rename_i ds e4
          split at e1
          · rename_i n e5
            cases e1
            refine q G H σ s d s1 A e2 _ fun v H1 G1 g1 A1 r => ?_
            obtain ⟨w, ew, a, vs0, rfl, h0, _⟩ := A1.slot e0
            refine ⟨.ref a, ew, q2 G1 H1 σ s1 _ s2 A1 e3 _ fun u H2 G2 g2 A2 r2 => ?_⟩
            obtain ⟨w1, ew1, a1, vs1, e6, h1, h2, _⟩ := A2.slot e4
            subst e6
            rw [ew] at ew1
            cases ew1
            refine ⟨a, vs1, j, n, rfl, r2, h1, by rw [h2.length]; exact e5, ?_⟩
            exact k σ _ G2 (g1.trans g2) (A2.put_own e4 ew (h2.set n (Rp.mono g2 d v r)))
          · cases e1
        · cases e1
      · cases e1
    · cases e1
  · cases e1

/-! ### the spool -/
def eSp (i : Nat) (j : Int) : EF := fun s => match s.sl[i]? with
  | some (some .spl) => if j = 0 then some (.lst (s.sp.nums.map .int), s) else if j = 1 then some (.int s.sp.place, s) else if j = 2 then some (.int s.sp.cell, s) else if j = 3 then some (.int s.sp.size, s) else none
  | _ => none
theorem fe_sp (i : Nat) {j : Int} {x : Str} {pos' pos2 : Pos} {k : Nat} (hN : X.N[i]? = some x := by rfl) (hv : Vis X.env.scope x := by first | exact Or.inl rfl | exact Or.inr (Or.inl rfl) | exact Or.inr (Or.inr rfl)) (hd : (x == ("__debug__" : Str)) = false := by decide)
    (hcd : (x == ("__classdict__" : Str)) = false := by decide) : FE X C (.Subscript (.Name x pos') (.Constant (.int j) k pos2) pos) (eSp i j) := by
  refine ⟨_, pe_ix ix_list (pe_var hN hv hd hcd) pe_int (fun _ _ => rfl), ?_⟩
  intro G H σ s d s' A e1 Q q
  unfold eSp at e1
  split at e1
  · rename_i e0
    obtain ⟨w, ew, a, ha, rfl⟩ := A.slot e0
    have kk := A.spk
    unfold SpOk at kk
    rw [ha] at kk
    obtain ⟨k1, nb, k2, k3⟩ := kk
    refine ⟨.ref a, ew, ?_⟩
    split at e1
    · rename_i z
      cases e1
      exact ⟨a, _, j, _, rfl, rfl, SqL.of k2, (by rw [z]; rfl), q _ H G (Same.refl _) A k3⟩
    · split at e1
      · rename_i z
        cases e1
        exact ⟨a, _, j, _, rfl, rfl, SqL.of k2, (by rw [z]; rfl), q _ H G (Same.refl _) A rfl⟩
      · split at e1
        · rename_i z
          cases e1
          exact ⟨a, _, j, _, rfl, rfl, SqL.of k2, (by rw [z]; rfl), q _ H G (Same.refl _) A rfl⟩
        · split at e1
          · rename_i z
            cases e1
            exact ⟨a, _, j, _, rfl, rfl, SqL.of k2, (by rw [z]; rfl), q _ H G (Same.refl _) A rfl⟩
          · cases e1
  · cases e1
def sSp (i : Nat) (j : Int) (f : EF) : SF := fun s => match f s with
  | some (.int v, s1) => match s1.sl[i]? with
    | some (some .spl) => if j = 1 then some (.nx { s1 with sp := { s1.sp with place := v } }) else if j = 2 then some (.nx { s1 with sp := { s1.sp with cell := v } }) else if j = 3 then some (.nx { s1 with sp := { s1.sp with size := v } }) else none
    | _ => none
  | _ => none
theorem fs_sp (i : Nat) {j : Int} {x : Str} {pos' pos2 pos3 : Pos} {kk : Nat} (he : FE X C e f) (hN : X.N[i]? = some x := by rfl) (hv : Vis X.env.scope x := by first | exact Or.inl rfl | exact Or.inr (Or.inl rfl) | exact Or.inr (Or.inr rfl)) (hd : (x == ("__debug__" : Str)) = false := by decide)
    (hcd : (x == ("__classdict__" : Str)) = false := by decide)
    (ha : ∀ v, assign (.Subscript (.Name x pos') (.Constant (.int j) kk pos3) pos2) X.env v = (do
      let ov ← holding [v] (eval (.Name x pos') X.env)
      let iv ← holding [v, ov] (eval (.Constant (.int j) kk pos3) X.env)
      standAt pos2
      holding [v, ov, iv] (setItem ov iv v)
      release [v, ov, iv] []) := by intro _; rfl)
    (hs : swapsWithSole [.Subscript (.Name x pos') (.Constant (.int j) kk pos3) pos2] e pos.line X.env = pure false := by rfl) (hw : swappedStores [.Subscript (.Name x pos') (.Constant (.int j) kk pos3) pos2] e X.env = pure none := by rfl)
    (h1 : (assignEach [.Subscript (.Name x pos') (.Constant (.int j) kk pos3) pos2] X.env).map (·.2) = [assign (.Subscript (.Name x pos') (.Constant (.int j) kk pos3) pos2) X.env] := by rfl) :
    FS X C (.Assign [.Subscript (.Name x pos') (.Constant (.int j) kk pos3) pos2] e pos) (sSp i j f) := by
  obtain ⟨te, p, q⟩ := he
  refine ⟨_, ps_asg p (pg_sub (pe_var hN hv hd hcd) pe_int set_list ha) hs hw h1, ?_⟩
  intro G H σ s o A e1 D k
  unfold sSp at e1
  split at e1
  · rename_i v s1 e2
    split at e1
    · rename_i e0
      refine q G H σ s _ s1 A e2 _ fun u H1 G1 g1 A1 r => ?_
      have er : u = .int v := r
      subst er
      obtain ⟨w, ew, a, ha, rfl⟩ := A1.slot e0
      have kq := A1.spk
      unfold SpOk at kq
      rw [ha] at kq
      obtain ⟨k1, nb, k2, k3⟩ := kq
      refine ⟨.ref a, ew, ?_⟩
      split at e1
      · rename_i z
        cases e1
        refine ⟨a, _, j, 1, rfl, rfl, k2, (by rw [z]; rfl), ?_⟩
        exact k σ _ G1 g1 (A1.put_spl (t := { s1.sp with place := v }) ha k3)
      · split at e1
        · rename_i z
          cases e1
          refine ⟨a, _, j, 2, rfl, rfl, k2, (by rw [z]; rfl), ?_⟩
          exact k σ _ G1 g1 (A1.put_spl (t := { s1.sp with cell := v }) ha k3)
        · split at e1
          · rename_i z
            cases e1
            refine ⟨a, _, j, 3, rfl, rfl, k2, (by rw [z]; rfl), ?_⟩
            exact k σ _ G1 g1 (A1.put_spl (t := { s1.sp with size := v }) ha k3)
          · cases e1
    · cases e1
  · cases e1
end
end FD

set_option maxRecDepth 100000
namespace FD
open PySem PySem.Spec PyProof.Rows L2
/-! ## room, and no text being made of an object around -/
structure Rm (k : Nat) (A : Around) : Prop where
  rm : Room k A
  gd : A.guards = some []
theorem Rm.units {k : Nat} {A : Around} (r : Rm k A) : A.units + 64 < cLine := r.rm.units
theorem Rm.units0 {k : Nat} {A : Around} (r : Rm k A) : A.units < cLine := r.rm.units0
theorem Rm.mono {j k : Nat} {A : Around} (r : Rm k A) (h : j ≤ k) : Rm j A := ⟨r.rm.mono h, r.gd⟩
theorem Rm.deeper {k : Nat} {A : Around} (r : Rm (k + 1) A) (env : Env) : Rm k (A.deeper env) := ⟨r.rm.deeper env, r.gd⟩
/-- what a def promises where there is room -/
structure FnG (P : Program) (w : World) (K : PySem.W.Frag) (mg : Str → Option Value) (base : Heap) (CX : CXT) (k : Nat) (f : Addr) (fd : FuncData) (ps : List Str) (sp : Sp) : Prop where
  len : ∀ vs H Q E, sp vs H Q E → vs.length = ps.length
  run : ∀ (A : Around) (outer : List Env) (s : Shared) (H : Hp) (args : Args) (us : List Value) (vs : List V) (Q : VK) (E : XK),
    Rm k A → Env0 P w K mg base A outer s H → BindsTo s fd args (ps.zip us) → Vals vs us → sp vs H Q E → codeAny (model P w) A (.call (.ref f) args) (CR CX outer P w H s Q E) s
section
variable {P : Program} {w : World} {K : PySem.W.Frag} {mg : Str → Option Value} {base : Heap} {CX : CXT} {j k : Nat} {f : Addr} {fd : FuncData} {ps N : List Str} {sp sp' : Sp}
theorem FnG.mono (F : FnG P w K mg base CX j f fd ps sp) (h : j ≤ k) : FnG P w K mg base CX k f fd ps sp where
  len := F.len
  run := fun A outer s H args us vs Q E r => F.run A outer s H args us vs Q E (r.mono h)
theorem FnG.imp (F : FnG P w K mg base CX k f fd ps sp) (h : ∀ vs H Q E, sp' vs H Q E → sp vs H Q E) : FnG P w K mg base CX k f fd ps sp' where
  len := fun vs H Q E q => F.len vs H Q E (h _ _ _ _ q)
  run := fun A outer s H args us vs Q E r e b v q => F.run A outer s H args us vs Q E r e b v (h _ _ _ _ q)
theorem okG {x qual : Str} {params : Arguments} {body : List Stmt} {scope : Scope} {dvs : List V} {kws : List (Str × V)} (F : FunD K x qual params body scope dvs kws f fd) (S : FnScope N ps scope) (len : ∀ vs H Q E, sp vs H Q E → vs.length = ps.length)
    (hbody : ∀ (cdv : Value) (A : Around) (outer : List Env) (s : Shared) (H : Hp) (vs : List V) (Q : VK) (E : XK), Rm k (A.deeper (envOfC qual scope s.heap.objs.size f cdv)) → sp vs H Q E →
      ∃ t, PSs (cxOf CX P w K mg base N qual scope f cdv A outer s H E) body t ∧ t { nx := fun _ H' => Q .non H', rt := Q } (start N vs) H) : FnG P w K mg base CX (k + 1) f fd ps sp := by
  obtain ⟨oc, od, dV, kV, doc, pm, an, cdv, ct, osl, rfl, lk, hcd, _, _⟩ := F.ex
  refine ⟨len, fun A outer s H args us vs Q E rr env hb vv want => ?_⟩
  have inK : K.In s.heap := env.mod.kin.keeps fun b o z => (env.bs b o z).1
  have nolim : s.heap.NoLimit := env.mod.nolimit.keeps fun b o z => (env.bs b o z).1
  have kinds : ∀ y ∈ ps.zip us, scope.names.lookup y.1 = some .local ∨ (scope.names.lookup y.1 = some .cell ∧ ((cellsFrom (s.heap.objs.size + 1) scope.names []).lookup y.1).isSome = true) := by
    intro ⟨n, v⟩ hy
    rcases S.par n (List.of_mem_zip hy).1 with q | q
    · exact .inl q
    · exact .inr ⟨q, PySem.W.cellsFrom_some _ _ _ (.inl q)⟩
  refine codeAny_call_function rr.rm.depth (inK _ _ lk) rfl S.co S.gen rfl (PySem.W.codeRec_of inK hcd) (hb _ _ _ _ (wpAny_newFunctionEnv_cells S.kind kinds fun fr hfr s1 x => ?_))
  subst hfr
  refine ⟨nolim.keeps x.toInCall.keep, codeAny_func ?_⟩
  obtain ⟨t, pt, tw⟩ := hbody cdv A outer s H vs Q E (rr.deeper _) want
  have I0 : Inv (cxOf CX P w K mg base N qual scope f cdv A outer s H E) [] (start N vs) H s1 := inv_start S rr.rm.hd env (len _ _ _ _ want) vv x
  have close : ∀ {s' : Shared} {σ' : St} {H' : Hp} {v : V} {u : Value}, Inv (cxOf CX P w K mg base N qual scope f cdv A outer s H E) [] σ' H' s' → RelV v u → Q v H' → CE outer P w H s Q u s' := fun J rv q => ⟨_, _, J.os, J.bare, J.base, J.hok, rv, q⟩
  refine wpAny_mono (pt.run [] s1 (start N vs) H _ I0 tw) (fun fl s' hs => ?_) fun _ _ hs => hs
  match fl, hs with
  | .ret u, ⟨_, _, _, J, rv, q⟩ => exact close J rv q
  | .next, ⟨_, _, J, q⟩ => exact close (v := V.non) (u := Value.none) J rfl q
  | .brk, ⟨_, _, _, q⟩ => exact False.elim q
  | .cont, ⟨_, _, _, q⟩ => exact False.elim q
end
section
variable {X : Cx} {CX : CXT} {k : Nat} {f : Addr} {fd : FuncData} {ps : List Str} {sp : Sp} {dvs : List V} {ds : List Value} {E : XK} {x : Str} {p pos : Pos} {e : Expr} {es : List Expr} {t : TA}
theorem pe_callG (F : FnG X.prog X.w X.K X.mg X.base CX k f fd ps sp) (hr : Rm k X.A) (hg : Gl X x) (hm : X.mg x = some (.ref f)) (hk : PySem.W.keepIn X.K (.ref f) = true) (hb : Binds X.K fd ps ds) (hd : Vals dvs ds) (hx : Passes CX X E)
    (ha : PA X (e :: es) t) (hdb : (x == ("__debug__" : Str)) = false := by decide) (he : starEach (e :: es) X.env = (false, eval e X.env) :: starEach es X.env := by rfl) (hpl : (backTo pos (starEach es X.env)).any (·.1) = false := by rfl) : PE X (.Call (.Name x p) (e :: es) [] pos) (tCall sp dvs E t) where
  run := by
    intro pins s σ H Q I h
    refine wpAny_Call_Name_kw (ld_glob I hg hm (PySem.W.callWith_K (h₀ := X.base) I.ok.mod.kin hk ?_ he hpl) hdb)
    refine thn (ha.run pos pins s σ H _ I h) ?_
    rintro us s1 ⟨vs, H1, I1, rv, want⟩
    refine ⟨I1.kIn, ?_⟩
    have all : Vals (vs ++ dvs) (us ++ ds) := rv.append hd
    have hl : (us ++ ds).length = ps.length := by rw [← all.length]; exact F.len _ _ _ _ want
    refine wpAny_call (codeAny_mono (F.run X.A X.stack s1 H1 ⟨us, []⟩ (us ++ ds) (vs ++ dvs) Q E hr I1.env0 (hb s1 us I1.kIn hl) all want) fun r s' hq => ?_)
    match r, hq with
    | .error e, hq => exact hx pins σ H1 s1 e s' I1 hq
    | .ok (.ret u), hq => exact I1.after hq
    | .ok .next, hq => exact False.elim hq
    | .ok .brk, hq => exact False.elim hq
    | .ok .cont, hq => exact False.elim hq
end
/-! ## the law called -/
section
variable {P : Program} {w : World} {K : PySem.W.Frag} {mg mb : Str → Option Value} {CX : CXT} {k : Nat} {fa a : Addr} {fd : FuncData} {x : Str} {sp : Sp} {s1 : Shared} {vs : List Value} {ns : List Int}
abbrev LawEnd (s1 : Shared) : Result → Shared → Prop := fun r s' => r = .ok (.ret (.bool true)) ∧ OldK s1.heap s'.heap ∧ s'.os = s1.os ∧ AllBare s'.gens
theorem callG (inK : K.In s1.heap) (hns : s1.heap.Ns mainGlobals mg) (hb : s1.heap.Ns builtinsNs mb) (hbb : ∀ x : Str, x ≠ "__name__" → mb x = bootBuiltins x) (hlim : s1.heap.NoLimit) (hg : s1.gens = #[]) (ha : s1.heap.get? a = some { cls := .type "list", data := .seq vs.toArray }) (hi : IntsAre vs ns)
    (hl : ns.length ≤ sizeLine) (hr : Rm k callerA) (F : ∀ base : Heap, K.In base → base.Ns mainGlobals mg → FnG P w K mg base CX k fa fd [x] sp) (bind : ∀ (s : Shared) (u : Value), BindsTo s fd ⟨[u], []⟩ [(x, u)])
    (hsp : ∀ H : Hp, Only H → SqL K H a (ns.map V.int) → sp [.ref a] H (fun v _ => v = .bl true) fun _ _ _ => False) (hCX : ∀ H e s', CX [] H s1 (fun _ _ _ => False) e s' → False) : codeAny (model P w) callerA (.call (.ref fa) ⟨[.ref a], []⟩) (LawEnd s1) s1 := by
  have vals := vals_ints hi
  have lenV := hi.length
  have core : ∀ H : Hp, Only H → SqL K H a (ns.map V.int) → HOk P w H s1.heap → (∀ b, H b ≠ none → b = a) → (H a ≠ none → K.lookup a = none) → codeAny (model P w) callerA (.call (.ref fa) ⟨[.ref a], []⟩) (LawEnd s1) s1 := by
    intro H only sq ok just notK
    have down : ∀ {b : Addr} {o : Obj}, s1.heap.get? b = some o → H b = none → (hidT s1.heap H).get? b = some o := fun z n => hidT_get z n
    have off : ∀ {b : Addr} {o : Obj} {es : Array DictEntry} {ep : Nat}, s1.heap.get? b = some o → o.data = .dict es ep → H b = none := by
      intro b o es ep z d
      cases q : H b with
      | none => rfl
      | some u =>
        obtain rfl : b = a := just b (by rw [q]; simp)
        rw [ha] at z
        cases z
        exact nomatch (show Data.seq vs.toArray _ = Data.dict es ep from d)
    have names : ∀ {b : Addr} {m : Str → Option Value}, s1.heap.Ns b m → (hidT s1.heap H).Ns b m := fun ⟨o, es, ep, z, d, r⟩ => ⟨o, es, ep, down z (off z d), d, r⟩
    have inB : K.In (hidT s1.heap H) := by
      intro b o z
      refine down (inK b o z) ?_
      cases q : H b with
      | none => rfl
      | some u =>
        obtain rfl : b = a := just b (by rw [q]; simp)
        rw [notK (by rw [q]; simp)] at z
        cases z
    have md : Mod K mg (hidT s1.heap H) := ⟨inB, names hns, ⟨mb, names hb, hbb⟩, let ⟨mc, h1, h2⟩ := hlim; ⟨mc, names h1, h2⟩⟩
    have env : Env0 P w K mg (hidT s1.heap H) callerA [] s1 H := ⟨rfl, md, fun b o z => of_hidT z, Nat.le_of_eq (hidT_size _ _), trivial, fun b hb => absurd (show b ∈ ([] : List Addr) from hb) (by simp), ok, .of_eq hg⟩
    refine codeAny_mono ((F _ inB (names hns)).run callerA [] s1 H ⟨[.ref a], []⟩ [.ref a] [.ref a] _ _ hr env (bind s1 (.ref a)) (.cons rfl .nil) (hsp H only sq)) fun r s' h => ?_
    match r, h with
    | .error e, h => exact (hCX H e s' h).elim
    | .ok .next, h => exact False.elim h
    | .ok .brk, h => exact False.elim h
    | .ok .cont, h => exact False.elim h
    | .ok (.ret u), ⟨v, H', os, bare, un, ok', r', q⟩ =>
      obtain rfl : v = .bl true := q
      obtain rfl : u = Value.bool true := r'
      refine ⟨rfl, OldK.of_keep fun b o z => ?_, os, bare⟩
      cases q : H b with
      | none => exact un.keep b o z q (by intro y; exact absurd (show b ∈ ([] : List Addr) from y) (by simp)) (by simp)
      | some u =>
        rcases only b with y | ⟨ob, xs, y⟩
        · rw [q] at y
          cases y
        · obtain ⟨z1, _⟩ := ok b _ y
          obtain ⟨z2, _⟩ := ok' b _ (un.frzs b ob _ y)
          rw [z] at z1
          cases z1
          exact z2
  cases hk : K.lookup a with
  | some o =>
    have z := inK a o hk
    rw [ha] at z
    cases z
    exact core (fun _ => none) (fun _ => .inl rfl) (.inr ⟨_, vs.toArray, _, hk, rfl, rfl, rfl, by rw [List.size_toArray, lenV]; exact hl, by simpa using vals⟩) (fun b u z => nomatch (show (none : Option HO) = some u from z)) (fun b z => absurd rfl z) fun z => absurd rfl z
  | none =>
    refine core (fun b => if b = a then some (.frz { cls := .type "list", data := .seq vs.toArray } (.lst (ns.map V.int))) else none) (fun b => ?_) (.inl (.inr ⟨{ cls := .type "list", data := .seq vs.toArray }, if_pos rfl⟩)) (fun b u z => ?_) (fun b z => ?_) fun _ => hk
    · by_cases c : b = a
      · exact .inr ⟨_, _, if_pos c⟩
      · exact .inl (if_neg c)
    · by_cases c : b = a
      · cases (if_pos c).symm.trans z
        subst c
        exact ⟨ha, by rw [List.length_map]; exact hl, vs, _, vals, ha⟩
      · cases (if_neg c).symm.trans z
    · by_cases c : b = a
      · exact c
      · exact absurd (if_neg c) z
end
theorem walkG {l : PySem.W.OpenLaw} {n k : Nat} {q : Program} {loose : List Str} {XP : (Str → Option Value) → Heap → Prop} {YP : World → Heap → Prop} {d : DefRec} {CX : CXT} {x : Str} (hn : l.most = some n) (hn2 : n ≤ sizeLine) (hdf : d.params.defaults = []) (hr : Rm k callerA)
    (F : ∀ (w : World) (mg : Str → Option Value) (fa : Addr) (h : Heap), YP w h → h.Ns mainGlobals mg → mg d.name = some (.ref fa) → ∃ (K : PySem.W.Frag) (fd : FuncData) (sp : Sp), K.In h ∧ (∀ (s : Shared) (u : Value), BindsTo s fd ⟨[u], []⟩ [(x, u)]) ∧
      (∀ (H : Hp) (a : Addr) (ns : List Int), ns.length ≤ n → Only H → SqL K H a (ns.map V.int) → sp [.ref a] H (fun v _ => v = .bl true) fun _ _ _ => False) ∧ ∀ base : Heap, K.In base → base.Ns mainGlobals mg → FnG l.prog w K mg base CX k fa fd [x] sp)
    (hCX : ∀ (H : Hp) (s : Shared) (e : Value) (s' : Shared), CX [] H s (fun _ _ _ => False) e s' → False) : PySem.W.WalkO q loose XP YP l.row.toRowW d [] (fun f vs => PySem.call f vs) :=
  Att.attach_call hn hdf fun w s0 s1 mg mb fa o pm cd doc a vs ns G Y ho hd hcd hmg hobj hints hlen hg => by
    obtain ⟨K, fd, sp, inK, hb, hsp, hF⟩ := F w mg fa _ Y G.T.g hmg
    exact callG inK G.T.g G.T.b G.T.builtins G.T.nolimit hg hobj hints (Nat.le_trans hlen hn2) hr hF hb (fun H only sq => hsp H a ns hlen only sq) fun H e s' => hCX H s1 e s'
end FD

set_option maxRecDepth 100000
namespace FD
open PySem PySem.Spec PyProof.Rows L2

/-! ## loops -/
def whN : Nat → TF → SF → SF
  | 0, c, _, s => match c s with
    | some (false, s1) => some (.nx s1)
    | _ => none
  | n + 1, c, b, s => match c s with
    | some (false, s1) => some (.nx s1)
    | some (true, s1) => match b s1 with
      | some (.nx s2) => whN n c b s2
      | some (.ct s2) => whN n c b s2
      | some (.bk s2) => some (.nx s2)
      | some (.rt d s2) => some (.rt d s2)
      | some (.er c s2) => some (.er c s2)
      | none => none
    | none => none
def sWh (n : S → Nat) (c : TF) (b : SF) : SF := fun s => whN (n s) c b s
def frN : List DV → GF → SF → SF
  | [], _, _, s => some (.nx s)
  | d :: ds, g, b, s => match g d s with
    | some s1 => match b s1 with
      | some (.nx s2) => frN ds g b s2
      | some (.ct s2) => frN ds g b s2
      | some (.bk s2) => some (.nx s2)
      | some (.rt d s2) => some (.rt d s2)
      | some (.er c s2) => some (.er c s2)
      | none => none
    | none => none
def sFr (it : LF) (g : GF) (b : SF) : SF := fun s => match it s with
  | some (ds, s1) => frN ds g b s1
  | none => none
/-- what an iterator walks -/
structure Wk (K : PySem.W.Frag) (G0 : Hp) (J : It) (ds : List DV) : Prop where
  stop : ∀ (i : Nat) (G H : Hp), Same G0 G → Same G H → ds.length ≤ i → J.stop i H
  go : ∀ (i : Nat) (G H : Hp), Same G0 G → Same G H → i < ds.length → J.go i H
  yld : ∀ (i : Nat) (G H : Hp) d x H', Same G0 G → Same G H → ds[i]? = some d → J.yld i H x H' → ∃ G', Fw G H G' H' none ∧ Rp K G' x d
def EvI (K : PySem.W.Frag) (C : Cn) (wi : TI) (f : LF) : Prop := ∀ G H σ s ds s', Ab K C G H σ s → f s = some (ds, s') →
  ∀ R : It → Hp → Prop, (∀ J H' G', Same G G' → Ab K C G' H' σ s' → Wk K G' J ds → R J H') → wi σ H R
def FI (X : Cx) (C : Cn) (tg iter : Expr) (f : LF) : Prop := ∃ wi, PI X tg iter wi ∧ EvI X.K C wi f
theorem wk_list {K : PySem.W.Frag} {G : Hp} {a : Addr} {vs : List V} {ds : List DV} (h : G a = some (.lst vs)) (r : RpL K G vs ds) : Wk K G (Itl K a) ds where
  stop := fun i G1 H g1 g2 hi => ⟨vs, SqL.of (g2 _ _ (g1 _ _ h)), by rw [r.length]; exact hi⟩
  go := fun i G1 H g1 g2 hi => by
    have hv : i < vs.length := by rw [r.length]; exact hi
    exact ⟨vs, vs[i], SqL.of (g2 _ _ (g1 _ _ h)), List.getElem?_eq_getElem hv⟩
  yld := fun i G1 H d x H' g1 g2 e y => by
    obtain ⟨e1, e2⟩ := y
    subst e1
    obtain ⟨v, q1, q2⟩ := r.get e
    have q3 := e2 vs (SqL.of (g2 _ _ (g1 _ _ h)))
    rw [q1] at q3
    cases q3
    exact ⟨G1, Fw.refl g2, Rp.mono g1 d _ q2⟩
theorem wk_tup {K : PySem.W.Frag} {G : Hp} {a : Addr} {vs : List V} {ds : List DV} (h : SqT K G a vs) (r : RpL K G vs ds) : Wk K G (Itt K a) ds where
  stop := fun i G1 H g1 g2 hi => ⟨vs, Same.tup g2 (Same.tup g1 h), by rw [r.length]; exact hi⟩
  go := fun i G1 H g1 g2 hi => by
    have hv : i < vs.length := by rw [r.length]; exact hi
    exact ⟨vs, vs[i], Same.tup g2 (Same.tup g1 h), List.getElem?_eq_getElem hv⟩
  yld := fun i G1 H d x H' g1 g2 e y => by
    obtain ⟨e1, e2⟩ := y
    subst e1
    obtain ⟨v, q1, q2⟩ := r.get e
    have q3 := e2 vs (Same.tup g2 (Same.tup g1 h))
    rw [q1] at q3
    cases q3
    exact ⟨G1, Fw.refl g2, Rp.mono g1 d _ q2⟩
def rngD (lo : Int) (n : Nat) : List DV := (List.range n).map fun (i : Nat) => .int (lo + (i : Int))
theorem wk_rng {K : PySem.W.Frag} {G : Hp} (lo : Int) (n : Nat) : Wk K G (Itr lo n) (rngD lo n) where
  stop := fun i G1 H g1 g2 hi => by
    unfold rngD at hi
    rw [List.length_map, List.length_range] at hi
    exact hi
  go := fun i G1 H g1 g2 hi => by
    unfold rngD at hi
    rw [List.length_map, List.length_range] at hi
    exact hi
  yld := fun i G1 H d x H' g1 g2 e y => by
    obtain ⟨e1, e2⟩ := y
    subst e1
    unfold rngD at e
    rw [List.getElem?_map] at e
    by_cases hi : i < n
    · rw [List.getElem?_range hi] at e
      cases e
      exact ⟨G1, Fw.refl g2, e2⟩
    · rw [List.getElem?_eq_none (by rw [List.length_range]; omega)] at e
      cases e
section
variable {X : Cx} {C : Cn} {e a b c tg : Expr} {es : List Expr} {st : Stmt} {rest body : List Stmt} {pos p p2 : Pos} {f g h : EF} {t : TF} {u w : SF}
/-- over a value: a list or a tuple -/
def iVal (f : EF) : LF := fun s => match f s with
  | some (.lst ds, s1) => some (ds, s1)
  | _ => none
def iTp (f : EF) : LF := fun s => match f s with
  | some (.tup ds, s1) => some (ds, s1)
  | _ => none
theorem fi_list (h : FE X C e f) : FI X C tg e (iVal f) := by
  obtain ⟨te, p, q⟩ := h
  refine ⟨_, pi_list p, ?_⟩
  intro G H σ s ds s' A e1 R k
  unfold iVal at e1
  split at e1
  · rename_i ds' s1 e2
    cases e1
    refine q G H σ s _ _ A e2 _ fun v H1 G1 g1 A1 r => ?_
    obtain ⟨a, vs, rfl, r1, r2⟩ := r
    exact ⟨a, rfl, ⟨vs, SqL.of (A1.gh _ _ r1)⟩, k _ H1 G1 g1 A1 (wk_list r1 r2)⟩
  · cases e1
theorem fi_tup (h : FE X C e f) : FI X C tg e (iTp f) := by
  obtain ⟨te, p, q⟩ := h
  refine ⟨_, pi_tup p, ?_⟩
  intro G H σ s ds s' A e1 R k
  unfold iTp at e1
  split at e1
  · rename_i ds' s1 e2
    cases e1
    refine q G H σ s _ _ A e2 _ fun v H1 G1 g1 A1 r => ?_
    obtain ⟨a, vs, rfl, r1, r2⟩ := r
    exact ⟨a, rfl, ⟨vs, Same.tup A1.gh r1⟩, k _ H1 G1 g1 A1 (wk_tup r1 r2)⟩
  · cases e1
def inR (j : Int) : Bool := decide (-(2 ^ 62) ≤ j ∧ j < 2 ^ 62)
def iRg1 (f : AF) : LF := fun s => match f s with
  | some ([.int j], s1) => if inR j then some (rngD 0 j.toNat, s1) else none
  | _ => none
def iRg2 (f : AF) : LF := fun s => match f s with
  | some ([.int i, .int j], s1) => if inR i && inR j then some (rngD i (j - i).toNat, s1) else none
  | _ => none
theorem fi_range1 {ff : AF} (hm : X.mg "range" = none) (h : FA X C [a] ff) (hg : Gl X "range" := by rfl) (hs : starEach [a] X.env = [(false, eval a X.env)] := by rfl) : FI X C tg (.Call (.Name "range" p) [a] [] pos) (iRg1 ff) := by
  obtain ⟨ta, p, q⟩ := h
  refine ⟨_, pi_range1 hg hm p hs, ?_⟩
  intro G H σ s ds s' A e1 R k
  unfold iRg1 at e1
  split at e1
  · split at e1
    · rename_i j s1 e2 hj
      cases e1
      refine q G H σ s _ _ A e2 _ fun vs H1 G1 g1 A1 r => ?_
      obtain ⟨v, e3, r1⟩ := r.single
      rw [show v = .int j from r1] at e3
      obtain ⟨h1, h2⟩ := of_decide_eq_true hj
      exact ⟨j, e3, h1, h2, k _ H1 G1 g1 A1 (wk_rng 0 _)⟩
    · cases e1
  · cases e1
theorem fi_range2 {ff : AF} (hm : X.mg "range" = none) (h : FA X C [a, b] ff) (hg : Gl X "range" := by rfl) (hs : starEach [a, b] X.env = [(false, eval a X.env), (false, eval b X.env)] := by rfl) (hs2 : starEach [b] X.env = [(false, eval b X.env)] := by rfl) : FI X C tg (.Call (.Name "range" p) [a, b] [] pos) (iRg2 ff) := by
  obtain ⟨ta, p, q⟩ := h
  refine ⟨_, pi_range2 hg hm p hs hs2, ?_⟩
  intro G H σ s ds s' A e1 R k
  unfold iRg2 at e1
  split at e1
  · split at e1
    · rename_i i j s1 e2 hj
      cases e1
      refine q G H σ s _ _ A e2 _ fun vs H1 G1 g1 A1 r => ?_
      obtain ⟨v, w, e3, r1, r2⟩ := r.double
      rw [show v = .int i from r1, show w = .int j from r2] at e3
      rw [Bool.and_eq_true] at hj
      obtain ⟨h1, h2⟩ := of_decide_eq_true hj.1
      obtain ⟨h3, h4⟩ := of_decide_eq_true hj.2
      exact ⟨i, j, e3, ⟨h1, h2, h3, h4⟩, k _ H1 G1 g1 A1 (wk_rng i _)⟩
    · cases e1
  · cases e1
theorem fs_for {g : GF} {it : LF} (hp : PassesOwn (model X.prog X.w) X.A X.env X.xe) (hc : X.calm = true) (hi : FI X C tg e it) (hg : FG X C tg g) (hb : FSs X C body u) (hs : ∀ x, foldedSetIterable e X.env x = pure x := by intro _; rfl) : FS X C (.For tg e body [] pos) (sFr it g u) := by
  obtain ⟨wi, p1, q1⟩ := hi
  obtain ⟨tg', p2, q2⟩ := hg
  obtain ⟨tb, p3, q3⟩ := hb
  refine ⟨_, ps_for hp hc p1 p2 p3 hs, ?_⟩
  intro G H σ s o A e1 D k
  unfold sFr at e1
  split at e1
  · rename_i ds s1 e2
    refine q1 G H σ s ds s1 A e2 _ fun J H1 G1 g1 A1 wk => ?_
    refine ⟨fun i m σ' H' => m = ds.length - i ∧ i ≤ ds.length ∧ ∃ G2 s2, Same G1 G2 ∧ Ab X.K C G2 H' σ' s2 ∧ frN (ds.drop i) g u s2 = some o, ⟨_, rfl, Nat.zero_le _, G1, s1, Same.refl _, A1, e1⟩, ?_⟩
    rintro i m σ' H' ⟨rfl, hi, G2, s2, g2, A2, e3⟩
    by_cases hl : i < ds.length
    · refine .inr ⟨wk.go i G2 H' g2 A2.gh hl, fun σ'' H'' => ∃ G3 s3, Same G1 G3 ∧ Ab X.K C G3 H'' σ'' s3 ∧ frN (ds.drop (i + 1)) g u s3 = some o, ?_, ?_⟩
      · rintro σ'' H'' ⟨G3, s3, g3, A3, e4⟩
        exact ⟨ds.length - (i + 1), by omega, rfl, hl, G3, s3, g3, A3, e4⟩
      · intro x H'' y
        have ed : ds.drop i = ds[i] :: ds.drop (i + 1) := List.drop_eq_getElem_cons hl
        obtain ⟨G3, F, r⟩ := wk.yld i G2 H' ds[i] x H'' g2 A2.gh (List.getElem?_eq_getElem hl) y
        have A3 := A2.fw0 F
        rw [ed] at e3
        unfold frN at e3
        split at e3
        · rename_i s3 e4
          refine q2 G3 H'' σ' s2 x ds[i] s3 A3 r e4 _ fun σ4 H4 G4 g4 A4 => ?_
          have g5 : Same G1 G4 := (g2.trans F.g).trans g4
          split at e3
          · rename_i s5 e5
            refine q3 G4 H4 σ4 s3 _ A4 e5 _ ?_
            exact fun σ6 H6 G6 g6 A6 => ⟨G6, s5, g5.trans g6, A6, e3⟩
          · rename_i s5 e5
            refine q3 G4 H4 σ4 s3 _ A4 e5 _ ?_
            exact fun σ6 H6 G6 g6 A6 => ⟨G6, s5, g5.trans g6, A6, e3⟩
          · rename_i s5 e5
            cases e3
            refine q3 G4 H4 σ4 s3 _ A4 e5 _ ?_
            exact fun σ6 H6 G6 g6 A6 => k σ6 H6 G6 ((g1.trans g5).trans g6) A6
          · rename_i d5 s5 e5
            cases e3
            refine q3 G4 H4 σ4 s3 _ A4 e5 _ ?_
            exact fun v σ6 H6 G6 g6 A6 => k v σ6 H6 G6 ((g1.trans g5).trans g6) A6
          · rename_i d5 s5 e5
            cases e3
            refine q3 G4 H4 σ4 s3 _ A4 e5 _ ?_
            exact fun σ6 H6 G6 g6 A6 => k σ6 H6 G6 ((g1.trans g5).trans g6) A6
          · cases e3
        · cases e3
    · have hz : ds.drop i = [] := List.drop_eq_nil_of_le (by omega)
      rw [hz] at e3
      unfold frN at e3
      cases e3
      exact .inl ⟨wk.stop i G2 H' g2 A2.gh (by omega), k σ' H' G2 (g1.trans g2) A2⟩
  · cases e1
theorem fs_while (n : S → Nat) (hp : PassesOwn (model X.prog X.w) X.A X.env X.xe) (hc : FT X C c t) (hb : FSs X C body u) : FS X C (.While c body [] pos) (sWh n t u) := by
  obtain ⟨tc, p1, q1⟩ := hc
  obtain ⟨tb, p2, q2⟩ := hb
  refine ⟨_, ps_while hp p1 p2, ?_⟩
  intro G H σ s o A e1 D k
  refine ⟨fun m σ' H' => ∃ G2 s2, Same G G2 ∧ Ab X.K C G2 H' σ' s2 ∧ whN m t u s2 = some o, ⟨n s, G, s, Same.refl _, A, e1⟩, ?_⟩
  rintro m σ' H' ⟨G2, s2, g2, A2, e2⟩
  cases m with
  | zero =>
    unfold whN at e2
    split at e2
    · rename_i s3 e3
      cases e2
      refine q1 G2 H' σ' s2 _ _ A2 e3 _ fun H3 G3 g3 A3 => ?_
      rw [if_neg Bool.false_ne_true]
      exact k σ' H3 G3 (g2.trans g3) A3
    · cases e2
  | succ m =>
    unfold whN at e2
    split at e2
    · rename_i s3 e3
      cases e2
      refine q1 G2 H' σ' s2 _ _ A2 e3 _ fun H3 G3 g3 A3 => ?_
      rw [if_neg Bool.false_ne_true]
      exact k σ' H3 G3 (g2.trans g3) A3
    · rename_i s3 e3
      refine q1 G2 H' σ' s2 _ _ A2 e3 _ fun H3 G3 g3 A3 => ?_
      rw [if_pos rfl]
      refine ⟨fun σ'' H'' => ∃ G4 s4, Same G G4 ∧ Ab X.K C G4 H'' σ'' s4 ∧ whN m t u s4 = some o, fun σ'' H'' z => ⟨m, Nat.lt_succ_self _, z⟩, ?_⟩
      split at e2
      · rename_i s5 e5
        exact q2 G3 H3 σ' s3 _ A3 e5 _ fun σ6 H6 G6 g6 A6 => ⟨G6, s5, (g2.trans g3).trans g6, A6, e2⟩
      · rename_i s5 e5
        exact q2 G3 H3 σ' s3 _ A3 e5 _ fun σ6 H6 G6 g6 A6 => ⟨G6, s5, (g2.trans g3).trans g6, A6, e2⟩
      · rename_i s5 e5
        cases e2
        exact q2 G3 H3 σ' s3 _ A3 e5 _ fun σ6 H6 G6 g6 A6 => k σ6 H6 G6 ((g2.trans g3).trans g6) A6
      · rename_i d5 s5 e5
        cases e2
        exact q2 G3 H3 σ' s3 _ A3 e5 _ fun v σ6 H6 G6 g6 A6 => k v σ6 H6 G6 ((g2.trans g3).trans g6) A6
      · rename_i d5 s5 e5
        cases e2
        exact q2 G3 H3 σ' s3 _ A3 e5 _ fun σ6 H6 G6 g6 A6 => k σ6 H6 G6 ((g2.trans g3).trans g6) A6
      · cases e2
    · cases e2
end

/-! ## defs -/
/-- a def that reads data and gives data; one that draws from the spool, its first argument -/
def spP (K : PySem.W.Frag) (f : List DV → Option DV) : Sp := fun vs H Q _ => ∃ G ds d, Same G H ∧ RpL K G vs ds ∧ f ds = some d ∧ ∀ v H' G', Fw G H G' H' none → Rp K G' v d → Q v H'
def spS (K : PySem.W.Frag) (f : List DV → Spl → Option (DV × Spl)) : Sp := fun vs H Q _ => ∃ G a vs' ds s d s', vs = .ref a :: vs' ∧ Same G H ∧ RpL K G vs' ds ∧ SpOk K G H (some a) s ∧ f ds s = some (d, s') ∧
  ∀ v H' G', Fw G H G' H' (some a) → SpOk K G' H' (some a) s' → Rp K G' v d → Q v H'
def spl0 : Spl := ⟨[], 0, 0, 0⟩
/-- what a body is worth for arguments; n parameters, m slots -/
def bodyP (n m : Nat) (g : SF) : List DV → Option DV := fun ds =>
  if ds.length = n then match g ⟨ds.map (fun d => some (.dat d)) ++ List.replicate (m - n) none, spl0⟩ with
    | some (.rt d _) => some d
    | some (.nx _) => some .non
    | _ => none
  else none
def bodyS (n m : Nat) (g : SF) : List DV → Spl → Option (DV × Spl) := fun ds t =>
  if ds.length + 1 = n then match g ⟨some .spl :: ds.map (fun d => some (.dat d)) ++ List.replicate (m - n) none, t⟩ with
    | some (.rt d s) => some (d, s.sp)
    | some (.nx s) => some (.non, s.sp)
    | _ => none
  else none
section
variable {P : Program} {w : World} {K : PySem.W.Frag} {mg : Str → Option Value} {base : Heap}
theorem slots_ok {C : Cn} {G H : Hp} : ∀ {vs : List V} {ds : List DV}, RpL K G vs ds → ∀ (m i : Nat) v x, (vs.map some ++ List.replicate m none)[i]? = some v → (ds.map (fun d => some (SV.dat d)) ++ List.replicate m none)[i]? = some x → SlOk K C G H v x := fun {vs ds} r m i v x e1 e2 => by
  have hl := r.length
  by_cases hi : i < ds.length
  · rw [List.getElem?_append_left (by simpa using hi), List.getElem?_map] at e2
    rw [List.getElem?_append_left (by rw [List.length_map, hl]; exact hi), List.getElem?_map] at e1
    obtain ⟨u, q1, q2⟩ := r.get (i := i) (d := ds[i]) (List.getElem?_eq_getElem hi)
    rw [q1] at e1
    rw [List.getElem?_eq_getElem hi] at e2
    cases e1
    cases e2
    exact ⟨u, rfl, q2⟩
  · rw [List.getElem?_append_right (by simpa using hi), List.getElem?_replicate] at e2
    split at e2
    · cases e2
      trivial
    · cases e2
theorem no_own {ds : List DV} {m i : Nat} {es : List DV} (h : (ds.map (fun d => some (SV.dat d)) ++ List.replicate m none)[i]? = some (some (.own es))) : False := by
  by_cases hi : i < ds.length
  · rw [List.getElem?_append_left (by simpa using hi), List.getElem?_map, List.getElem?_eq_getElem hi] at h
    cases h
  · rw [List.getElem?_append_right (by simpa using hi), List.getElem?_replicate] at h
    split at h <;> cases h
theorem ab_start {W : Value → Option Addr → St → Hp → Prop} {G H : Hp} {vs : List V} {ds : List DV} (g : Same G H) (r : RpL K G vs ds) (m : Nat) (t : Spl) : Ab K ⟨G, H, none, W⟩ G H (vs.map some ++ List.replicate m none) ⟨ds.map (fun d => some (.dat d)) ++ List.replicate m none, t⟩ where
  gh := g
  fr := fun b o e _ => e
  g0 := Same.refl _
  gn := fun b _ => rfl
  len := by simp [r.length]
  sl := fun i v x e1 e2 => slots_ok r m i v x e1 e2
  dis := fun i j a ds' es _ h => (no_own h).elim
  spk := trivial
theorem ab_startS {W : Value → Option Addr → St → Hp → Prop} {G H : Hp} {a : Addr} {vs : List V} {ds : List DV} {t : Spl} (g : Same G H) (r : RpL K G vs ds) (k : SpOk K G H (some a) t) (m : Nat) : Ab K ⟨G, H, some a, W⟩ G H (some (.ref a) :: vs.map some ++ List.replicate m none) ⟨some .spl :: ds.map (fun d => some (.dat d)) ++ List.replicate m none, t⟩ where
  gh := g
  fr := fun b o e _ => e
  g0 := Same.refl _
  gn := fun b _ => rfl
  len := by simp [r.length]
  sl := fun i v x e1 e2 => by
    cases i with
    | zero =>
      cases e1
      cases e2
      exact ⟨a, rfl, rfl⟩
    | succ i => exact slots_ok r m i v x (by simpa using e1) (by simpa using e2)
  dis := fun i j a' ds' es _ h => by
    cases i with
    | zero => cases h
    | succ i => exact (no_own (by simpa using h)).elim
  spk := k
/-- what a def of the text promises, from its body -/
theorem fn_pure {x qual : Str} {params : Arguments} {body : List Stmt} {scope : Scope} {dvs : List V} {kws : List (Str × V)} {f : Addr} {fd : FuncData} {N ps : List Str} {k : Nat} {g : SF} (F : FunD K x qual params body scope dvs kws f fd) (Sc : FnScope N ps scope)
    (h : ∀ (C : Cn) (cdv : Value) (A : Around) (outer : List Env) (s : Shared) (H : Hp) (E : XK), C.sp = none → Rm k (A.deeper (envOfC qual scope s.heap.objs.size f cdv)) → FSs (cxOf CX0 P w K mg base N qual scope f cdv A outer s H E).nox C body g) :
    FnG P w K mg base CX0 (k + 1) f fd ps (spP K (bodyP ps.length N.length g)) := by
  refine okG F Sc (fun vs H Q E h => ?_) (fun cdv A outer s H vs Q E hr hsp => ?_)
  · obtain ⟨G, ds, d, _, r, e, _⟩ := h
    unfold bodyP at e
    split at e
    · rename_i hl
      rw [r.length, hl]
    · cases e
  · obtain ⟨G, ds, d, g0, r, e, q⟩ := hsp
    unfold bodyP at e
    split at e
    · rename_i hl
      obtain ⟨t, p1, q1⟩ := h ⟨G, H, none, noW⟩ cdv A outer s H E rfl hr
      have A0 := ab_start (K := K) (W := noW) g0 r (N.length - ps.length) spl0
      have es : L2.start N vs = vs.map some ++ List.replicate (N.length - ps.length) none := by
        unfold L2.start
        rw [r.length, hl]
      refine ⟨t, p1.nox, ?_⟩
      rw [es]
      split at e
      · rename_i d' s' e1
        cases e
        refine q1 G H _ _ _ A0 e1 _ ?_
        exact fun v σ' H' G' g1 A1 rv => q v H' G' ⟨g1, A1.gh, fun b o e n => A1.fr b o e n, A1.gn⟩ rv
      · rename_i s' e1
        cases e
        refine q1 G H _ _ _ A0 e1 _ ?_
        exact fun σ' H' G' g1 A1 => q .non H' G' ⟨g1, A1.gh, fun b o e n => A1.fr b o e n, A1.gn⟩ rfl
      · cases e
    · cases e
theorem fn_spool {x qual : Str} {params : Arguments} {body : List Stmt} {scope : Scope} {dvs : List V} {kws : List (Str × V)} {f : Addr} {fd : FuncData} {N ps : List Str} {k : Nat} {g : SF} (F : FunD K x qual params body scope dvs kws f fd) (Sc : FnScope N ps scope)
    (h : ∀ (C : Cn) (cdv : Value) (A : Around) (outer : List Env) (s : Shared) (H : Hp) (E : XK), Rm k (A.deeper (envOfC qual scope s.heap.objs.size f cdv)) → FSs (cxOf CX0 P w K mg base N qual scope f cdv A outer s H E).nox C body g) :
    FnG P w K mg base CX0 (k + 1) f fd ps (spS K (bodyS ps.length N.length g)) := by
  refine okG F Sc (fun vs H Q E h => ?_) (fun cdv A outer s H vs Q E hr hsp => ?_)
  · obtain ⟨G, a, vs', ds, t, d, t', e0, _, r, _, e, _⟩ := h
    unfold bodyS at e
    split at e
    · rename_i hl
      rw [e0, List.length_cons, r.length, hl]
    · cases e
  · obtain ⟨G, a, vs', ds, t, d, t', e0, g0, r, kk, e, q⟩ := hsp
    subst e0
    unfold bodyS at e
    split at e
    · rename_i hl
      obtain ⟨tt, p1, q1⟩ := h ⟨G, H, some a, noW⟩ cdv A outer s H E hr
      have A0 := ab_startS (K := K) (W := noW) g0 r kk (N.length - ps.length)
      have es : L2.start N (.ref a :: vs') = some (.ref a) :: vs'.map some ++ List.replicate (N.length - ps.length) none := by
        unfold L2.start
        rw [List.length_cons, r.length, hl]
        rfl
      refine ⟨tt, p1.nox, ?_⟩
      rw [es]
      split at e
      · rename_i d' s' e1
        cases e
        refine q1 G H _ _ _ A0 e1 _ ?_
        exact fun v σ' H' G' g1 A1 rv => q v H' G' ⟨g1, A1.gh, fun b o e n => A1.fr b o e n, A1.gn⟩ A1.spk rv
      · rename_i s' e1
        cases e
        refine q1 G H _ _ _ A0 e1 _ ?_
        exact fun σ' H' G' g1 A1 => q .non H' G' ⟨g1, A1.gh, fun b o e n => A1.fr b o e n, A1.gn⟩ A1.spk rfl
      · cases e
    · cases e
theorem FnG.toP {k : Nat} {f : Addr} {fd : FuncData} {ps : List Str} {f1 f2 : List DV → Option DV} (F : FnG P w K mg base CX0 k f fd ps (spP K f1)) (h : ∀ ds d, f2 ds = some d → f1 ds = some d) : FnG P w K mg base CX0 k f fd ps (spP K f2) :=
  F.imp fun vs H Q E ⟨G, ds, d, g, r, e, q⟩ => ⟨G, ds, d, g, r, h ds d e, q⟩
theorem FnG.toS {k : Nat} {f : Addr} {fd : FuncData} {ps : List Str} {f1 f2 : List DV → Spl → Option (DV × Spl)} (F : FnG P w K mg base CX0 k f fd ps (spS K f1)) (h : ∀ ds t d, f2 ds t = some d → f1 ds t = some d) : FnG P w K mg base CX0 k f fd ps (spS K f2) :=
  F.imp fun vs H Q E ⟨G, a, vs', ds, t, d, t', e0, g, r, kk, e, q⟩ => ⟨G, a, vs', ds, t, d, t', e0, g, r, kk, h ds t _ e, q⟩
end
section
variable {X : Cx} {C : Cn} {e a b c tg : Expr} {es : List Expr} {pos p p2 : Pos} {f g h : EF}
/-- f(e, ..), f a def of the text -/
theorem fe_call {op : List DV → Option DV} {k : Nat} {fa : Addr} {fd : FuncData} {ps : List Str} {x : Str} {ff : AF} (F : FnG X.prog X.w X.K X.mg X.base CX0 k fa fd ps (spP X.K op)) (hr : Rm k X.A) (hm : X.mg x = some (.ref fa)) (hk : PySem.W.keepIn X.K (.ref fa) = true) (hb : Binds X.K fd ps [])
    (ha : FA X C (e :: es) ff) (hg : Gl X x := by rfl) (hdb : (x == ("__debug__" : Str)) = false := by decide) (he : starEach (e :: es) X.env = (false, eval e X.env) :: starEach es X.env := by rfl) (hpl : (backTo pos (starEach es X.env)).any (·.1) = false := by rfl) :
    FE X C (.Call (.Name x p) (e :: es) [] pos) (eA ff op) := by
  obtain ⟨ta, p1, q1⟩ := ha
  refine ⟨_, pe_callG F hr hg hm hk hb .nil pass0 p1 hdb he hpl, evA_of (r := fun vs H1 Q => spP X.K op (vs ++ []) H1 Q E0) q1 (fun _ _ _ h => h) fun G H σ s vs ds d A r e1 Q q => ?_⟩
  rw [List.append_nil]
  exact ⟨G, ds, d, A.gh, r, e1, q⟩
/-- f(spool, e, ..) -/
def eS (i : Nat) (g : AF) (op : List DV → Spl → Option (DV × Spl)) : EF := fun s => match s.sl[i]? with
  | some (some .spl) => match g s with
    | some (ds, s1) => match op ds s1.sp with
      | some (d, t) => some (d, { s1 with sp := t })
      | none => none
    | none => none
  | _ => none
theorem fe_callS (i : Nat) {op : List DV → Spl → Option (DV × Spl)} {k : Nat} {fa : Addr} {fd : FuncData} {ps : List Str} {x y : Str} {ff : AF} {py : Pos} (F : FnG X.prog X.w X.K X.mg X.base CX0 k fa fd ps (spS X.K op)) (hr : Rm k X.A) (hm : X.mg x = some (.ref fa)) (hk : PySem.W.keepIn X.K (.ref fa) = true) (hb : Binds X.K fd ps [])
    (ha : FA X C es ff) (hg : Gl X x := by rfl) (hN : X.N[i]? = some y := by rfl) (hv : Vis X.env.scope y := by first | exact Or.inl rfl | exact Or.inr (Or.inl rfl) | exact Or.inr (Or.inr rfl)) (hd : (y == ("__debug__" : Str)) = false := by decide)
    (hcd : (y == ("__classdict__" : Str)) = false := by decide) (hdb : (x == ("__debug__" : Str)) = false := by decide) (he : starEach (.Name y py :: es) X.env = (false, eval (.Name y py) X.env) :: starEach es X.env := by rfl) (hpl : (backTo pos (starEach es X.env)).any (·.1) = false := by rfl) :
    FE X C (.Call (.Name x p) (.Name y py :: es) [] pos) (eS i ff op) := by
  obtain ⟨ta, p1, q1⟩ := ha
  refine ⟨_, pe_callG F hr hg hm hk hb .nil pass0 (pa_cons (pe_var hN hv hd hcd) p1 he) hdb he hpl, ?_⟩
  intro G H σ s d s' A e1 Q q
  unfold eS at e1
  split at e1
  · rename_i e0
    split at e1
    · rename_i ds s1 e2
      split at e1
      · rename_i d' t e3
        cases e1
        obtain ⟨w, ew, a, ha, rfl⟩ := A.slot e0
        refine ⟨.ref a, ew, q1 G H σ s ds s1 A e2 _ fun vs H1 G1 g1 A1 r => ?_⟩
        have kk := A1.spk
        rw [ha] at kk
        refine ⟨G1, a, vs, ds, s1.sp, _, t, by rw [List.append_nil], A1.gh, r, kk, e3, fun v H' G' F' k' rv => ?_⟩
        rw [← ha] at F' k'
        exact q v H' G' (g1.trans F'.g) (A1.fw F' k') rv
      · cases e1
    · cases e1
  · cases e1
end
end FD

set_option maxRecDepth 100000
namespace FD
open PySem PySem.Spec PyProof.Rows L2

/-! ## enumerate -/
def enD : Nat → List DV → List DV
  | _, [] => []
  | n, d :: ds => .tup [.int (n : Int), d] :: enD (n + 1) ds
theorem enD_len : ∀ (n : Nat) (ds : List DV), (enD n ds).length = ds.length
  | _, [] => rfl
  | n, d :: ds => congrArg Nat.succ (enD_len (n + 1) ds)
theorem enD_get : ∀ (ds : List DV) (n i : Nat) (x : DV), (enD n ds)[i]? = some x → ∃ d, ds[i]? = some d ∧ x = .tup [.int ((n + i : Nat) : Int), d]
  | [], n, i, x, h => by simp [enD] at h
  | d :: ds, n, 0, x, h => by
    simp [enD] at h
    exact ⟨d, rfl, h.symm⟩
  | d :: ds, n, i + 1, x, h => by
    have h' : (enD (n + 1) ds)[i]? = some x := by simpa [enD] using h
    obtain ⟨e, h1, h2⟩ := enD_get ds (n + 1) i x h'
    refine ⟨e, by simpa using h1, ?_⟩
    rw [h2]
    congr 4
    omega
theorem wk_enum {K : PySem.W.Frag} {G : Hp} {a : Addr} {vs : List V} {ds : List DV} (h : G a = some (.lst vs)) (r : RpL K G vs ds) : Wk K G (Ite K a) (enD 0 ds) where
  stop := fun i G1 H g1 g2 hi => ⟨vs, SqL.of (g2 _ _ (g1 _ _ h)), by rw [r.length, ← enD_len 0 ds]; exact hi⟩
  go := fun i G1 H g1 g2 hi => by
    have hv : i < vs.length := by rw [r.length, ← enD_len 0 ds]; exact hi
    exact ⟨vs, vs[i], SqL.of (g2 _ _ (g1 _ _ h)), List.getElem?_eq_getElem hv⟩
  yld := fun i G1 H d x H' g1 g2 e y => by
    obtain ⟨T, z, rfl, nT, rfl, q⟩ := y
    obtain ⟨dd, e1, e2⟩ := enD_get ds 0 i d e
    subst e2
    obtain ⟨v, q1, q2⟩ := r.get e1
    have q3 := q vs (SqL.of (g2 _ _ (g1 _ _ h)))
    rw [q1] at q3
    have ez : z = v := (Option.some.inj q3).symm
    subst ez
    have F : Fw G1 H (upd G1 T (.tup [.int (i : Nat), z])) (upd H T (.tup [.int (i : Nat), z])) none := Fw.add g2 nT
    refine ⟨_, F, T, _, rfl, SqT.of upd_same, _, _, rfl, ?_, RpL.one (Rp.mono F.g _ _ (Rp.mono g1 _ _ q2))⟩
    show V.int (i : Nat) = V.int ((0 + i : Nat) : Int)
    rw [Nat.zero_add]
section
variable {X : Cx} {C : Cn} {e a b c : Expr} {es elts : List Expr} {pos p tpos : Pos} {f g h : EF}
def iEn (f : EF) : LF := fun s => match f s with
  | some (.lst ds, s1) => some (enD 0 ds, s1)
  | _ => none
theorem fi_enum {kk : Nat} (hm : X.mg "enumerate" = none) (h : FE X C e f) (hg : Gl X "enumerate" := by rfl) (hs : starEach [e] X.env = (false, eval e X.env) :: starEach [] X.env := by rfl) (hs' : starEach [e] X.env = [(false, eval e X.env)] := by rfl) : FI X C (.Tuple elts kk tpos) (.Call (.Name "enumerate" p) [e] [] pos) (iEn f) := by
  obtain ⟨te, p1, q1⟩ := h
  refine ⟨_, pi_enum hg hm (pa_cons p1 pa_nil hs) hs', ?_⟩
  intro G H σ s ds s' A e1 R k
  unfold iEn at e1
  split at e1
  · rename_i ds' s1 e2
    cases e1
    refine q1 G H σ s _ _ A e2 _ fun v H1 G1 g1 A1 r => ?_
    obtain ⟨a, vs, rfl, r1, r2⟩ := r
    exact ⟨a, vs, rfl, SqL.of (A1.gh _ _ r1), k _ H1 G1 g1 A1 (wk_enum r1 r2)⟩
  · cases e1

/-! ## list comprehensions: one for, one name -/
def tY : TF := fun s => some (true, s)
def cpN : List DV → Nat → TF → EF → S → List DV → Option (List DV × S)
  | [], _, _, _, s, acc => some (acc, s)
  | d :: ds, i, t, f, s, acc => match t { s with sl := s.sl.set i (some (.dat d)) } with
    | some (true, s2) => match f s2 with
      | some (y, s3) => if acc.length < sizeLine then cpN ds i t f { s3 with sl := s3.sl.set i none } (acc ++ [y]) else none
      | none => none
    | some (false, s2) => cpN ds i t f { s2 with sl := s2.sl.set i none } acc
    | none => none
def lCp (it : LF) (i : Nat) (t : TF) (f : EF) : LF := fun s => match it s with
  | some (ds, s1) => cpN ds i t f { s1 with sl := s1.sl.set i none } []
  | none => none
theorem Ab.forget {K : PySem.W.Frag} {G H : Hp} {σ σ' : List (Option V)} {s : S} {sl' : List (Option SV)} (A : Ab K C G H σ s) (hl : σ'.length = sl'.length) (h : ∀ (i : Nat) x, sl'[i]? = some (some x) → s.sl[i]? = some (some x) ∧ σ'[i]? = σ[i]?) : Ab K C G H σ' { s with sl := sl' } where
  gh := A.gh
  fr := A.fr
  g0 := A.g0
  gn := A.gn
  len := hl
  sl := fun i v x e1 e2 => by
    cases x with
    | none => trivial
    | some x =>
      obtain ⟨h1, h2⟩ := h i x e2
      exact A.sl i v (some x) (by rw [← h2]; exact e1) h1
  dis := fun i j a ds es n e1 e2 e3 => by
    obtain ⟨h1, h2⟩ := h i _ e1
    obtain ⟨h3, h4⟩ := h j _ e2
    rw [h4]
    rw [h2] at e3
    exact A.dis i j a ds es n h1 h3 e3
  spk := A.spk
section
variable {K : PySem.W.Frag} {G H G' H' : Hp} {σ : List (Option V)} {s : S} {D : Addr} {vs : List V} {acc : List DV}
theorem NewL.fw (n : NewL K C G H σ s D vs acc) (F : Fw G H G' H' none) : NewL K C G' H' σ s D vs acc where
  at_ := F.h _ _ n.at_ (fun z => nomatch z)
  rp := RpL.mono F.g _ _ n.rp
  g := by rw [F.n D (by rw [n.at_]; exact fun z => nomatch z)]; exact n.g
  h0 := n.h0
  sp := n.sp
  no := n.no
theorem Ab.rebase (A : Ab K C G H σ s) (n : NewL K C G H σ s D vs acc) : Ab K { C with H0 := upd C.H0 D (.lst vs) } G H σ s where
  gh := A.gh
  fr := fun b o e q => by
    by_cases z : b = D
    · have e' : upd C.H0 D (.lst vs) b = some o := e
      rw [z, upd_same] at e'
      rw [z, ← e']
      exact n.at_
    · have e' : upd C.H0 D (.lst vs) b = some o := e
      rw [upd_ne z] at e'
      exact A.fr b o e' q
  g0 := A.g0
  gn := fun b e => by
    have e' : upd C.H0 D (.lst vs) b ≠ none := e
    by_cases z : b = D
    · rw [z, n.g]
      cases q : C.G0 D with
      | none => rfl
      | some o =>
        have q' := A.g0 _ _ q
        rw [n.g] at q'
        cases q'
    · rw [upd_ne z] at e'
      exact A.gn b e'
  len := A.len
  sl := fun i v x e1 e2 => by
    have r := A.sl i v x e1 e2
    match x, r with
    | none, _ => trivial
    | some (.dat d), r => exact r
    | some (.own es), ⟨b, us, e, r1, r2, r3, r4, r5⟩ =>
      subst e
      have nb : b ≠ D := fun zz => n.no i es e2 (by rw [e1, zz])
      exact ⟨b, us, rfl, r1, r2, r3, by show upd C.H0 D (.lst vs) b = none; rw [upd_ne nb]; exact r4, r5⟩
    | some .spl, r => exact r
  dis := A.dis
  spk := A.spk
theorem Ab.unbase (A : Ab K { C with H0 := upd C.H0 D (.lst vs) } G H σ s) (h0 : C.H0 D = none) (g0 : C.G0 D = none) (hs : C.sp ≠ some D) (r : RpL K G vs acc) : Ab K C G H σ s ∧ NewL K C G H σ s D vs acc := by
  have hD : H D = some (.lst vs) := A.fr D _ upd_same hs
  have ne : ∀ {b : Addr}, upd C.H0 D (.lst vs) b = none → b ≠ D := fun {b} e z => by
    rw [z, upd_same] at e
    cases e
  refine ⟨⟨A.gh, fun b o e q => A.fr b o ?_ q, A.g0, fun b e => A.gn b ?_, A.len, fun i v x e1 e2 => ?_, A.dis, A.spk⟩, ⟨hD, r, ?_, h0, hs, fun j es e1 e2 => ?_⟩⟩
  · show upd C.H0 D (.lst vs) b = some o
    rw [upd_ne (fun z => by rw [z, h0] at e; cases e)]
    exact e
  · show upd C.H0 D (.lst vs) b ≠ none
    rw [upd_ne (fun z => by rw [z, h0] at e; exact e rfl)]
    exact e
  · have r := A.sl i v x e1 e2
    match x, r with
    | none, _ => trivial
    | some (.dat d), r => exact r
    | some (.own es), ⟨b, us, e, r1, r2, r3, r4, r5⟩ =>
      have r4' : upd C.H0 D (.lst vs) b = none := r4
      exact ⟨b, us, e, r1, r2, r3, by rw [upd_ne (ne r4')] at r4'; exact r4', r5⟩
    | some .spl, r => exact r
  · have q := A.gn D (by show upd C.H0 D (.lst vs) D ≠ none; rw [upd_same]; exact fun z => nomatch z)
    rw [q]
    exact g0
  · obtain ⟨o, q1, b, us, e, _, _, _, r4, _⟩ := A.slot e1
    subst e
    rw [e2] at q1
    cases q1
    exact ne r4 rfl
theorem Ab.put_new (A : Ab K C G H σ s) (n : NewL K C G H σ s D vs acc) {ws : List V} {bcc : List DV} (r : RpL K G ws bcc) : Ab K C G (upd H D (.lst ws)) σ s ∧ NewL K C G (upd H D (.lst ws)) σ s D ws bcc := by
  refine ⟨⟨fun b u q => ?_, fun b o q z => ?_, A.g0, A.gn, A.len, fun i v x e1 e2 => ?_, A.dis, ?_⟩, ⟨upd_same, r, n.g, n.h0, n.sp, n.no⟩⟩
  · rw [upd_ne (fun z => by rw [z, n.g] at q; cases q)]
    exact A.gh _ _ q
  · rw [upd_ne (fun z => by rw [z, n.h0] at q; cases q)]
    exact A.fr b o q z
  · have r := A.sl i v x e1 e2
    match x, r with
    | none, _ => trivial
    | some (.dat d), r => exact r
    | some (.own es), ⟨b, us, e, r1, r2, r3, r4, r5⟩ =>
      subst e
      have nb : b ≠ D := fun zz => n.no i es e2 (by rw [e1, zz])
      exact ⟨b, us, rfl, by rw [upd_ne nb]; exact r1, r2, r3, r4, r5⟩
    | some .spl, r => exact r
  · have k := A.spk
    unfold SpOk at *
    cases z : C.sp with
    | none => rw [z] at k; trivial
    | some c =>
      rw [z] at k
      obtain ⟨k1, nb, k2, k3⟩ := k
      exact ⟨k1, nb, by rw [upd_ne (fun e => n.sp (by rw [z, e]))]; exact k2, k3⟩
theorem Ab.set_none (A : Ab K C G H σ s) (i : Nat) : Ab K C G H (σ.set i none) { s with sl := s.sl.set i none } :=
  A.forget (by rw [List.length_set, List.length_set]; exact A.len) fun j x e => by
    rw [List.getElem?_set] at e
    rw [List.getElem?_set]
    by_cases z : i = j
    · rw [if_pos z] at e
      split at e <;> cases e
    · rw [if_neg z] at e ⊢
      exact ⟨e, rfl⟩
theorem not_own_set {i j : Nat} {x : Option SV} {es : List DV} (hx : ∀ es, x ≠ some (.own es)) (e : (s.sl.set i x)[j]? = some (some (.own es))) : i ≠ j ∧ s.sl[j]? = some (some (.own es)) := by
  rw [List.getElem?_set] at e
  by_cases z : i = j
  · rw [if_pos z] at e
    split at e
    · cases e
      exact absurd rfl (hx es)
    · cases e
  · rw [if_neg z] at e
    exact ⟨z, e⟩
theorem NewL.set {i : Nat} {x : Option SV} {o : Option V} (n : NewL K C G H σ s D vs acc) (hx : ∀ es, x ≠ some (.own es)) : NewL K C G H (σ.set i o) { s with sl := s.sl.set i x } D vs acc where
  at_ := n.at_
  rp := n.rp
  g := n.g
  h0 := n.h0
  sp := n.sp
  no := fun j es e1 e2 => by
    obtain ⟨z, e3⟩ := not_own_set hx e1
    rw [List.getElem?_set, if_neg z] at e2
    exact n.no j es e3 e2
end
theorem evLc {K : PySem.W.Frag} {i : Nat} {wi : TI} {tt : TT} {te : TE} {it : LF} {t : TF} {f : EF} (q1 : EvI K C wi it) (q2 : ∀ C', EvT K C' tt t) (q3 : ∀ C', EvE K C' te f) : EvL K C (tLc wi (gName i) tt te [i]) (lCp it i t f) := by
  intro G H σ s ds s' A e1 Q k
  unfold lCp at e1
  split at e1
  · rename_i items s1 e2
    refine q1 G H σ s items s1 A e2 _ fun J H1 G1 g1 A1 wk => ?_
    intro D hD
    obtain ⟨B1, n1⟩ := A1.lay (ds := []) rfl hD
    refine ⟨fun j m H' => m = items.length - j ∧ j ≤ items.length ∧ ∃ G2 s2 acc vs, Same G1 G2 ∧ Ab K C G2 H' (σ.set i none) s2 ∧ NewL K C G2 H' (σ.set i none) s2 D vs acc ∧ (∀ x, s2.sl[i]? ≠ some (some x)) ∧ cpN (items.drop j) i t f s2 acc = some (ds, s'), ⟨_, rfl, Nat.zero_le _, G1, _, [], [], Same.refl _, B1.set_none i, n1.set (fun es z => nomatch z), fun y e => ?_, e1⟩, ?_⟩
    · have e' : (s1.sl.set i none)[i]? = some (some y) := e
      rw [List.getElem?_set, if_pos rfl] at e'
      split at e' <;> cases e'
    rintro j m H' ⟨rfl, hj, G2, s2, acc, vs, g2, A2, n2, hn, e3⟩
    by_cases hl : j < items.length
    · refine .inr ⟨wk.go j G2 H' g2 A2.gh hl, fun H'' => ∃ G3 s3 acc vs, Same G1 G3 ∧ Ab K C G3 H'' (σ.set i none) s3 ∧ NewL K C G3 H'' (σ.set i none) s3 D vs acc ∧ (∀ x, s3.sl[i]? ≠ some (some x)) ∧ cpN (items.drop (j + 1)) i t f s3 acc = some (ds, s'), ?_, ?_⟩
      · rintro H'' ⟨G3, s3, acc', vs', g3, A3, n3, hn3, e4⟩
        exact ⟨items.length - (j + 1), by omega, rfl, hl, G3, s3, acc', vs', g3, A3, n3, hn3, e4⟩
      · intro z H'' y
        have ed : items.drop j = items[j] :: items.drop (j + 1) := List.drop_eq_getElem_cons hl
        obtain ⟨G3, F, r⟩ := wk.yld j G2 H' items[j] z H'' g2 A2.gh (List.getElem?_eq_getElem hl) y
        have A3 := A2.fw0 F
        have n3 := n2.fw F
        rw [ed] at e3
        have A4 := A3.set_dat (i := i) r
        have n4 : NewL K C G3 H'' ((σ.set i none).set i (some z)) { s2 with sl := s2.sl.set i (some (.dat items[j])) } D vs acc := n3.set (fun es z => nomatch z)
        have A5 := A4.rebase n4
        have g0D : C.G0 D = none := by
          cases q : C.G0 D with
          | none => rfl
          | some o =>
            have q' := A3.g0 _ _ q
            rw [n3.g] at q'
            cases q'
        have back : ∀ {G6 H6 : Hp} {s6 : S} {ws : List V} {bcc : List DV}, Ab K C G6 H6 ((σ.set i none).set i (some z)) s6 → NewL K C G6 H6 ((σ.set i none).set i (some z)) s6 D ws bcc →
            Ab K C G6 H6 (σ.set i none) { s6 with sl := s6.sl.set i none } ∧ NewL K C G6 H6 (σ.set i none) { s6 with sl := s6.sl.set i none } D ws bcc ∧ ∀ x, ({ s6 with sl := s6.sl.set i none } : S).sl[i]? ≠ some (some x) := by
          intro G6 H6 s6 ws bcc A6 n6
          have e7 : ((σ.set i none).set i (some z)).set i none = σ.set i none := by
            rw [List.set_set, List.set_set]
          have A7 := A6.set_none i
          have n7 : NewL K C G6 H6 (((σ.set i none).set i (some z)).set i none) { s6 with sl := s6.sl.set i none } D ws bcc := n6.set (fun es z => nomatch z)
          rw [e7] at A7 n7
          refine ⟨A7, n7, fun y e => ?_⟩
          have e' : (s6.sl.set i none)[i]? = some (some y) := e
          rw [List.getElem?_set, if_pos rfl] at e'
          split at e' <;> cases e'
        unfold cpN at e3
        show wipe ((wipe σ [i]).set i (some z)) [i] = wipe σ [i] ∧ _
        refine ⟨?_, ?_⟩
        · show ((σ.set i none).set i (some z)).set i none = σ.set i none
          rw [List.set_set, List.set_set]
        show tt ((σ.set i none).set i (some z)) H'' _
        split at e3
        · rename_i s6 e6
          refine q2 _ G3 H'' _ _ _ _ A5 e6 _ fun H6 G6 g6 A6 => ?_
          rw [if_pos rfl]
          split at e3
          · rename_i y7 s7 e7
            split at e3
            · rename_i hsz
              refine q3 _ G6 H6 _ _ _ _ A6 e7 _ fun v7 H7 G7 g7 A7 r7 => ?_
              obtain ⟨A8, n8⟩ := A7.unbase (acc := acc) n3.h0 g0D n3.sp (RpL.mono (g6.trans g7) _ _ n3.rp)
              refine ⟨vs, n8.at_, by rw [n8.rp.length]; exact hsz, ?_⟩
              obtain ⟨A9, n9⟩ := A8.put_new n8 (n8.rp.append (RpL.one r7))
              obtain ⟨A10, n10, h10⟩ := back A9 n9
              exact ⟨G7, _, _, _, ((g2.trans F.g).trans g6).trans g7, A10, n10, h10, e3⟩
            · cases e3
          · cases e3
        · rename_i s6 e6
          refine q2 _ G3 H'' _ _ _ _ A5 e6 _ fun H6 G6 g6 A6 => ?_
          rw [if_neg Bool.false_ne_true]
          obtain ⟨A8, n8⟩ := A6.unbase (acc := acc) n3.h0 g0D n3.sp (RpL.mono g6 _ _ n3.rp)
          obtain ⟨A10, n10, h10⟩ := back A8 n8
          exact ⟨G6, _, _, _, (g2.trans F.g).trans g6, A10, n10, h10, e3⟩
        · cases e3
    · have hz : items.drop j = [] := List.drop_eq_nil_of_le (by omega)
      rw [hz] at e3
      unfold cpN at e3
      cases e3
      refine .inl ⟨wk.stop j G2 H' g2 A2.gh (by omega), k D vs H' G2 (g1.trans g2) ?_ ?_⟩
      · refine A2.forget (s := s') (sl' := s'.sl) ?_ fun q x e => ⟨e, ?_⟩
        · have := A2.len
          rw [List.length_set] at this
          exact this
        · rw [List.getElem?_set, if_neg (fun z => hn x (by rw [z]; exact e))]
      · refine ⟨n2.at_, n2.rp, n2.g, n2.h0, n2.sp, fun q es e1' e2' => n2.no q es e1' ?_⟩
        rw [List.getElem?_set, if_neg (fun z => hn _ (by rw [z]; exact e1'))]
        exact e2'
  · cases e1
theorem fl_comp (i : Nat) {x : Str} {px : Pos} {elt iter : Expr} {ifs : List Expr} {scope : Scope} {it : LF} {t : TF} {f : EF} (hi : FI X C (.Name x px) iter it) (hc : X.calm = true) (hN : X.N.Nodup) (ok : BlkOk X.N X.env.scope scope [(x, i)])
    (hg : ∀ (s : Shared) (H : Hp) (C : Addr) (cl : List (Str × Addr)) (fp : List Addr), PG (X.blk s H scope (compEnvC scope cl C X.env) fp) (.Name x px) (gName i))
    (ht : ∃ tt, (∀ (s : Shared) (H : Hp) (C : Addr) (cl : List (Str × Addr)) (fp : List Addr), PTs (X.blk s H scope (compEnvC scope cl C X.env) fp) ifs tt) ∧ ∀ C', EvT X.K C' tt t)
    (he : ∃ te, (∀ (s : Shared) (H : Hp) (C : Addr) (cl : List (Str × Addr)) (fp : List Addr), PE (X.blk s H scope (compEnvC scope cl C X.env) fp) elt te) ∧ ∀ C', EvE X.K C' te f) (hs : ∀ x, foldedSetIterable iter X.env x = pure x := by intro _; rfl) :
    FL X C (.ListComp elt [⟨.Name x px, iter, ifs, 0⟩] scope pos) (lCp it i t f) := by
  obtain ⟨wi, p1, q1⟩ := hi
  obtain ⟨tt, p2, q2⟩ := ht
  obtain ⟨te, p3, q3⟩ := he
  exact ⟨_, pe_lc hc hN p1 ok hg p2 p3 hs, evLc q1 q2 q3⟩
theorem ev_yes {K : PySem.W.Frag} : EvT K C tYes tY := by
  intro G H σ s b s' A e Q k
  cases e
  exact k H G (Same.refl _) A
end
end FD

set_option maxRecDepth 100000
namespace FD
open PySem PySem.Spec PyProof.Rows L2

/-! ## x op= e -/
def sAug (i : Nat) (f : EF) (op : DV → DV → Option DV) : SF := fun s => match s.sl[i]? with
  | some (some (.dat d)) => match f s with
    | some (e, s1) => match op d e with
      | some z => some (.nx { s1 with sl := s1.sl.set i (some (.dat z)) })
      | none => none
    | none => none
  | _ => none
def dAddI : DV → DV → Option DV
  | .int i, .int j => some (.int (i + j))
  | _, _ => none
def dMulI : DV → DV → Option DV
  | .int i, .int j => if fitM i j then some (.int (i * j)) else none
  | _, _ => none
section
variable {X : Cx} {C : Cn} {e a b c : Expr} {es elts : List Expr} {pos p tpos : Pos} {f g h : EF}
theorem fs_aug (i : Nat) {x : Str} {o : Operator} {r : R2} {op : DV → DV → Option DV} {pos' : Pos} (hr : PIp X o r) (ho : Op2 X.K r op) (he : FE X C e f) (hN : X.N.Nodup) (hi : X.N[i]? = some x := by rfl) (hx : Loc X.env.scope x := by first | exact Or.inl rfl | exact Or.inr rfl) (hf : X.fn x = true ∨ X.env.scope.names.lookup x = some .local := by first | exact .inl rfl | exact .inr rfl | assumption) :
    FS X C (.AugAssign (.Name x pos') o e pos) (sAug i f op) := by
  obtain ⟨te, p, q⟩ := he
  refine ⟨_, ps_aug hN hi hx p hr hf, ?_⟩
  intro G H σ s o' A e1 D k
  unfold sAug at e1
  split at e1
  · rename_i d e0
    split at e1
    · rename_i e' s1 e2
      split at e1
      · rename_i z e3
        cases e1
        obtain ⟨w, ew, v, rfl, rv⟩ := A.slot e0
        refine ⟨v, ew, q G H σ s e' s1 A e2 _ fun y H1 G1 g1 A1 r1 => ?_⟩
        exact ho C G1 H1 σ s1 v y d e' z A1 (Rp.mono g1 d v rv) r1 e3 _ fun u H2 G2 F r2 => k _ H2 G2 (g1.trans F.g) ((A1.fw0 F).set_dat r2)
      · cases e1
    · cases e1
  · cases e1
theorem iop_mulX : OpR X (inplaceOp .Mult) (rI (fun i j => fitM i j = true) fun i j => .int (i * j)) := opI fun _ _ _ _ _ _ _ hc q => imul_int q (CallFit hc)
theorem iop_fdivX : OpR X (inplaceOp .FloorDiv) (rI (fun i j => j ≠ 0 ∧ j.natAbs.log2 < 9000) fun i j => .int (i.fdiv j)) := opI fun i j _ _ _ _ _ hc q => ifloordiv_int hc.1 q (.inl (PyProof.noPylong_of_log2 hc.2))
theorem o_addI {K : PySem.W.Frag} : Op2 K (rI0 fun i j => .int (i + j)) dAddI := o_int0 fun d e z h => by
  unfold dAddI at h
  split at h
  · cases h; exact ⟨_, _, rfl, rfl, fun _ => rfl⟩
  · cases h
theorem o_mulI {K : PySem.W.Frag} : Op2 K (rI (fun i j => fitM i j = true) fun i j => .int (i * j)) dMulI := o_int fun d e z h => by
  unfold dMulI at h
  split at h
  · split at h
    · rename_i hd
      cases h; exact ⟨_, _, rfl, rfl, hd, fun _ => rfl⟩
    · cases h
  · cases h
theorem fs_iadd (i : Nat) {x : Str} {pos' : Pos} (he : FE X C e f) (hN : X.N.Nodup) (hi : X.N[i]? = some x := by rfl) (hx : Loc X.env.scope x := by first | exact Or.inl rfl | exact Or.inr rfl) (hf : X.fn x = true ∨ X.env.scope.names.lookup x = some .local := by first | exact .inl rfl | exact .inr rfl | assumption) : FS X C (.AugAssign (.Name x pos') .Add e pos) (sAug i f dAddI) :=
  fs_aug i (r := rI0 fun i j => .int (i + j)) (fun pins s σ H x y v u Q I rx ry h => iop_add pins s σ H x y v u Q I rx ry h) o_addI he hN hi hx hf
theorem fs_isub (i : Nat) {x : Str} {pos' : Pos} (he : FE X C e f) (hN : X.N.Nodup) (hi : X.N[i]? = some x := by rfl) (hx : Loc X.env.scope x := by first | exact Or.inl rfl | exact Or.inr rfl) (hf : X.fn x = true ∨ X.env.scope.names.lookup x = some .local := by first | exact .inl rfl | exact .inr rfl | assumption) : FS X C (.AugAssign (.Name x pos') .Sub e pos) (sAug i f dSub) :=
  fs_aug i (r := rI0 fun i j => .int (i - j)) (fun pins s σ H x y v u Q I rx ry h => iop_sub pins s σ H x y v u Q I rx ry h) o_sub he hN hi hx hf
theorem fs_imul (i : Nat) {x : Str} {pos' : Pos} (he : FE X C e f) (hN : X.N.Nodup) (hi : X.N[i]? = some x := by rfl) (hx : Loc X.env.scope x := by first | exact Or.inl rfl | exact Or.inr rfl) (hf : X.fn x = true ∨ X.env.scope.names.lookup x = some .local := by first | exact .inl rfl | exact .inr rfl | assumption) : FS X C (.AugAssign (.Name x pos') .Mult e pos) (sAug i f dMulI) :=
  fs_aug i (r := rI (fun i j => fitM i j = true) fun i j => .int (i * j)) (fun pins s σ H x y v u Q I rx ry h => iop_mulX pins s σ H x y v u Q I rx ry h) o_mulI he hN hi hx hf
theorem fs_ifdiv (i : Nat) {x : Str} {pos' : Pos} (he : FE X C e f) (hN : X.N.Nodup) (hi : X.N[i]? = some x := by rfl) (hx : Loc X.env.scope x := by first | exact Or.inl rfl | exact Or.inr rfl) (hf : X.fn x = true ∨ X.env.scope.names.lookup x = some .local := by first | exact .inl rfl | exact .inr rfl | assumption) : FS X C (.AugAssign (.Name x pos') .FloorDiv e pos) (sAug i f dFdiv) :=
  fs_aug i (r := rI (fun i j => j ≠ 0 ∧ j.natAbs.log2 < 9000) fun i j => .int (i.fdiv j)) (fun pins s σ H x y v u Q I rx ry h => iop_fdivX pins s σ H x y v u Q I rx ry h) o_fdiv he hN hi hx hf
/-- a module's int -/
theorem fe_gint {x : Str} {i : Int} {t : Tok} (hm : X.mg x = some (.int i t)) (hg : Gl X x := by rfl) (hd : (x == ("__debug__" : Str)) = false := by decide) : FE X C (.Name x pos) (eC (.int i)) := ⟨_, pe_glob (v := .int i) hg hm ⟨t, rfl⟩ hd, evC fun _ => rfl⟩
end

/-! ## math.gcd, math.isqrt -/
theorem args_gcd3 (a b c : Value) : argsOk "math.gcd" ⟨[a, b, c], []⟩ := by unfold argsOk; kernel_rfl
theorem run_gcd3 (a : Int) (t : Tok) (b : Int) (u : Tok) (c : Int) (v : Tok) :
    Gives (Builtin.«math.gcd» ⟨[.int a t, .int b u, .int c v], []⟩) (.int (((((Nat.gcd 0 a.natAbs).gcd b.natAbs).gcd c.natAbs : Nat) : Int))) :=
  .of_wp fun M A E s Q h => by obtain ⟨hp, g, d, tk, os⟩ := s; wp_walk; exact ⟨_, rfl, h⟩
def dGcd : List DV → Option DV
  | [.int a, .int b] => some (.int ((Nat.gcd a.natAbs b.natAbs : Nat) : Int))
  | [.int a, .int b, .int c] => some (.int (((Nat.gcd a.natAbs b.natAbs).gcd c.natAbs : Nat) : Int))
  | _ => none
def rGcdX : List V → Hp → VK → Prop := fun vs H Q => (rGcd vs H Q) ∨ ∃ a b c : Int, vs = [.int a, .int b, .int c] ∧ Q (.int (((Nat.gcd a.natAbs b.natAbs).gcd c.natAbs : Nat) : Int)) H
theorem RpL.triple {K : PySem.W.Frag} {G : Hp} {vs : List V} {d d' d'' : DV} (h : RpL K G vs [d, d', d'']) : ∃ v v' v'', vs = [v, v', v''] ∧ Rp K G v d ∧ Rp K G v' d' ∧ Rp K G v'' d'' := by
  obtain ⟨v, r, e, h1, h2⟩ := h
  obtain ⟨w, w', rfl, h3, h4⟩ := h2.double
  exact ⟨v, w, w', e, h1, h3, h4⟩
section
variable {X : Cx} {C : Cn} {e a b c : Expr} {es elts : List Expr} {pos p tpos : Pos} {f g h : EF}
theorem cr_gcdX : CallR X (.builtin "math.gcd") rGcdX := by
  intro pins s σ H vs us Q I r h
  rcases h with h | ⟨a, b, c, rfl, q⟩
  · exact cr_gcd pins s σ H vs us Q I r h
  · cases r with
    | cons r1 r2 =>
      obtain ⟨u, w, e, r3, r4⟩ := vals2 r2
      subst e
      obtain ⟨t, rfl⟩ := r1
      obtain ⟨t', rfl⟩ := r3
      obtain ⟨t'', rfl⟩ := r4
      have gg := run_gcd3 a t b t' c t''
      rw [Nat.gcd_zero_left] at gg
      exact call_function_meets PySem.W.MGF.kind_gcd PySem.W.MGF.plain_gcd PySem.W.MGF.entry_gcd (args_gcd3 _ _ _) gg.meets ⟨.int _, H, I.tok _, ⟨_, rfl⟩, q⟩
theorem o_gcd {K : PySem.W.Frag} : OpA K rGcdX dGcd := by
  intro C G H σ s vs ds d A r ho Q q
  unfold dGcd at ho
  split at ho
  · cases ho
    obtain ⟨v, w, e, e1, e2⟩ := r.double
    rw [show v = .int _ from e1, show w = .int _ from e2] at e
    exact .inl ⟨_, _, e, q _ H G (Fw.refl A.gh) rfl⟩
  · cases ho
    obtain ⟨v, w, z, e, e1, e2, e3⟩ := r.triple
    rw [show v = .int _ from e1, show w = .int _ from e2, show z = .int _ from e3] at e
    exact .inr ⟨_, _, _, e, q _ H G (Fw.refl A.gh) rfl⟩
  · cases ho
theorem fe_gcd {ff : AF} (hm : X.mg "gcd" = some (.builtin "math.gcd")) (ha : FA X C (e :: es) ff) (hg : Gl X "gcd" := by rfl) (he : starEach (e :: es) X.env = (false, eval e X.env) :: starEach es X.env := by rfl) (hpl : (backTo pos (starEach es X.env)).any (·.1) = false := by rfl) :
    FE X C (.Call (.Name "gcd" p) (e :: es) [] pos) (eA ff dGcd) := fe_callM cr_gcdX o_gcd hm ha hg (he := he) (hpl := hpl)
def okSq (i : Int) : Bool := decide (0 ≤ i ∧ i.toNat.log2 < 13500)
def rSq : List V → Hp → VK → Prop := fun vs H Q => ∃ a : Int, vs = [.int a] ∧ okSq a = true ∧ Q (.int ((Float64.isqrt a.toNat : Nat) : Int)) H
theorem cr_sq : CallR X (.builtin "math.isqrt") rSq := by
  intro pins s σ H vs us Q I r h
  obtain ⟨a, rfl, ok, q⟩ := h
  obtain ⟨u, rfl, t, rfl⟩ := vals1 r
  obtain ⟨h0, h1⟩ := of_decide_eq_true ok
  exact call_function_meets PySem.W.MGF.kind_isqrt PySem.W.MGF.plain_isqrt PySem.W.MGF.entry_isqrt (PySem.W.MGF.args_isqrt _) (PySem.W.mg_run_isqrt a t (by omega) (by omega) (by omega)).meets ⟨.int _, H, I.tok _, ⟨_, rfl⟩, q⟩
def dSq : List DV → Option DV
  | [.int a] => if okSq a then some (.int ((Float64.isqrt a.toNat : Nat) : Int)) else none
  | _ => none
theorem o_sq {K : PySem.W.Frag} : OpA K rSq dSq := by
  intro C G H σ s vs ds d A r ho Q q
  unfold dSq at ho
  split at ho
  · split at ho
    · rename_i hk
      cases ho
      obtain ⟨v, e, e1⟩ := r.single
      rw [show v = .int _ from e1] at e
      exact ⟨_, e, hk, q _ H G (Fw.refl A.gh) rfl⟩
    · cases ho
  · cases ho
theorem fe_isqrt {ff : AF} (hm : X.mg "isqrt" = some (.builtin "math.isqrt")) (ha : FA X C [e] ff) (hg : Gl X "isqrt" := by rfl) (he : starEach [e] X.env = (false, eval e X.env) :: starEach [] X.env := by rfl) :
    FE X C (.Call (.Name "isqrt" p) [e] [] pos) (eA ff dSq) := fe_callM cr_sq o_sq hm ha hg (he := he)
end

/-! ## a def of the text, with all that its callers want -/
def DefOk (P : Program) (w : World) (K : PySem.W.Frag) (mg : Str → Option Value) (base : Heap) (k : Nat) (x : Str) (ps : List Str) (sp : Sp) : Prop :=
  ∃ f fd, FnG P w K mg base CX0 k f fd ps sp ∧ mg x = some (.ref f) ∧ PySem.W.keepIn K (.ref f) = true ∧ Binds K fd ps []
section
variable {X : Cx} {C : Cn} {e a b c : Expr} {es elts : List Expr} {pos p tpos : Pos} {f g h : EF}
theorem fe_def {op : List DV → Option DV} {k j : Nat} {ps : List Str} {x : Str} {ff : AF} (D : DefOk X.prog X.w X.K X.mg X.base j x ps (spP X.K op)) (hr : Rm k X.A) (hj : j ≤ k) (ha : FA X C (e :: es) ff) (hg : Gl X x := by rfl) (hdb : (x == ("__debug__" : Str)) = false := by decide) (he : starEach (e :: es) X.env = (false, eval e X.env) :: starEach es X.env := by rfl) (hpl : (backTo pos (starEach es X.env)).any (·.1) = false := by rfl) :
    FE X C (.Call (.Name x p) (e :: es) [] pos) (eA ff op) := by
  obtain ⟨fa, fd, F, hm, hk, hb⟩ := D
  exact fe_call (F.mono hj) hr hm hk hb ha hg hdb he hpl
theorem fe_defS (i : Nat) {op : List DV → Spl → Option (DV × Spl)} {k j : Nat} {ps : List Str} {x y : Str} {ff : AF} {py : Pos} (D : DefOk X.prog X.w X.K X.mg X.base j x ps (spS X.K op)) (hr : Rm k X.A) (hj : j ≤ k) (ha : FA X C es ff) (hg : Gl X x := by rfl) (hN : X.N[i]? = some y := by rfl) (hv : Vis X.env.scope y := by first | exact Or.inl rfl | exact Or.inr (Or.inl rfl) | exact Or.inr (Or.inr rfl)) (hd : (y == ("__debug__" : Str)) = false := by decide)
    (hcd : (y == ("__classdict__" : Str)) = false := by decide) (hdb : (x == ("__debug__" : Str)) = false := by decide) (he : starEach (.Name y py :: es) X.env = (false, eval (.Name y py) X.env) :: starEach es X.env := by rfl) (hpl : (backTo pos (starEach es X.env)).any (·.1) = false := by rfl) :
    FE X C (.Call (.Name x p) (.Name y py :: es) [] pos) (eS i ff op) := by
  obtain ⟨fa, fd, F, hm, hk, hb⟩ := D
  exact fe_callS i (F.mono hj) hr hm hk hb ha hg hN hv hd hcd hdb he hpl
end
/-- an int in a slot (0 where none is) -/
def slI (s : S) (i : Nat) : Int := match s.sl[i]? with
  | some (some (.dat (.int n))) => n
  | _ => 0
end FD

set_option maxRecDepth 100000
namespace FD
open PySem PySem.Spec PyProof.Rows L2

/-! ## a reading that serves in every context -/
def tU (K : PySem.W.Frag) (f : EF) : TE := fun σ H Q => ∃ C G s d s', Ab K C G H σ s ∧ f s = some (d, s') ∧ ∀ v H' G', Same G G' → Ab K C G' H' σ s' → Rp K G' v d → Q v H'
def tUt (K : PySem.W.Frag) (f : TF) : TT := fun σ H Q => ∃ C G s d s', Ab K C G H σ s ∧ f s = some (d, s') ∧ ∀ H' G', Same G G' → Ab K C G' H' σ s' → Q d H'
theorem pe_U {X : Cx} {e : Expr} {f : EF} (h : ∀ C, FE X C e f) : PE X e (tU X.K f) := by
  refine ⟨fun pins s σ H Q I z => ?_⟩
  obtain ⟨C, G, st, d, st', A, e1, k⟩ := z
  obtain ⟨te, p, q⟩ := h C
  exact p.run pins s σ H Q I (q G H σ st d st' A e1 Q k)
theorem pt_U {X : Cx} {e : Expr} {f : TF} (h : ∀ C, FT X C e f) : PT X e (tUt X.K f) := by
  refine ⟨fun pins s σ H Q I z => ?_⟩
  obtain ⟨C, G, st, d, st', A, e1, k⟩ := z
  obtain ⟨te, p, q⟩ := h C
  exact p.run pins s σ H Q I (q G H σ st d st' A e1 Q k)
theorem evU {K : PySem.W.Frag} {C : Cn} {f : EF} : EvE K C (tU K f) f := fun G H σ s d s' A e Q k => ⟨C, G, s, d, s', A, e, k⟩
theorem evUt {K : PySem.W.Frag} {C : Cn} {f : TF} : EvT K C (tUt K f) f := fun G H σ s d s' A e Q k => ⟨C, G, s, d, s', A, e, k⟩

section
variable {X : Cx} {C : Cn} {e a b c : Expr} {es elts : List Expr} {pos p tpos : Pos} {f g h : EF}
theorem evOwn {K : PySem.W.Frag} {te : TE} {i : Nat} {ff : LF} (q : EvL K C te ff) : EvS K C (tAsg te (gName i)) (sOwn i ff) := by
  intro G H σ s o A e1 D k
  unfold sOwn at e1
  split at e1
  · rename_i ds s1 e2
    cases e1
    exact q G H σ s ds s1 A e2 _ fun p vs H1 G1 g1 A1 n => k _ H1 G1 g1 (A1.set_own n.at_ n.rp n.g n.h0 n.sp n.no)
  · cases e1
theorem evSet {K : PySem.W.Frag} {te : TE} {i : Nat} {f : EF} (q : EvE K C te f) : EvS K C (tAsg te (gName i)) (sAsg f (gNm i)) := by
  intro G H σ s o A e1 D k
  unfold sAsg at e1
  split at e1
  · rename_i d s1 e2
    cases e1
    exact q G H σ s d s1 A e2 _ fun v H1 G1 g1 A1 r => k _ H1 G1 g1 (A1.set_dat r)
  · cases e1
theorem evFl {K : PySem.W.Frag} {te : TE} {ff : LF} (q : EvL K C te ff) : EvE K C te (eL ff) := by
  intro G H σ s d s' A e1 Q k
  unfold eL at e1
  split at e1
  · rename_i ds s1 e2
    cases e1
    refine q G H σ s ds _ A e2 _ fun p vs H1 G1 g1 A1 n => ?_
    obtain ⟨G2, g2, A2, r⟩ := A1.take_in n
    exact k _ H1 G2 (g1.trans g2) A2 r
  · cases e1
/-- [elt for x in iter], and as a name's list -/
theorem fl_lc (i : Nat) {x : Str} {px : Pos} {elt iter : Expr} {scope : Scope} {it : LF} {f : EF} (hc : X.calm = true) (hN : X.N.Nodup) (ok : BlkOk X.N X.env.scope scope [(x, i)]) (hi : FI X C (.Name x px) iter it)
    (hg : ∀ (s : Shared) (H : Hp) (C : Addr) (cl : List (Str × Addr)) (fp : List Addr), PG (X.blk s H scope (compEnvC scope cl C X.env) fp) (.Name x px) (gName i))
    (he : ∀ (s : Shared) (H : Hp) (Ca : Addr) (cl : List (Str × Addr)) (fp : List Addr) (C' : Cn), FE (X.blk s H scope (compEnvC scope cl Ca X.env) fp) C' elt f) (hs : ∀ x, foldedSetIterable iter X.env x = pure x := by intro _; rfl) :
    FL X C (.ListComp elt [⟨.Name x px, iter, [], 0⟩] scope pos) (lCp it i tY f) :=
  fl_comp i hi hc hN ok hg ⟨tYes, fun _ _ _ _ _ => pts_nil, fun _ => ev_yes⟩ ⟨tU X.K f, fun s H Ca cl fp => pe_U (he s H Ca cl fp), fun _ => evU⟩ hs
theorem fl_lcif (i : Nat) {x : Str} {px : Pos} {elt iter cnd : Expr} {scope : Scope} {it : LF} {f : EF} {t : TF} (hc : X.calm = true) (hN : X.N.Nodup) (ok : BlkOk X.N X.env.scope scope [(x, i)]) (hi : FI X C (.Name x px) iter it)
    (hg : ∀ (s : Shared) (H : Hp) (C : Addr) (cl : List (Str × Addr)) (fp : List Addr), PG (X.blk s H scope (compEnvC scope cl C X.env) fp) (.Name x px) (gName i))
    (ht : ∀ (s : Shared) (H : Hp) (Ca : Addr) (cl : List (Str × Addr)) (fp : List Addr) (C' : Cn), FT (X.blk s H scope (compEnvC scope cl Ca X.env) fp) C' cnd t)
    (he : ∀ (s : Shared) (H : Hp) (Ca : Addr) (cl : List (Str × Addr)) (fp : List Addr) (C' : Cn), FE (X.blk s H scope (compEnvC scope cl Ca X.env) fp) C' elt f) (hs : ∀ x, foldedSetIterable iter X.env x = pure x := by intro _; rfl) :
    FL X C (.ListComp elt [⟨.Name x px, iter, [cnd], 0⟩] scope pos) (lCp it i t f) :=
  fl_comp i hi hc hN ok hg ⟨tUt X.K t, fun s H Ca cl fp => pts_one (pt_U (ht s H Ca cl fp)), fun _ => evUt⟩ ⟨tU X.K f, fun s H Ca cl fp => pe_U (he s H Ca cl fp), fun _ => evU⟩ hs
theorem ps_lc {j : Nat} (i : Nat) {x y : Str} {px py spos : Pos} {elt iter : Expr} {scope : Scope} {it : LF} {f : EF} (hc : X.calm = true) (hN : X.N.Nodup) (hy : X.N[j]? = some y) (hyl : X.env.scope.names.lookup y = some .local)
    (hsw : swapsWith (.ListComp elt [⟨.Name x px, iter, [], 0⟩] scope pos) (some (.Name y py)) spos.line X.env = pure true) (ok : BlkOk X.N X.env.scope scope [(x, i)]) (hi : FI X C (.Name x px) iter it)
    (hg : ∀ (s : Shared) (H : Hp) (C : Addr) (cl : List (Str × Addr)) (fp : List Addr), PG (X.blk s H scope (compEnvC scope cl C X.env) fp) (.Name x px) (gName i))
    (he : ∀ (s : Shared) (H : Hp) (Ca : Addr) (cl : List (Str × Addr)) (fp : List Addr) (C' : Cn), FE (X.blk s H scope (compEnvC scope cl Ca X.env) fp) C' elt f) (hs : ∀ x, foldedSetIterable iter X.env x = pure x := by intro _; rfl) :
    ∃ te, PS X (.Assign [.Name y py] (.ListComp elt [⟨.Name x px, iter, [], 0⟩] scope pos) spos) (tAsg te (gName j)) ∧ EvL X.K C te (lCp it i tY f) := by
  obtain ⟨wi, p1, q1⟩ := hi
  exact ⟨_, ps_setLc hc hN hy hyl hsw p1 ok hg (fun _ _ _ _ _ => pts_nil) (fun s H Ca cl fp => pe_U (he s H Ca cl fp)) hs, evLc q1 (fun _ => ev_yes) (fun _ => evU)⟩
theorem fs_lco (j i : Nat) {x y : Str} {px py spos : Pos} {elt iter : Expr} {scope : Scope} {it : LF} {f : EF} (hc : X.calm = true) (hN : X.N.Nodup) (ok : BlkOk X.N X.env.scope scope [(x, i)]) (hi : FI X C (.Name x px) iter it)
    (hg : ∀ (s : Shared) (H : Hp) (C : Addr) (cl : List (Str × Addr)) (fp : List Addr), PG (X.blk s H scope (compEnvC scope cl C X.env) fp) (.Name x px) (gName i))
    (he : ∀ (s : Shared) (H : Hp) (Ca : Addr) (cl : List (Str × Addr)) (fp : List Addr) (C' : Cn), FE (X.blk s H scope (compEnvC scope cl Ca X.env) fp) C' elt f) (hy : X.N[j]? = some y := by rfl) (hyl : X.env.scope.names.lookup y = some .local := by rfl)
    (hsw : swapsWith (.ListComp elt [⟨.Name x px, iter, [], 0⟩] scope pos) (some (.Name y py)) spos.line X.env = pure true := by exact sw_true rfl rfl rfl (by decide +kernel)) (hs : ∀ x, foldedSetIterable iter X.env x = pure x := by intro _; rfl) :
    FS X C (.Assign [.Name y py] (.ListComp elt [⟨.Name x px, iter, [], 0⟩] scope pos) spos) (sOwn j (lCp it i tY f)) :=
  let ⟨_, p, q⟩ := ps_lc i hc hN hy hyl hsw ok hi hg he hs; ⟨_, p, evOwn q⟩
theorem fs_lcd (j i : Nat) {x y : Str} {px py spos : Pos} {elt iter : Expr} {scope : Scope} {it : LF} {f : EF} (hc : X.calm = true) (hN : X.N.Nodup) (ok : BlkOk X.N X.env.scope scope [(x, i)]) (hi : FI X C (.Name x px) iter it)
    (hg : ∀ (s : Shared) (H : Hp) (C : Addr) (cl : List (Str × Addr)) (fp : List Addr), PG (X.blk s H scope (compEnvC scope cl C X.env) fp) (.Name x px) (gName i))
    (he : ∀ (s : Shared) (H : Hp) (Ca : Addr) (cl : List (Str × Addr)) (fp : List Addr) (C' : Cn), FE (X.blk s H scope (compEnvC scope cl Ca X.env) fp) C' elt f) (hy : X.N[j]? = some y := by rfl) (hyl : X.env.scope.names.lookup y = some .local := by rfl)
    (hsw : swapsWith (.ListComp elt [⟨.Name x px, iter, [], 0⟩] scope pos) (some (.Name y py)) spos.line X.env = pure true := by exact sw_true rfl rfl rfl (by decide +kernel)) (hs : ∀ x, foldedSetIterable iter X.env x = pure x := by intro _; rfl) :
    FS X C (.Assign [.Name y py] (.ListComp elt [⟨.Name x px, iter, [], 0⟩] scope pos) spos) (sAsg (eL (lCp it i tY f)) (gNm j)) :=
  let ⟨_, p, q⟩ := ps_lc i hc hN hy hyl hsw ok hi hg he hs; ⟨_, p, evSet (evFl q)⟩
end

/-! ## the spool made, the law -/
/-- a def that hands back a new list -/
def spN (K : PySem.W.Frag) (f : List DV → Option (List DV)) : Sp := fun vs H Q _ => ∃ G ds es, Same G H ∧ RpL K G vs ds ∧ f ds = some es ∧ ∀ p us H' G', Fw G H G' H' none → H' p = some (.lst us) → RpL K G' us es → G' p = none → H p = none → Q (.ref p) H'
def bodyN (n m : Nat) (g1 g2 : SF) (f : LF) : List DV → Option (List DV) := fun ds =>
  if ds.length = n then match g1 ⟨ds.map (fun d => some (.dat d)) ++ List.replicate (m - n) none, spl0⟩ with
    | some (.nx s1) => match g2 s1 with
      | some (.nx s2) => match f s2 with
        | some (es, _) => some es
        | none => none
      | _ => none
    | _ => none
  else none
section
variable {P : Program} {w : World} {K : PySem.W.Frag} {mg : Str → Option Value} {base : Heap}
theorem fn_new {x qual : Str} {params : Arguments} {body : List Stmt} {scope : Scope} {dvs : List V} {kws : List (Str × V)} {f : Addr} {fd : FuncData} {N ps : List Str} {k : Nat} {g1 g2 : SF} {ff : LF} {s1 s2 : Stmt} {e : Expr} {pos : Pos} (F : FunD K x qual params body scope dvs kws f fd) (Sc : FnScope N ps scope) (hbd : body = [s1, s2, .Return (some e) pos])
    (h : ∀ (C : Cn) (cdv : Value) (A : Around) (outer : List Env) (s : Shared) (H : Hp) (E : XK), Rm k (A.deeper (envOfC qual scope s.heap.objs.size f cdv)) →
      FS (cxOf CX0 P w K mg base N qual scope f cdv A outer s H E).nox C s1 g1 ∧ FS (cxOf CX0 P w K mg base N qual scope f cdv A outer s H E).nox C s2 g2 ∧ FL (cxOf CX0 P w K mg base N qual scope f cdv A outer s H E).nox C e ff) :
    FnG P w K mg base CX0 (k + 1) f fd ps (spN K (bodyN ps.length N.length g1 g2 ff)) := by
  refine okG F Sc (fun vs H Q E h => ?_) (fun cdv A outer s H vs Q E hr hsp => ?_)
  · obtain ⟨G, ds, d, _, r, e, _⟩ := h
    unfold bodyN at e
    split at e
    · rename_i hl
      rw [r.length, hl]
    · cases e
  · obtain ⟨G, ds, es, g0, r, e, q⟩ := hsp
    unfold bodyN at e
    split at e
    · rename_i hl
      obtain ⟨⟨t1, p1, q1⟩, ⟨t2, p2, q2⟩, ⟨t3, p3, q3⟩⟩ := h ⟨G, H, none, noW⟩ cdv A outer s H E hr
      have A0 := ab_start (K := K) (W := noW) g0 r (N.length - ps.length) spl0
      have es' : L2.start N vs = vs.map some ++ List.replicate (N.length - ps.length) none := by
        unfold L2.start
        rw [r.length, hl]
      rw [hbd]
      refine ⟨_, (pss_cons p1 (pss_cons p2 (pss_one (ps_ret p3)))).nox, ?_⟩
      rw [es']
      split at e
      · rename_i sa e1
        split at e
        · rename_i sb e2
          split at e
          · rename_i es'' sc e3
            cases e
            refine q1 G H _ _ _ A0 e1 _ ?_
            intro σ1 H1 G1 g1' A1
            refine q2 G1 H1 _ _ _ A1 e2 _ ?_
            intro σ2 H2 G2 g2' A2
            refine q3 G2 H2 _ _ _ _ A2 e3 _ ?_
            intro p us H3 G3 g3 A3 n
            exact q p us H3 G3 ⟨(g1'.trans g2').trans g3, A3.gh, fun b o e n => A3.fr b o e n, A3.gn⟩ n.at_ n.rp n.g n.h0
          · cases e
        · cases e
      · cases e
    · cases e
/-- the law: it draws from a spool that it makes of the script -/
def spLaw (K : PySem.W.Frag) : Sp := fun vs H Q _ => ∃ (a : Addr) (ns : List Int), vs = [.ref a] ∧ SqL K H a (ns.map V.int) ∧ ns.length ≤ 63 ∧ ∀ H', Q (.bl true) H'
theorem fn_law {x qual : Str} {params : Arguments} {body rest : List Stmt} {scope : Scope} {dvs : List V} {kws : List (Str × V)} {f : Addr} {fd : FuncData} {N : List Str} {k : Nat} {g : SF} {e : Expr} {pos p1 : Pos} {y : Str} (sf : List Int → Option (List Int)) (F : FunD K x qual params body scope dvs kws f fd) (Sc : FnScope N ["script"] scope) (hbd : body = .Assign [.Name y p1] e pos :: rest)
    (h1 : ∀ (C : Cn) (cdv : Value) (A : Around) (outer : List Env) (s : Shared) (H : Hp) (E : XK), Rm k (A.deeper (envOfC qual scope s.heap.objs.size f cdv)) →
      PS (cxOf CX0 P w K mg base N qual scope f cdv A outer s H E).nox (.Assign [.Name y p1] e pos) (tAsg (tCall (spN K fun ds => match ds with
        | [.scr ns] => (sf ns).map fun nums => [.lst (nums.map .int), .int 0, .int 0, .int 0]
        | _ => none) [] E0 (tCons (tVar 0) tNil)) (gName 1)))
    (h2 : ∀ (C : Cn) (cdv : Value) (A : Around) (outer : List Env) (s : Shared) (H : Hp) (E : XK), Rm k (A.deeper (envOfC qual scope s.heap.objs.size f cdv)) → FSs (cxOf CX0 P w K mg base N qual scope f cdv A outer s H E).nox C rest g)
    (hN : 2 ≤ N.length)
    (hm : ∀ ns : List Int, ns.length ≤ 63 → ∃ nums s', sf ns = some nums ∧ g ⟨some (.dat (.scr ns)) :: some .spl :: List.replicate (N.length - 2) none, ⟨nums, 0, 0, 0⟩⟩ = some (.rt (.bl true) s')) :
    FnG P w K mg base CX0 (k + 1) f fd ["script"] (spLaw K) := by
  refine okG F Sc (fun vs H Q E h => ?_) (fun cdv A outer s H vs Q E hr hsp => ?_)
  · obtain ⟨a, ns, rfl, _⟩ := h
    rfl
  · obtain ⟨a, ns, rfl, hS, hl, q⟩ := hsp
    obtain ⟨nums, s', e1, e2⟩ := hm ns hl
    rw [hbd]
    have P1 := h1 ⟨H, H, none, noW⟩ cdv A outer s H E hr
    have P2 : PSs (cxOf CX0 P w K mg base N qual scope f cdv A outer s H E).nox rest (fun D σ H1 => ∃ C t, PSs (cxOf CX0 P w K mg base N qual scope f cdv A outer s H E).nox rest t ∧ EvS K C t g ∧ t D σ H1) := by
      refine ⟨fun pins s1 σ H1 D I z => ?_⟩
      obtain ⟨C, t, p, _, z⟩ := z
      exact p.run pins s1 σ H1 D I z
    refine ⟨_, (pss_cons P1 P2).nox, ?_⟩
    obtain ⟨n, hn⟩ : ∃ n, N.length = n + 2 := ⟨N.length - 2, by omega⟩
    have es : L2.start N [.ref a] = some (.ref a) :: none :: List.replicate n none := by
      unfold L2.start
      rw [hn]
      show some (V.ref a) :: List.replicate (n + 2 - 1) none = _
      rw [show n + 2 - 1 = n + 1 by omega, List.replicate_succ]
    rw [es]
    rw [hn, show n + 2 - 2 = n by omega] at e2
    refine ⟨.ref a, rfl, ?_⟩
    refine ⟨H, [.scr ns], [.lst (nums.map .int), .int 0, .int 0, .int 0], Same.refl _, RpL.one ⟨a, rfl, hS⟩, (by show (sf ns).map _ = _; rw [e1]; rfl), fun p us H' G' F' hp rp gp hp0 => ?_⟩
    obtain ⟨t, pt, qt⟩ := h2 ⟨G', H', some p, noW⟩ cdv A outer s H E hr
    refine ⟨⟨G', H', some p, noW⟩, t, pt, qt, ?_⟩
    obtain ⟨v0, r0, rfl, h0, rp1⟩ := rp
    obtain ⟨v1, r1, rfl, h1', rp2⟩ := rp1
    obtain ⟨v2, r2, rfl, h2', rp3⟩ := rp2
    obtain ⟨v3, r3, rfl, h3', rp4⟩ := rp3
    obtain ⟨nb, us0, rfl, h3, h4⟩ := h0
    have e1' : v1 = .int 0 := h1'
    have e2' : v2 = .int 0 := h2'
    have e3' : v3 = .int 0 := h3'
    have e4' : r3 = [] := rp4
    subst e1' e2' e3' e4'
    refine qt G' H' _ _ (s := ⟨some (.dat (.scr ns)) :: some .spl :: List.replicate n none, ⟨nums, 0, 0, 0⟩⟩) ⟨F'.gh, fun b o e n => e, Same.refl _, fun b _ => rfl, ?_, ?_, ?_, ?_⟩ e2 _ ?_
    · simp
    · intro i v x q1 q2
      match i with
      | 0 =>
        cases q1
        cases q2
        exact ⟨_, rfl, a, rfl, F'.g.seq hS⟩
      | 1 =>
        cases q1
        cases q2
        exact ⟨p, rfl, rfl⟩
      | i + 2 =>
        have q3 : (List.replicate n (none : Option SV))[i]? = some x := by simpa using q2
        rw [List.getElem?_replicate] at q3
        split at q3
        · cases q3
          trivial
        · cases q3
    · intro i j b ds fs _ q1
      exfalso
      match i with
      | 0 => cases q1
      | 1 => cases q1
      | i + 2 =>
        have q3 : (List.replicate n (none : Option SV))[i]? = some (some (.own ds)) := by simpa using q1
        rw [List.getElem?_replicate] at q3
        split at q3 <;> cases q3
    · exact ⟨gp, nb, hp, ⟨nb, us0, rfl, h3, h4⟩⟩
    · intro v σ' H2 G2 g2 A2 rv
      have ev : v = .bl true := rv
      subst ev
      exact q H2
end
end FD

set_option maxRecDepth 100000
namespace FD
open PySem PySem.Spec PyProof.Rows L2
/-! ## the head's facts, and one more Bool over the written part -/
abbrev AlX : Type := He.AlD × Bool
def fragX (n : Nat) (g : Addr → Option Obj) : PySem.W.Frag := He.frG g (cStatics :: He.asD g n)
def obsX (n : Nat) (fa : List He.Fa) (fn : List He.DefD) (ex : PySem.W.Frag → Bool) (g : Addr → Option Obj) : AlX := (He.obsD fa fn (fragX n g), ex (fragX n g))
def hookX (n : Nat) (fa : List He.Fa) (fn : List He.DefD) (ex : PySem.W.Frag → Bool) : PySem.W.Hook where
  α := AlX
  obs := fun s => obsX n fa fn ex s.heap.get?
  val := fun _ => (He.valD fn, true)
  says := fun _ h => ∃ K : PySem.W.Frag, K.In h ∧ He.SaysD fa fn K ∧ ex K = true
  of := fun _ _ e => ⟨_, He.frG_in, congrArg (fun z : AlX => z.1) e, congrArg (fun z : AlX => z.2) e⟩
  keeps := fun _ _ _ ⟨K, hK, c⟩ k => ⟨K, PySem.W.Frag.In.keeps hK k, c⟩
def obT (n : Nat) (fa : List He.Fa) (fn : List He.DefD) (ex : PySem.W.Frag → Bool) (s : PySem.W.SharedT) : AlX := obsX n fa fn ex (HandSHeadRun.getT s)
theorem obT_eq (n : Nat) (fa : List He.Fa) (fn : List He.DefD) (ex : PySem.W.Frag → Bool) (s : PySem.W.SharedT) : obT n fa fn ex s = (hookX n fa fn ex).obs s.abs := by
  have e : HandSHeadRun.getT s = s.abs.heap.get? := funext (HandSHeadRun.getT_eq s)
  show obsX n fa fn ex (HandSHeadRun.getT s) = obsX n fa fn ex s.abs.heap.get?
  rw [e]
/-- a global that stands for a built-in of a module -/
def bltB (x : Str) (id : String) (K : PySem.W.Frag) : Bool := decide (PySem.W.nsIn K mainGlobals x = some (some (.builtin id)))
theorem blt_ok {K : PySem.W.Frag} {h : Heap} {mg : Str → Option Value} (X : K.In h) (G : h.Ns mainGlobals mg) {x : Str} {id : String} (c : bltB x id K = true) : mg x = some (.builtin id) := PySem.W.mg_of X G (of_decide_eq_true c)
theorem def_ok {P : Program} {w : World} {K : PySem.W.Frag} {mg : Str → Option Value} {base : Heap} {k : Nat} {x : Str} {st : Stmt} {f : Addr} {fd : FuncData} {ps : List Str} {sp : Sp} (F : L2.FunD K x x (defArgs st) (defBody st) (defScope st) [] [] f fd)
    (g : mg x = some (.ref f)) (ok : FnG P w K mg base CX0 k f fd ps sp)
    (h : ∀ (kV doc pm : Value) (an : Option Addr) (cdv ct : Value) (us : List Value), us.length = ps.length → bindArgs (PySem.W.fnOf x x (defArgs st) (defBody st) (defScope st) .none kV doc pm an cdv ct) ⟨us, []⟩ = pure (ps.zip us)) :
    DefOk P w K mg base k x ps sp := ⟨f, fd, ok, g, F.kp, L2.FunD.bindsN F h⟩
end FD

set_option maxRecDepth 100000
namespace FD
open PySem PySem.Spec PyProof.Rows L2
/-! ## repr of data -/
def okShow (d : PyData) : Bool := d.showable && !d.hasDict && decide (d.depth ≤ 64) && decide (d.shown.length ≤ sizeLine)
def dRepr : List DV → Option DV
  | [d] => match toPy d with
    | some x => if okShow x then some (.str x.shown) else none
    | none => none
  | _ => none
def rRepr (K : PySem.W.Frag) : List V → Hp → VK → Prop := fun vs H Q => ∃ v d, vs = [v] ∧ Dp K H v d ∧ okShow d = true ∧ Q (.str d.shown) H
theorem okShow_parts {d : PyData} (h : okShow d = true) : d.showable = true ∧ d.hasDict = false ∧ d.depth ≤ 64 ∧ d.shown.length ≤ sizeLine := by
  unfold okShow at h
  simp only [Bool.and_eq_true, Bool.not_eq_true', decide_eq_true_eq] at h
  exact ⟨h.1.1.1, h.1.1.2, h.1.2, h.2⟩
section
variable {X : Cx} {C : Cn} {e : Expr} {p pos : Pos} {fa : AF}
theorem call_reprD (hg : X.A.guards = some []) (hu : X.A.units + 66 < cLine) : CallR X (.builtin "repr") (rRepr X.K) := by
  intro pins s σ H xs us Q I r h
  obtain ⟨v, d, rfl, hd, hs, q⟩ := h
  obtain ⟨u, rfl, ru⟩ := vals1 r
  obtain ⟨s1, s2, s3, s4⟩ := okShow_parts hs
  obtain ⟨as, rd⟩ := Dp.reads I d v u hd ru
  have big : ∀ a : Addr, u = .ref a → wpAny (model X.prog X.w) X.A (call (.builtin "repr") [u]) (EP X pins σ Q) X.xe s := by
    intro a ea
    subst ea
    exact repr_of_reads' rd s1 (PyData.noDict_hsm s2) hg (by omega) (fun _ _ z => z) (fun h' t tk hk => ⟨.str d.shown, H, I.kept hk, ⟨t, rfl⟩, q⟩) s4
  cases hd with
  | non =>
    cases ru
    exact PySem.P.repr_of_none ⟨.str _, H, I.tok _, ⟨_, rfl⟩, q⟩
  | bl b =>
    cases ru
    exact PySem.P.repr_of_bool ⟨.str _, H, I.tok _, ⟨_, by cases b <;> rfl⟩, q⟩
  | int i =>
    obtain ⟨t, rfl⟩ := ru
    exact PySem.P.repr_of_int (of_decide_eq_true s1) ⟨.str _, H, I.tok _, ⟨_, rfl⟩, q⟩
  | str x =>
    obtain ⟨t, rfl⟩ := ru
    exact PySem.P.repr_of_str ⟨.str _, H, I.tok _, ⟨_, rfl⟩, q⟩ s4
  | lst h1 h2 =>
    cases ru
    exact big _ rfl
  | tup h1 h2 =>
    cases ru
    exact big _ rfl
theorem o_repr : OpA X.K (rRepr X.K) dRepr := by
  intro C G H σ s vs ds d A r ho Q q
  unfold dRepr at ho
  split at ho
  · rename_i d0
    split at ho
    · rename_i x hx
      split at ho
      · rename_i hs
        cases ho
        obtain ⟨v, rfl, rv⟩ := r.single
        exact ⟨v, x, rfl, Rp.dp A.gh d0 v x rv hx, hs, q _ H G (Fw.refl A.gh) rfl⟩
      · cases ho
    · cases ho
  · cases ho
theorem fe_repr {k : Nat} (hr : Rm k X.A) (hm : X.mg "repr" = none) (ha : FA X C [e] fa) (hg : Gl X "repr" := by rfl) (he : starEach [e] X.env = (false, eval e X.env) :: starEach [] X.env := by rfl) : FE X C (.Call (.Name "repr" p) [e] [] pos) (eA fa dRepr) :=
  fe_callB (call_reprD hr.gd (by have := hr.rm.un; omega)) o_repr hm (by decide +kernel) ha hg (he := he)
end
end FD

set_option maxRecDepth 100000
set_option maxHeartbeats 4000000
namespace FD
open PySem PySem.Spec PyProof.Rows L2
/-! ## an exception that was caught, kept as a value -/
theorem exK_ok {P : Program} {w : World} {H : Hp} {h : Heap} {a : Addr} {cls : Value} {d : Option Addr} {oe : Obj} {vs : Array Value} (e : h.get? a = some oe) (z : Zc cls d oe) (hd : oe.data = .fields vs) : ObjOk P w H h a (ExK cls d a) :=
  ⟨⟨oe, vs, e, z, hd⟩, ⟨oe, e⟩, fun _ _ z k => let ⟨o, v, q, r⟩ := z; ⟨o, v, k o q, r⟩⟩
section
variable {X : Cx} {pins : List (Addr × Obj)} {σ : St} {H : Hp} {s : Shared}
/-- from now on the object at a is known as such -/
theorem Inv.known (I : Inv X pins σ H s) {a : Addr} {cls : Value} {d : Option Addr} {oe : Obj} {vs : Array Value} (ga : s.heap.get? a = some oe) (za : Zc cls d oe) (da : oe.data = .fields vs) (na : H a = none) (new : ∀ o, X.s_0.heap.get? a ≠ some o) (neL : a ≠ X.env.locals) (nop : ∀ p ∈ X.pn ++ pins, p.1 ≠ a) :
    Inv X pins σ (upd H a (ExK cls d a)) s := by
  have other : ∀ {b : Addr} {o : HO}, H b = some o → b ≠ a := fun q => ne_of_none q na
  have cell : ∀ x c, X.env.cells.lookup x = some c → c ≠ a := fun x c e z => by
    obtain ⟨v, o, q1, q2⟩ := I.cell x c e
    rw [z, ga] at q1
    cases q1
    rw [da] at q2
    cases q2
  exact {
    ok := I.ok, os := I.os, bare := I.bare, loc := I.loc, cell := I.cell, len := I.len
    base := {
      keep := I.base.keep, slot := I.base.slot, there := I.base.there
      free := fun b o q n hx => by
        have ne : b ≠ a := fun z => new o (by rw [← z]; exact q)
        rw [upd_ne ne]
        exact I.base.free b o q n hx
      tups := fun b xs q => by rw [upd_ne (other (I.base.tups b xs q))]; exact I.base.tups b xs q
      frzs := fun b o u q => by rw [upd_ne (other (I.base.frzs b o u q))]; exact I.base.frzs b o u q
      tbls := fun b ps q => by
        obtain ⟨more, e⟩ := I.base.tbls b ps q
        exact ⟨more, by rw [upd_ne (other e)]; exact e⟩ }
    free := by rw [upd_ne neL.symm]; exact I.free
    freeC := fun x c e => by rw [upd_ne (cell x c e)]; exact I.freeC x c e
    pin := fun p hp => by
      obtain ⟨e1, e2, e3⟩ := I.pin p hp
      exact ⟨e1, by rw [upd_ne (nop p hp)]; exact e2, e3⟩
    hok := HOk.laidN I.hok (fun _ _ q => q) na (exK_ok ga za da) }
end
/-- the wish of a clause that always catches, and whose suite goes on behind itself -/
def wKeep (K : PySem.W.Frag) (c : Value) (i : Nat) (ts : Addr → Value → Option Addr → TS) (D : Ends) : WX := fun cls d σ H =>
  PySem.W.exmOne K cls c = some true ∧ ∀ a, H a = none →
    ts a cls d { nx := fun σ1 H1 => H1 a = none → D.nx (σ1.set i none) (upd H1 a (ExK cls d a)), rt := fun _ _ => False, bk := fun _ _ => False, ct := fun _ _ => False } (σ.set i (some (.ref a))) H
section
variable {X : Cx} {x n : Str} {c : Value} {i : Nat} {body suite : List Stmt} {st : Stmt} {np pos pos2 : Pos} {tb : WX → TS} {ts : Addr → Value → Option Addr → TS}
theorem ps_try_keep (hex : X.ex = []) (hs : X.stack = X.env :: X.outer) (hf : X.env.frame = some X.env.locals) (hN : X.N.Nodup) (hi : X.N[i]? = some n) (hln : X.env.kindOf n = some .local) (hc : Names X x c)
    (hb : ∀ (W : WX) (pn : List (Addr × Obj)) (xe : Value → Shared → Prop), Takes (X.tr pn xe) W → PassesOwn (model X.prog X.w) X.A X.env xe → PSs (X.tr pn xe) body (tb W))
    (hsu : ∀ (a : Addr) (oe : Obj) (cls : Value) (d : Option Addr) (pn : List (Addr × Obj)), PSs (X.suite a ((a, oe) :: pn)) (st :: suite) (ts a cls d)) :
    PS X (.Try body [.ExceptHandler (some (.Name x np)) (some n) (st :: suite) pos2] [] [] pos) (fun D σ H => tb (wKeep X.K c i ts D) D σ H) where
  run := by
    intro pins s σ H D I want
    let hdl : List ExceptHandler := [.ExceptHandler (some (.Name x np)) (some n) (st :: suite) pos2]
    have frames : X.A.frames = some (X.env :: X.outer) := hs ▸ I.ok.frames
    -- what is done with an exception
    let onX : Value → Shared → Prop := fun e t => wpAny (model X.prog X.w) X.A (noteFrame e X.env) (fun _ t2 => wpAny (model X.prog X.w) X.A (setFlight e none) (fun _ t3 => wpAny (model X.prog X.w) X.A (handleBy e X.env hdl) (SP X pins D) X.xe t3) X.xe t2) X.xe t
    have catches : Takes (X.tr (X.pn ++ pins) onX) (wKeep X.K c i ts D) := by
      rintro u t ⟨a, B, sI, pl, σ1, H1, cls, d, rfl, I1, nbk, upp, sk, noA, oss, bare, hm, go⟩
      have J : Inv X pins σ1 H1 sI := I1.ofTry I.ok
      -- the address is a new one, and no frame's
      have fresh : ∀ {b : Addr} {o : Obj}, B.get? a = none → sI.heap.get? b = some o → b ∉ frs X.stack → b ≠ a := fun e q k z => by
        rw [z] at q k
        rw [nbk a _ q k] at e
        cases e
      have Sk : Sky B (X.env :: X.outer) a (Zc cls d) X.env.locals t.heap := hs ▸ sk
      refine Sky.land Zc.steady frames hf Sk fun hp fy uq => ?_
      have Ja : Inv X pins σ1 H1 { t with heap := hp } := J.landed nbk fy.1 (upp.trans uq) oss bare
      obtain ⟨oa, va, ga, za, da⟩ := fy.there
      have nofr : a ∉ frs X.stack := fun z => by
        rw [hs] at z
        obtain ⟨_, o, e1, e2⟩ := fy.2.2.1.mem z
        rw [show hp.get? a = some oa from ga] at e1
        cases e1
        exact e2 _ da
      have inFrs : ∀ b, b = X.env.locals ∨ b ∈ X.fs → b ∈ frs X.stack := fun b hb => by
        rw [hs]
        rcases hb with rfl | hb
        · exact List.mem_filterMap.mpr ⟨X.env, List.mem_cons_self, hf⟩
        · obtain ⟨z, hz, q⟩ := List.mem_filterMap.mp hb
          exact List.mem_filterMap.mpr ⟨z, List.mem_cons_of_mem _ hz, q⟩
      have neL : a ≠ X.env.locals := fun z => nofr (inFrs a (.inl z))
      have neF : a ∉ X.fs := fun z => nofr (inFrs a (.inr z))
      have Sa := Ja.suite ga da noA neL neF
      refine wpAny_handleBy_cons (codeAny_handlers_test ?_) (fun q => nomatch q)
      have look : wpAny (model X.prog X.w) (X.A.mark (some (.ref a))) (eval (.Name x np) X.env) (fun v t2 => v = c ∧ t2 = { t with heap := hp }) (fun _ _ => False) { t with heap := hp } := by
        obtain ⟨hg, hdbg, hm2 | ⟨hm2, hv, hnn⟩⟩ := hc
        · exact ld_glob (X := X.suite a ((a, oa) :: (X.pn ++ pins))) Sa hg hm2 ⟨rfl, rfl⟩ hdbg
        · exact ld_blt (X := X.suite a ((a, oa) :: (X.pn ++ pins))) Sa hg hm2 hv ⟨rfl, rfl⟩ hnn hdbg
      refine wpAny_mono look ?_ (fun _ _ z => False.elim z)
      rintro _ _ ⟨rfl, rfl⟩
      refine (PySem.W.exm_one (M := model X.prog X.w) Ja.kIn (fun A Q E s k q => wpAny_typeOf_ref (k _ _ ga) (by rw [za.1]; exact q)) hm).here ?_
      refine codeAny_handlers_suite_as (HandSPX.lands_againZ fy fun hq gy vq => ?_)
      have Jb : Inv X pins σ1 H1 { t with heap := hq } := J.landed nbk gy.1 ((upp.trans uq).trans vq) oss bare
      obtain ⟨ob, vb, gb, zb, db⟩ := gy.there
      have Sb := Jb.suite gb db noA neL neF
      refine store_ok (X := X.suite a ((a, ob) :: (X.pn ++ pins))) (v := .ref a) Sb hN hi (.inl hln) rfl (fun t4 S4 => ?_) (.inr hln)
      refine wpAny_mono ((hsu a ob cls d (X.pn ++ pins)).run [] t4 _ H1 _ S4 (go a noA)) (fun f t5 z => ?_) (fun _ _ z => False.elim z)
      match f, z with
      | .brk, ⟨_, _, _, q⟩ => exact False.elim q
      | .cont, ⟨_, _, _, q⟩ => exact False.elim q
      | .ret _, ⟨_, _, _, _, _, q⟩ => exact False.elim q
      | .next, ⟨σ5, H5, S5, q⟩ =>
        obtain ⟨g5, n5, _, _, _⟩ := S5.pin (a, ob) (List.mem_append_left _ List.mem_cons_self)
        have J5 : Inv X pins σ5 H5 t5 := S5.unsuite I.ok
        have new : ∀ o, X.s_0.heap.get? a ≠ some o := fun o e1 => by
          obtain ⟨o2, e2⟩ := J.base.there a o e1 (by rw [hex]; simp)
          exact fresh gy.2.1 e2 nofr rfl
        have K5 := Inv.known J5 (cls := cls) (d := d) g5 zb db n5 new neL fun p hp2 => by
          obtain ⟨e1, _, e3, e4, _⟩ := J.pin p hp2
          exact fresh gy.2.1 e1 fun z => (J.stkSub p.1 z |> List.mem_cons.mp).elim e3 e4
        exact gone_ok K5 hN hi hln fun t6 J6 => ⟨_, _, J6, q n5⟩
    refine wpAny_Try_except (wpAny_mono ((hb _ (X.pn ++ pins) onX catches PassesOwn.looking).run [] s σ H D (I.toTry _) want) (fun f t z => ?_) fun _ _ z => z)
    match f, z with
    | .next, ⟨σ1, H1, J, q⟩ => exact wpAny_execs_nil ⟨σ1, H1, J.ofTry I.ok, q⟩
    | .brk, ⟨σ1, H1, J, q⟩ => exact ⟨σ1, H1, J.ofTry I.ok, q⟩
    | .cont, ⟨σ1, H1, J, q⟩ => exact ⟨σ1, H1, J.ofTry I.ok, q⟩
    | .ret _, ⟨v, σ1, H1, J, r, q⟩ => exact ⟨v, σ1, H1, J.ofTry I.ok, r, q⟩
end
end FD

set_option maxRecDepth 100000
set_option maxHeartbeats 4000000
namespace FD
open PySem PySem.Spec PyProof.Rows L2
/-! ## defs that may raise -/
inductive Rz where
  | ok (d : DV) | er (c : Str)
def spR (K : PySem.W.Frag) (f : List DV → Option Rz) : Sp := fun vs H Q E => ∃ G ds z, Same G H ∧ RpL K G vs ds ∧ f ds = some z ∧ match z with
  | .ok d => ∀ v H' G', Fw G H G' H' none → Rp K G' v d → Q v H'
  | .er c => ∀ H' G', Fw G H G' H' none → E (.ref (He.ga K c)) none H'
def bodyR (n m : Nat) (g : SF) : List DV → Option Rz := fun ds =>
  if ds.length = n then match g ⟨ds.map (fun d => some (.dat d)) ++ List.replicate (m - n) none, spl0⟩ with
    | some (.rt d _) => some (.ok d)
    | some (.nx _) => some (.ok .non)
    | some (.er c _) => some (.er c)
    | _ => none
  else none
section
variable {P : Program} {w : World} {K : PySem.W.Frag} {mg : Str → Option Value} {base : Heap}
theorem fn_raise {x qual : Str} {params : Arguments} {body : List Stmt} {scope : Scope} {dvs : List V} {kws : List (Str × V)} {f : Addr} {fd : FuncData} {N ps : List Str} {k : Nat} {g : SF} (F : FunD K x qual params body scope dvs kws f fd) (Sc : FnScope N ps scope)
    (h : ∀ (C : Cn) (cdv : Value) (A : Around) (outer : List Env) (s : Shared) (H : Hp) (E : XK), C.sp = none → Takes (cxOf (L2.CX P w) P w K mg base N qual scope f cdv A outer s H E) C.W → Rm k (A.deeper (envOfC qual scope s.heap.objs.size f cdv)) → FSs (cxOf (L2.CX P w) P w K mg base N qual scope f cdv A outer s H E) C body g) :
    FnG P w K mg base (L2.CX P w) (k + 1) f fd ps (spR K (bodyR ps.length N.length g)) := by
  refine okG F Sc (fun vs H Q E h => ?_) (fun cdv A outer s H vs Q E hr hsp => ?_)
  · obtain ⟨G, ds, z, _, r, e, _⟩ := h
    unfold bodyR at e
    split at e
    · rename_i hl
      rw [r.length, hl]
    · cases e
  · obtain ⟨G, ds, z, g0, r, e, q⟩ := hsp
    unfold bodyR at e
    split at e
    · rename_i hl
      obtain ⟨t, p1, q1⟩ := h ⟨G, H, none, fun cls d _ H' => E cls d H'⟩ cdv A outer s H E rfl (takes_of rfl rfl rfl rfl) hr
      have A0 := ab_start (K := K) (W := fun cls d _ H' => E cls d H') g0 r (N.length - ps.length) spl0
      have es : L2.start N vs = vs.map some ++ List.replicate (N.length - ps.length) none := by
        unfold L2.start
        rw [r.length, hl]
      refine ⟨t, p1, ?_⟩
      rw [es]
      split at e
      · rename_i d' s' e1
        cases e
        refine q1 G H _ _ _ A0 e1 _ ?_
        exact fun v σ' H' G' g1 A1 rv => q v H' G' ⟨g1, A1.gh, fun b o e n => A1.fr b o e n, A1.gn⟩ rv
      · rename_i s' e1
        cases e
        refine q1 G H _ _ _ A0 e1 _ ?_
        exact fun σ' H' G' g1 A1 => q .non H' G' ⟨g1, A1.gh, fun b o e n => A1.fr b o e n, A1.gn⟩ rfl
      · rename_i c s' e1
        cases e
        refine q1 G H _ _ _ A0 e1 _ ?_
        exact fun σ' H' G' g1 A1 => q H' G' ⟨g1, A1.gh, fun b o e n => A1.fr b o e n, A1.gn⟩
      · cases e
    · cases e
end
/-! ## a call that may raise -/
inductive Ez where
  | ok (d : DV) (s : S) | er (c : Str) (s : S)
abbrev XF := S → Option Ez
def EvX (K : PySem.W.Frag) (C : Cn) (te : TE) (f : XF) : Prop := ∀ G H σ s z, Ab K C G H σ s → f s = some z → ∀ Q : VK, (match z with
  | .ok d s' => ∀ v H' G', Same G G' → Ab K C G' H' σ s' → Rp K G' v d → Q v H'
  | .er c s' => ∀ H' G', Same G G' → Ab K C G' H' σ s' → C.W (.ref (He.ga K c)) none σ H') →
  (match z with
  | .ok _ _ => True
  | .er _ _ => True) → te σ H Q
def FX (X : Cx) (C : Cn) (e : Expr) (f : XF) : Prop := ∃ te, PE X e te ∧ EvX X.K C te f
def eX (ff : AF) (op : List DV → Option Rz) : XF := fun s => match ff s with
  | some (ds, s1) => match op ds with
    | some (.ok d) => some (.ok d s1)
    | some (.er c) => some (.er c s1)
    | none => none
  | none => none
def DefR (P : Program) (w : World) (K : PySem.W.Frag) (mg : Str → Option Value) (base : Heap) (k : Nat) (x : Str) (ps : List Str) (sp : Sp) : Prop :=
  ∃ f fd, FnG P w K mg base (L2.CX P w) k f fd ps sp ∧ mg x = some (.ref f) ∧ PySem.W.keepIn K (.ref f) = true ∧ Binds K fd ps []
section
variable {X : Cx} {C : Cn} {k j : Nat} {f : Addr} {fd : FuncData} {ps : List Str} {sp : Sp} {x : Str} {p pos : Pos} {e : Expr} {es : List Expr} {t : TA} {op : List DV → Option Rz} {ff : AF} {i : Nat}
theorem pe_callGS {E : St → XK} (F : FnG X.prog X.w X.K X.mg X.base (L2.CX X.prog X.w) k f fd ps sp) (hr : Rm k X.A) (hg : Gl X x) (hm : X.mg x = some (.ref f)) (hk : PySem.W.keepIn X.K (.ref f) = true) (hb : Binds X.K fd ps []) (hx : ∀ σ, PassesAt (L2.CX X.prog X.w) X σ (E σ))
    (ha : PA X (e :: es) t) (hdb : (x == ("__debug__" : Str)) = false := by decide) (he : starEach (e :: es) X.env = (false, eval e X.env) :: starEach es X.env := by rfl) (hpl : (backTo pos (starEach es X.env)).any (·.1) = false := by rfl) : PE X (.Call (.Name x p) (e :: es) [] pos) (tCallS sp E t) where
  run := by
    intro pins s σ H Q I h
    refine wpAny_Call_Name_kw (ld_glob I hg hm (PySem.W.callWith_K (h₀ := X.base) I.ok.mod.kin hk ?_ he hpl) hdb)
    refine thn (ha.run pos pins s σ H _ I h) ?_
    rintro us s1 ⟨vs, H1, I1, rv, want⟩
    refine ⟨I1.kIn, ?_⟩
    have hl : us.length = ps.length := by rw [← rv.length]; exact F.len _ _ _ _ want
    have b := hb s1 us I1.kIn (by rw [List.append_nil]; exact hl)
    rw [List.append_nil] at b
    refine wpAny_call (codeAny_mono (F.run X.A X.stack s1 H1 ⟨us, []⟩ us vs Q (E σ) hr I1.env0 b rv want) fun r s' hq => ?_)
    match r, hq with
    | .error e, hq => exact hx σ pins H1 s1 e s' I1 hq
    | .ok (.ret u), hq => exact I1.after hq
    | .ok .next, hq => exact False.elim hq
    | .ok .brk, hq => exact False.elim hq
    | .ok .cont, hq => exact False.elim hq
theorem fx_def (D : DefR X.prog X.w X.K X.mg X.base j x ps (spR X.K op)) (tk : Takes X C.W) (hr : Rm k X.A) (hj : j ≤ k) (ha : FA X C (e :: es) ff) (hg : Gl X x := by rfl) (hdb : (x == ("__debug__" : Str)) = false := by decide) (he : starEach (e :: es) X.env = (false, eval e X.env) :: starEach es X.env := by rfl)
    (hpl : (backTo pos (starEach es X.env)).any (·.1) = false := by rfl) : FX X C (.Call (.Name x p) (e :: es) [] pos) (eX ff op) := by
  obtain ⟨fa, fd, F, hm, hk, hb⟩ := D
  obtain ⟨ta, p1, q1⟩ := ha
  refine ⟨_, pe_callGS (F.mono hj) hr hg hm hk hb (fun σ => passAt tk σ) p1 hdb he hpl, ?_⟩
  intro G H σ s z A e1 Q k _
  unfold eX at e1
  split at e1
  · rename_i ds s1 e2
    refine q1 G H σ s ds s1 A e2 _ fun vs H1 G1 g1 A1 r => ?_
    split at e1
    · rename_i d e3
      cases e1
      exact ⟨G1, ds, .ok d, A1.gh, r, e3, fun v H2 G2 F2 rv => k v H2 G2 (g1.trans F2.g) (A1.fw0 F2) rv⟩
    · rename_i c e3
      cases e1
      exact ⟨G1, ds, .er c, A1.gh, r, e3, fun H2 G2 F2 => k H2 G2 (g1.trans F2.g) (A1.fw0 F2)⟩
    · cases e1
  · cases e1
def sRtX (f : XF) : SF := fun s => match f s with
  | some (.ok d s1) => some (.rt d s1)
  | some (.er c s1) => some (.er c s1)
  | none => none
theorem fs_retX {f : XF} (h : FX X C e f) : FS X C (.Return (some e) pos) (sRtX f) := by
  obtain ⟨te, p1, q1⟩ := h
  refine ⟨_, ps_ret p1, ?_⟩
  intro G H σ s o A e1 D k
  unfold sRtX at e1
  split at e1
  · rename_i d s1 e2
    cases e1
    exact q1 G H σ s _ A e2 _ (fun v H1 G1 g1 A1 r => k v σ H1 G1 g1 A1 r) trivial
  · rename_i c s1 e2
    cases e1
    exact q1 G H σ s _ A e2 _ (fun H1 G1 g1 A1 => k σ H1 G1 g1 A1) trivial
  · cases e1
def sAsgX (f : XF) (i : Nat) : SF := fun s => match f s with
  | some (.ok d s1) => some (.nx { s1 with sl := s1.sl.set i (some (.dat d)) })
  | some (.er c s1) => some (.er c s1)
  | none => none
theorem fs_setX (i : Nat) {f : XF} {x : Str} {pos' : Pos} (h : FX X C e f) (hN : X.N.Nodup) (hi : X.N[i]? = some x := by rfl) (hx : Loc X.env.scope x := by first | exact Or.inl rfl | exact Or.inr rfl) (hs : swapsWith e (some (.Name x pos')) pos.line X.env = pure false := by rfl) (hf : X.fn x = true ∨ X.env.scope.names.lookup x = some .local := by first | exact .inl rfl | exact .inr rfl | assumption) :
    FS X C (.Assign [.Name x pos'] e pos) (sAsgX f i) := by
  obtain ⟨te, p1, q1⟩ := h
  refine ⟨_, ps_set hN hi hx p1 hs hf, ?_⟩
  intro G H σ s o A e1 D k
  unfold sAsgX at e1
  split at e1
  · rename_i d s1 e2
    cases e1
    exact q1 G H σ s _ A e2 _ (fun v H1 G1 g1 A1 r => k _ H1 G1 g1 (A1.set_dat r)) trivial
  · rename_i c s1 e2
    cases e1
    exact q1 G H σ s _ A e2 _ (fun H1 G1 g1 A1 => k σ H1 G1 g1 A1) trivial
  · cases e1
/-! ## raise X(e) -/
structure RzF (X : Cx) (x : Str) : Prop where
  gl : X.mg x = some (.ref (He.ga X.K x))
  ok : (He.Fa.exc x).ok X.K = true
def sRs (x : Str) (f : EF) : SF := fun s => match f s with
  | some (_, s1) => some (.er x s1)
  | none => none
theorem fs_raise {f : EF} {pos3 : Pos} (hc : X.calm = true) (R : RzF X x) (tk : Takes X C.W) (he : FE X C e f) (hg : Gl X x := by rfl) (hs : starEach [e] X.env = (false, eval e X.env) :: starEach [] X.env := by rfl) (hdb : (x == ("__debug__" : Str)) = false := by decide) :
    FS X C (.Raise (some (.Call (.Name x p) [e] [] pos)) none pos3) (sRs x f) := by
  obtain ⟨te, p1, q1⟩ := he
  obtain ⟨c1, c2, c3, c4⟩ := He.exc_ok R.ok
  refine ⟨_, ps_raise hc tk (SkE.pmk_own1 PySem.F.excBase_ValueError c1 R.gl c2 (raises_own c3 c4) hg p1 hs hdb), ?_⟩
  intro G H σ s o A e1 D k
  unfold sRs at e1
  split at e1
  · rename_i d s1 e2
    cases e1
    exact q1 G H σ s d s1 A e2 _ fun v H1 G1 g1 A1 r => k σ H1 G1 g1 A1
  · cases e1
end
/-! ## try: body, except x as n: y = n -/
def tbU (K : PySem.W.Frag) (g : SF) : WX → TS := fun W D σ H => ∃ C G s o, Ab K C G H σ s ∧ C.W = W ∧ g s = some o ∧ Kont K C G D o
theorem Ab.toW {K : PySem.W.Frag} {C : Cn} {G H : Hp} {σ : List (Option V)} {s : S} (A : Ab K C G H σ s) (W : Value → Option Addr → St → Hp → Prop) : Ab K { C with W := W } G H σ s := ⟨A.gh, A.fr, A.g0, A.gn, A.len, A.sl, A.dis, A.spk⟩
theorem Ab.ofW {K : PySem.W.Frag} {C : Cn} {G H : Hp} {σ : List (Option V)} {s : S} {W : Value → Option Addr → St → Hp → Prop} (A : Ab K { C with W := W } G H σ s) : Ab K C G H σ s := ⟨A.gh, A.fr, A.g0, A.gn, A.len, A.sl, A.dis, A.spk⟩
def sTry (kinds : List Str) (i j : Nat) (g : SF) : SF := fun s => match g s with
  | some (.er c s1) => if c ∈ kinds ∧ i < s1.sl.length then some (.nx { s1 with sl := (s1.sl.set j (some (.dat (.exc c)))).set i none }) else none
  | o => o
section
variable {X : Cx} {C : Cn} {x n y : Str} {body : List Stmt} {np pos pos2 pn pa py : Pos} {g : SF} {kinds : List Str}
theorem fs_try (i j : Nat) (hex : X.ex = []) (hs : X.stack = X.env :: X.outer) (hf : X.env.frame = some X.env.locals) (hN : X.N.Nodup) (hc : Names X x (.ref (He.ga X.K x))) (hk : ∀ c ∈ kinds, (He.Fa.exm c x true).ok X.K = true)
    (hb : ∀ (C' : Cn) (pn : List (Addr × Obj)) (xe : Value → Shared → Prop), Takes (X.tr pn xe) C'.W → PassesOwn (model X.prog X.w) X.A X.env xe → FSs (X.tr pn xe) C' body g)
    (hi : X.N[i]? = some n := by rfl) (hj : X.N[j]? = some y := by rfl) (hij : i ≠ j := by decide) (hln : X.env.kindOf n = some .local := by rfl) (hly : X.env.scope.names.lookup y = some .local := by rfl) (hv : Vis X.env.scope n := by first | exact Or.inl rfl | exact Or.inr (Or.inl rfl) | exact Or.inr (Or.inr rfl))
    (hd : (n == ("__debug__" : Str)) = false := by decide) (hcd : (n == ("__classdict__" : Str)) = false := by decide) (hsw : swapsWith (.Name n pn) (some (.Name y py)) pa.line X.env = pure false := by rfl) :
    FS X C (.Try body [.ExceptHandler (some (.Name x np)) (some n) [.Assign [.Name y py] (.Name n pn) pa] pos2] [] [] pos) (sTry kinds i j g) := by
  have body_ : ∀ (W : WX) (pl : List (Addr × Obj)) (xe : Value → Shared → Prop), Takes (X.tr pl xe) W → PassesOwn (model X.prog X.w) X.A X.env xe → PSs (X.tr pl xe) body (tbU X.K g W) := by
    intro W pl xe tk po
    refine ⟨fun pins s σ H D I z => ?_⟩
    obtain ⟨C', G, st, o, A, rfl, e, k⟩ := z
    obtain ⟨ts, p, q⟩ := hb C' pl xe tk po
    exact p.run pins s σ H D I (q G H σ st o A e D k)
  refine ⟨_, ps_try_keep (ts := fun _ _ _ => tAsg (tVar i) (gName j)) hex hs hf hN hi hln hc body_ (fun a oe cls d pl => pss_one (ps_set (X := X.suite a ((a, oe) :: pl)) hN hj (.inl hly) (pe_var hi hv hd hcd) hsw (.inr hly))), ?_⟩
  intro G H σ s o A e1 D k
  unfold sTry at e1
  have wk : ∀ c ∈ kinds, ∀ s1 : S, i < s1.sl.length → Kont X.K C G D (.nx { s1 with sl := (s1.sl.set j (some (.dat (.exc c)))).set i none }) →
      Kont X.K { C with W := wKeep X.K (.ref (He.ga X.K x)) i (fun _ _ _ => tAsg (tVar i) (gName j)) D } G D (.er c s1) := by
    intro c hcm s1 hlt k1 σ' H' G' g' A'
    refine ⟨He.exm_ok (hk c hcm), fun a na => ?_⟩
    refine ⟨.ref a, List.getElem?_set_self (by rw [A'.len]; exact hlt), fun na1 => ?_⟩
    have F := Fw.add (o := ExK (.ref (He.ga X.K c)) none a) A'.gh na
    have A2 := ((A'.ofW.fw0 F).set_dat (i := j) (v := .ref a) (d := .exc c) ⟨a, rfl, upd_same⟩).set_none i
    have e : ((σ'.set i (some (V.ref a))).set j (some (.ref a))).set i none = (σ'.set j (some (.ref a))).set i none := by
      rw [List.set_comm _ _ hij, List.set_set]
    show D.nx (((σ'.set i (some (V.ref a))).set j (some (.ref a))).set i none) _
    rw [e]
    exact k1 _ _ _ (g'.trans F.g) A2
  split at e1
  · rename_i c s1 e2
    split at e1
    · rename_i hcm
      cases e1
      exact ⟨{ C with W := wKeep X.K (.ref (He.ga X.K x)) i (fun _ _ _ => tAsg (tVar i) (gName j)) D }, G, s, _, A.toW _, rfl, e2, wk c hcm.1 s1 hcm.2 k⟩
    · cases e1
  · rename_i o' ne
    refine ⟨{ C with W := wKeep X.K (.ref (He.ga X.K x)) i (fun _ _ _ => tAsg (tVar i) (gName j)) D }, G, s, o, A.toW _, rfl, e1, ?_⟩
    match o, e1, k with
    | .nx s1, _, k => exact fun σ' H' G' g' A' => k σ' H' G' g' A'.ofW
    | .bk s1, _, k => exact fun σ' H' G' g' A' => k σ' H' G' g' A'.ofW
    | .ct s1, _, k => exact fun σ' H' G' g' A' => k σ' H' G' g' A'.ofW
    | .rt d s1, _, k => exact fun v σ' H' G' g' A' r => k v σ' H' G' g' A'.ofW r
    | .er c s1, e, _ => exact absurd e (ne c s1)
end
end FD
namespace FD
open PySem PySem.Spec PyProof.Rows L2
section
variable {P : Program} {w : World} {K : PySem.W.Frag} {mg : Str → Option Value} {base : Heap}
theorem FnG.toR {k : Nat} {f : Addr} {fd : FuncData} {ps : List Str} {f1 f2 : List DV → Option Rz} (F : FnG P w K mg base (L2.CX P w) k f fd ps (spR K f1)) (h : ∀ ds d, f2 ds = some d → f1 ds = some d) : FnG P w K mg base (L2.CX P w) k f fd ps (spR K f2) :=
  F.imp fun vs H Q E ⟨G, ds, z, g, r, e, q⟩ => ⟨G, ds, z, g, r, h ds z e, q⟩
theorem defR_ok {k : Nat} {x : Str} {st : Stmt} {f : Addr} {fd : FuncData} {ps : List Str} {sp : Sp} (F : L2.FunD K x x (defArgs st) (defBody st) (defScope st) [] [] f fd) (g : mg x = some (.ref f)) (ok : FnG P w K mg base (L2.CX P w) k f fd ps sp)
    (h : ∀ (kV doc pm : Value) (an : Option Addr) (cdv ct : Value) (us : List Value), us.length = ps.length → bindArgs (PySem.W.fnOf x x (defArgs st) (defBody st) (defScope st) .none kV doc pm an cdv ct) ⟨us, []⟩ = pure (ps.zip us)) : DefR P w K mg base k x ps sp :=
  ⟨f, fd, ok, g, F.kp, L2.FunD.bindsN F h⟩
end
end FD

set_option maxRecDepth 100000
set_option maxHeartbeats 4000000
namespace FD
open PySem PySem.Spec PyProof.Rows L2
/-! ## isinstance of a kept exception -/
def rIsK (K : PySem.W.Frag) : List V → Hp → VK → Prop := fun xs H Q => ∃ (a D : Addr) (c : V) (cv : Value) (b : Bool), xs = [.ref a, c] ∧ H a = some (ExK (.ref D) none a) ∧ ExcC K D ∧ (∀ u, RelV c u → u = cv) ∧ PySem.W.kitOne K (.ref D) cv = some b ∧ Q (.bl b) H
section
variable {X : Cx} {C : Cn} {e : Expr} {f : EF} {x : Str} {p pos pc : Pos}
theorem call_isK : CallR X (.builtin "isinstance") (rIsK X.K) := by
  intro pins s σ H xs us Q I r h
  obtain ⟨a, D, c, cv, b, rfl, ha, E, hc, hk, q⟩ := h
  match us, r with
  | [_, u], .cons rx (.cons rc .nil) =>
    cases rx
    obtain rfl := hc u rc
    obtain ⟨⟨oe, vs, g, ⟨z1, z2⟩, dt⟩, _⟩ := (show ObjOk X.prog X.w H s.heap a (ExK (.ref D) none a) from I.hok a _ ha)
    have J : PySem.W.InstAt s.heap a oe D none := by
      obtain ⟨oc, od, oda, osl⟩ := oe
      dsimp only at z1 z2 dt
      subst z1 z2 dt
      exact ⟨g, rfl, rfl, trivial⟩
    exact PySem.W.kia_one (PySem.W.handS_kitx_exc E.hg E.hk E.hs E.hd E.ha E.hn E.ht E.hm) I.kIn J hk (fun z => nomatch z) fun tk => ⟨.bl b, H, I.kept (t' := tk) fun _ _ z => z, rfl, q⟩
/-- of which classes an exception is -/
def dIsC (tab : List (Str × Bool)) : EF → EF := fun f s => match f s with
  | some (.exc c, s1) => match tab.lookup c with
    | some b => some (.bl b, s1)
    | none => none
  | _ => none
/-- as facts of the written part -/
def excB (c : Str) (K : PySem.W.Frag) : Bool :=
  decide (PySem.W.findIn K (.ref (He.ga K c)) "__getattribute__" = some (some (.builtin "BaseException.__getattribute__"))) && (decide (PySem.W.findIn K (.ref (He.ga K c)) "__getattr__" = some none) && (decide (PySem.W.subIn K (.ref (He.ga K c)) (.type "BaseException") = some true) && (PySem.W.hasDictIn K (He.ga K c) &&
  (decide (PySem.W.findIn K (.ref (He.ga K c)) "__class__" = some (some (.builtin "object.__class__"))) && (decide (PySem.W.specialIn K (.builtin "object.__class__") "__get__" = some (some (.builtin "getset_descriptor.__get__"))) && (decide (PySem.W.takesIn K (.builtin "object.__class__") = some true) && decide (PySem.W.mroIn K (He.ga K c) (.type "object") = some true)))))))
theorem excB_ok {c : Str} {K : PySem.W.Frag} (h : excB c K = true) : ExcC K (He.ga K c) := by
  unfold excB at h
  simp only [Bool.and_eq_true, decide_eq_true_eq] at h
  obtain ⟨h1, h2, h3, h4, h5, h6, h7, h8⟩ := h
  exact ⟨h1, h2, h3, h4, h5, h6, h7, h8⟩
def isaB (c x : Str) (b : Bool) (K : PySem.W.Frag) : Bool := decide (PySem.W.kitOne K (.ref (He.ga K c)) (.ref (He.ga K x)) = some b)
def isaT (c : Str) (T : String) (b : Bool) (K : PySem.W.Frag) : Bool := decide (PySem.W.kitOne K (.ref (He.ga K c)) (.type T) = some b)
theorem ev_isC {te : TE} {c : V} {cv : Value} {tab : List (Str × Bool)} (q1 : EvE X.K C te f) (hc : ∀ u, RelV c u → u = cv) (he : ∀ k ∈ tab, excB k.1 X.K = true ∧ PySem.W.kitOne X.K (.ref (He.ga X.K k.1)) cv = some k.2) : EvE X.K C (tCB (rIsK X.K) (tCons te (tCons (tC c) tNil))) (dIsC tab f) := by
  intro G H σ s d s' A e1 Q k
  unfold dIsC at e1
  split at e1
  · rename_i c0 s1 e2
    split at e1
    · rename_i b e3
      cases e1
      refine q1 G H σ s _ _ A e2 _ fun v H1 G1 g1 A1 r => ?_
      obtain ⟨a, rfl, ha⟩ := r
      have hm : (c0, b) ∈ tab := by
        clear he e2
        induction tab with
        | nil => cases e3
        | cons t ts ih =>
          rw [List.lookup_cons] at e3
          split at e3
          · rename_i hb
            cases e3
            rw [beq_iff_eq.mp hb]
            exact List.mem_cons_self
          · exact List.mem_cons_of_mem _ (ih e3)
      obtain ⟨h1, h2⟩ := he _ hm
      exact ⟨a, _, c, cv, b, rfl, A1.gh _ _ ha, excB_ok h1, hc, h2, k _ H1 G1 g1 A1 rfl⟩
    · cases e1
  · cases e1
theorem fe_isC {tab : List (Str × Bool)} (hm : X.mg "isinstance" = none) (gl : X.mg x = some (.ref (He.ga X.K x))) (ht : ∀ k ∈ tab, excB k.1 X.K = true ∧ isaB k.1 x k.2 X.K = true) (h : FE X C e f) (hg : Gl X "isinstance" := by rfl) (hx : Gl X x := by rfl) (hd : (x == ("__debug__" : Str)) = false := by decide)
    (hs : starEach [e, .Name x pc] X.env = (false, eval e X.env) :: starEach [.Name x pc] X.env := by rfl) (hs2 : starEach [.Name x pc] X.env = (false, eval (.Name x pc) X.env) :: starEach [] X.env := by rfl) (hpl : (backTo pos (starEach [.Name x pc] X.env)).any (·.1) = false := by rfl) :
    FE X C (.Call (.Name "isinstance" p) [e, .Name x pc] [] pos) (dIsC tab f) := by
  obtain ⟨te, p1, q1⟩ := h
  refine ⟨_, pe_callB call_isK hg hm (by decide +kernel) (pa_cons p1 (pa_cons (pe_glob (v := .ref (He.ga X.K x)) hx gl rfl hd) pa_nil hs2) hs) (he := hs) (hpl := hpl), ?_⟩
  exact ev_isC q1 (fun u ru => ru) fun k hk => ⟨(ht k hk).1, of_decide_eq_true (ht k hk).2⟩
theorem fe_isT {T : String} {tab : List (Str × Bool)} (hm : X.mg "isinstance" = none) (gl : X.mg x = none) (hb : bootBuiltins x = some (.type T)) (ht : ∀ k ∈ tab, excB k.1 X.K = true ∧ isaT k.1 T k.2 X.K = true) (h : FE X C e f) (hg : Gl X "isinstance" := by rfl) (hx : Gl X x := by rfl) (hd : (x == ("__debug__" : Str)) = false := by decide)
    (hn : x ≠ "__name__" := by decide) (hs : starEach [e, .Name x pc] X.env = (false, eval e X.env) :: starEach [.Name x pc] X.env := by rfl) (hs2 : starEach [.Name x pc] X.env = (false, eval (.Name x pc) X.env) :: starEach [] X.env := by rfl) (hpl : (backTo pos (starEach [.Name x pc] X.env)).any (·.1) = false := by rfl) :
    FE X C (.Call (.Name "isinstance" p) [e, .Name x pc] [] pos) (dIsC tab f) := by
  obtain ⟨te, p1, q1⟩ := h
  refine ⟨_, pe_callB call_isK hg hm (by decide +kernel) (pa_cons p1 (pa_cons (pe_bltn (v := .ty T) hx gl hb rfl hn hd) pa_nil hs2) hs) (he := hs) (hpl := hpl), ?_⟩
  exact ev_isC q1 (fun u ru => ru) fun k hk => ⟨(ht k hk).1, of_decide_eq_true (ht k hk).2⟩
end
end FD

set_option maxRecDepth 100000
set_option maxHeartbeats 4000000
namespace FD
open PySem PySem.Spec PyProof.Rows L2
/-! ## repr of data whose ints are long -/
mutual
def okW : PyData → Bool
  | .int i => decide (i.natAbs.log2 < 12900)
  | .list xs | .tuple xs => okWs xs
  | .dict _ => false
  | _ => true
def okWs : List PyData → Bool
  | [] => true
  | x :: xs => okW x && okWs xs
end
section
variable {prog : Program} {w : World} {A : Around} {E : Value → Shared → Prop} {s : Shared} {h0 : Heap}
theorem lt_pow {i : Int} (h : i.natAbs.log2 < 12900) : i.natAbs < 10 ^ 4300 := Nat.lt_of_lt_of_le (lt_of_log2 h) pow_lo
theorem repr_intW {i : Int} {t : Tok} {Q : Value → Shared → Prop} (hn : s.heap.NoDigits) (h : i.natAbs.log2 < 12900) (q : Q (.str (toString i) s.toks) { s with toks := s.toks + 1 }) : wpAny (model prog w) A (call (.builtin "int.__repr__") [.int i t]) Q E s := by
  refine wpAny_call (codeAny_call_builtin F.slot_int_repr.plain F.entry_int_repr (F.slot_int_repr.check _ _ _ _ _ _ _ _ (typeIs_int s i t) (F.args_int_repr_1 _) ?_))
  unfold Builtin.«int.__repr__»
  show wpAny _ _ (do let r ← Builtin.overDigitLimit? i; _) _ _ s
  refine wpAny_bind (overDigitLimit_any hn (fun hlt => wpAny_bind (wpAny_mkStr (wpAny_pure q) (int_text_fits10 hlt))) fun hge => ?_)
  exact absurd (lt_pow h) (Nat.not_lt.mpr hge)
theorem reprK_intW {i : Int} {t : Tok} (hn : h0.NoDigits) (h : i.natAbs.log2 < 12900) : ReprK prog w [] h0 0 (.int i t) (toString i) := by
  intro base hb A g E s Q _ _ hu hk q
  rw [pyReprUnder_leaf (v := .int i t) (by omega) (fun _ z => nomatch z)]
  unfold pyRepr
  refine wpAny_bind (wpAny_pyReprObj_slot (by omega) (typeIs_int s i t) F.slot_int_repr.toG (repr_intW (hn.keeps hk) h ⟨_, _, rfl, ?_⟩))
  exact wpAny_pure (q s.heap _ fun _ _ z => z)
mutual
theorem rkW (hn : h0.NoDigits) : ∀ {v : Value} {d : PyData} {as : List Addr}, Reads h0 v d as → okW d = true → d.shown.length ≤ sizeLine → ∃ bs, ReadAtMost h0 d.depth bs ∧ ReprK prog w bs h0 d.depth v d.shown
  | _, _, _, .none, _, _ => ⟨[], (fun _ h => nomatch h), .of_is ReprIs.none _ _ _⟩
  | _, _, _, .bool b, _, _ => ⟨[], (fun _ h => nomatch h), .of_is (ReprIs.bool b) _ _ _⟩
  | _, _, _, .int i t, hs, _ => ⟨[], (fun _ h => nomatch h), reprK_intW hn (by simpa [okW] using hs)⟩
  | _, _, _, .str x t, _, hz => ⟨[], (fun _ h => nomatch h), .of_is (ReprIs.str x t hz) _ _ _⟩
  | _, _, _, .dict _ _ _ _ _, hs, _ => by simp [okW] at hs
  | _, _, _, .tuple (xs := xs) h1 h2 h3 h4, hs, hz => by
    obtain ⟨bs, hb, hk⟩ := rksW hn h4 (by simpa [okW] using hs) fun t ht => Nat.le_trans (tupleText_mem_le ht) hz
    have r := Reads.tuple h1 h2 h3 h4
    have deeper : PyData.depthAll xs < (PyData.tuple xs).depth := Nat.lt_succ_self _
    exact ⟨_, ReadAtMost.cons r (Nat.le_of_lt deeper) hb, ReprK.tuple h1 h2 h3 (not_mem_of_deeper r deeper hb) hk⟩
  | _, _, _, .list (vs := vs) (xs := xs) h1 h2 h3 h4, hs, hz => by
    obtain ⟨bs, hb, hk⟩ := rksW hn h4 (by simpa [okW] using hs) fun t ht => Nat.le_trans (listText_mem_le ht) hz
    have r := Reads.list h1 h2 h3 h4
    have deeper : PyData.depthAll xs < (PyData.list xs).depth := Nat.lt_succ_self _
    refine ⟨_, ReadAtMost.cons r (Nat.le_of_lt deeper) hb, ?_⟩
    obtain ⟨l⟩ := vs
    match l, xs, h3, h4, hk with
    | [], _, h3, .nil, _ => exact ReprK.listEmpty h1 h2 h3
    | x :: l, xs, h3, h4, hk => exact ReprK.list h1 h2 h3 (not_mem_of_deeper r deeper hb) (by simpa using hk.length_eq) fun i y z => hk.item i y (by simpa using z)
theorem rksW (hn : h0.NoDigits) : ∀ {vs : List Value} {ds : List PyData} {as : List Addr}, ReadsAll h0 vs ds as → okWs ds = true → (∀ t ∈ PyData.shownAll ds, t.length ≤ sizeLine) → ∃ bs, ReadAtMost h0 (PyData.depthAll ds) bs ∧ ReprAllK prog w bs h0 (PyData.depthAll ds) vs (PyData.shownAll ds)
  | _, _, _, .nil, _, _ => ⟨[], (fun _ h => nomatch h), .nil⟩
  | _, _, _, .cons (d := d) (ds := ds) r rs, hs, hz => by
    have hs2 : okW d = true ∧ okWs ds = true := by simpa [okWs] using hs
    obtain ⟨b1, m1, k1⟩ := rkW hn r hs2.1 (hz _ List.mem_cons_self)
    obtain ⟨b2, m2, k2⟩ := rksW hn rs hs2.2 fun t ht => hz t (List.mem_cons_of_mem _ ht)
    have l1 : d.depth ≤ PyData.depthAll (d :: ds) := Nat.le_max_left _ _
    have l2 : PyData.depthAll ds ≤ PyData.depthAll (d :: ds) := Nat.le_max_right _ _
    exact ⟨b1 ++ b2, (m1.mono l1).append (m2.mono l2), .cons ((k1.more fun b hb => List.mem_append_left _ hb).level_le l1) (k2.more_le (fun b hb => List.mem_append_right _ hb) l2)⟩
end
theorem repr_W (hn : h0.NoDigits) {a : Addr} {d : PyData} {as : List Addr} {Q : Value → Shared → Prop} (r : Reads h0 (.ref a) d as) (hs : okW d = true) (hg : A.guards = some []) (hu : A.units + (d.depth + 1) < cLine) (hk0 : ∀ b o, h0.get? b = some o → s.heap.get? b = some o)
    (q : ∀ h' u tk, (∀ b o, s.heap.get? b = some o → h'.get? b = some o) → Q (.str d.shown u) { s with heap := h', toks := tk }) (hz : d.shown.length ≤ sizeLine) : wpAny (model prog w) A (call (.builtin "repr") [.ref a]) Q E s := by
  have units : A.in1.units + d.depth < cLine := by show A.units + 1 + d.depth < cLine; omega
  have q2 : ∀ h' u tk, (∀ b o, s.heap.get? b = some o → h'.get? b = some o) → ∃ x t, Value.str d.shown u = .str x t ∧ Q (.str d.shown u) { s with heap := h', toks := tk } := fun h' u tk hk => ⟨_, _, rfl, q h' u tk hk⟩
  cases r with
  | dict _ _ _ _ _ => simp [okW] at hs
  | tuple h1 h2 h3 h4 =>
    rename_i o vs n xs
    obtain ⟨bs, hb, hk⟩ := rksW (prog := prog) (w := w) hn h4 (by simpa [okW] using hs) fun t ht => Nat.le_trans (tupleText_mem_le ht) hz
    exact call_repr_slot (by omega) ⟨o, hk0 _ _ h1, h2⟩ F.slot_tuple_repr (call_tuple_reprK h1 h2 h3 (not_mem_of_deeper (.tuple h1 h2 h3 h4) (Nat.lt_succ_self _) hb) hk hg (fun b _ => Clear.nil b) units hk0 q2 hz)
  | list h1 h2 h3 h4 =>
    rename_i o vs n xs bs0
    obtain ⟨bs, hb, hk⟩ := rksW (prog := prog) (w := w) hn h4 (by simpa [okW] using hs) fun t ht => Nat.le_trans (listText_mem_le ht) hz
    have hna := not_mem_of_deeper (.list h1 h2 h3 h4) (Nat.lt_succ_self (PyData.depthAll xs)) hb
    obtain ⟨l⟩ := vs
    cases l with
    | nil =>
      cases (show ReadsAll h0 [] xs _ from h4)
      exact call_repr_slot (by omega) ⟨o, hk0 _ _ h1, h2⟩ F.slot_list_repr.toG (call_list_repr_empty ⟨o, hk0 _ _ h1, h2⟩ (hk0 _ _ h1) h3 (q2 s.heap _ _ fun _ _ z => z))
    | cons x l => exact call_repr_slot (by omega) ⟨o, hk0 _ _ h1, h2⟩ F.slot_list_repr.toG (call_list_reprK h1 h2 h3 hna (by simpa using hk.length_eq) (fun i y z => hk.item i y (by simpa using z)) hg (fun b _ => Clear.nil b) units hk0 q2 hz)
end
end FD

set_option maxRecDepth 100000
set_option maxHeartbeats 4000000
namespace FD
open PySem PySem.Spec PyProof.Rows L2
def digB (K : PySem.W.Frag) : Bool := decide (PySem.W.nsIn K cStatics "sys.int_max_str_digits" = some none)
def okShowW (d : PyData) : Bool := okW d && (decide (d.depth ≤ 64) && decide (d.shown.length ≤ sizeLine))
def dReprW : List DV → Option DV
  | [d] => match toPy d with
    | some x => if okShowW x then some (.str x.shown) else none
    | none => none
  | _ => none
def rReprW (K : PySem.W.Frag) : List V → Hp → VK → Prop := fun vs H Q => ∃ v d, vs = [v] ∧ Dp K H v d ∧ okShowW d = true ∧ Q (.str d.shown) H
section
variable {X : Cx} {C : Cn} {e : Expr} {p pos : Pos} {fa : AF}
theorem Inv.digits {pins : List (Addr × Obj)} {σ : St} {H : Hp} {s : Shared} (I : Inv X pins σ H s) (h : digB X.K = true) : s.heap.NoDigits := by
  obtain ⟨mc, h1, _⟩ := I.nolimit
  exact ⟨mc, h1, PySem.W.ns_none_of I.kIn h1 (of_decide_eq_true h)⟩
theorem call_reprW (hg : X.A.guards = some []) (hu : X.A.units + 66 < cLine) (hd : digB X.K = true) : CallR X (.builtin "repr") (rReprW X.K) := by
  intro pins s σ H xs us Q I r h
  obtain ⟨v, d, rfl, hv, hs, q⟩ := h
  obtain ⟨u, rfl, ru⟩ := vals1 r
  unfold okShowW at hs
  simp only [Bool.and_eq_true, decide_eq_true_eq] at hs
  obtain ⟨s1, s3, s4⟩ := hs
  obtain ⟨as, rd⟩ := Dp.reads I d v u hv ru
  have nd := Inv.digits I hd
  have big : ∀ a : Addr, u = .ref a → wpAny (model X.prog X.w) X.A (call (.builtin "repr") [u]) (EP X pins σ Q) X.xe s := by
    intro a ea
    subst ea
    exact repr_W nd rd s1 hg (by omega) (fun _ _ z => z) (fun h' t tk hk => ⟨.str d.shown, H, I.kept hk, ⟨t, rfl⟩, q⟩) s4
  cases hv with
  | non =>
    cases ru
    exact PySem.P.repr_of_none ⟨.str _, H, I.tok _, ⟨_, rfl⟩, q⟩
  | bl b =>
    cases ru
    exact PySem.P.repr_of_bool ⟨.str _, H, I.tok _, ⟨_, by cases b <;> rfl⟩, q⟩
  | int i =>
    obtain ⟨t, rfl⟩ := ru
    have s2 : i.natAbs.log2 < 12900 := by simpa [okW] using s1
    exact call_repr_slot (by omega) (typeIs_int s i t) F.slot_int_repr.toG (repr_intW nd s2 ⟨_, _, rfl, ⟨.str _, H, I.tok _, ⟨_, rfl⟩, q⟩⟩)
  | str x =>
    obtain ⟨t, rfl⟩ := ru
    exact PySem.P.repr_of_str ⟨.str _, H, I.tok _, ⟨_, rfl⟩, q⟩ s4
  | lst h1 h2 =>
    cases ru
    exact big _ rfl
  | tup h1 h2 =>
    cases ru
    exact big _ rfl
theorem o_reprW : OpA X.K (rReprW X.K) dReprW := by
  intro C G H σ s vs ds d A r ho Q q
  unfold dReprW at ho
  split at ho
  · rename_i d0
    split at ho
    · rename_i x hx
      split at ho
      · rename_i hs
        cases ho
        obtain ⟨v, rfl, rv⟩ := r.single
        exact ⟨v, x, rfl, Rp.dp A.gh d0 v x rv hx, hs, q _ H G (Fw.refl A.gh) rfl⟩
      · cases ho
    · cases ho
  · cases ho
theorem fe_reprW {k : Nat} (hr : Rm k X.A) (hm : X.mg "repr" = none) (hd : digB X.K = true) (ha : FA X C [e] fa) (hg : Gl X "repr" := by rfl) (he : starEach [e] X.env = (false, eval e X.env) :: starEach [] X.env := by rfl) : FE X C (.Call (.Name "repr" p) [e] [] pos) (eA fa dReprW) :=
  fe_callB (call_reprW hr.gd (by have := hr.rm.un; omega) hd) o_reprW hm (by decide +kernel) ha hg (he := he)
end
end FD

set_option maxRecDepth 100000
set_option maxHeartbeats 4000000
namespace FD
open PySem PySem.Spec PyProof.Rows L2
/-! ## f-strings of texts and ints -/
def dFmt : DV → Option DV
  | .str y => if y.length ≤ sizeLine then some (.str y) else none
  | .int i => if i.natAbs.log2 < 1920 then some (.str (toString i)) else none
  | _ => none
def eJn : List EF → Str → S → Option (Str × S)
  | [], acc, s => some (acc, s)
  | f :: fs, acc, s => match f s with
    | some (.str y, s1) => if (acc ++ y).length ≤ sizeLine then eJn fs (acc ++ y) s1 else none
    | _ => none
def eJs (fs : List EF) : EF := fun s => match eJn fs Str.empty s with
  | some (x, s1) => some (.str x, s1)
  | none => none
section
variable {X : Cx} {C : Cn} {e v1 v2 : Expr} {es rest : List Expr} {pos : Pos} {f : EF} {fs : List EF}
theorem fe_fmt (h : FE X C e f) : FE X C (.FormattedValue e (-1) none pos) (e1 f dFmt) := by
  obtain ⟨te, p, q⟩ := h
  refine ⟨_, pe_fmt p, ?_⟩
  intro G H σ s d s' A e1' Q k
  unfold FD.e1 at e1'
  split at e1'
  · rename_i d0 s1 e2
    refine q G H σ s d0 s1 A e2 _ fun v H1 G1 g1 A1 r => ?_
    split at e1'
    · rename_i z e3
      cases e1'
      unfold dFmt at e3
      split at e3
      · rename_i y
        split at e3
        · rename_i hy
          cases e3
          exact .inl ⟨y, r, hy, k _ H1 G1 g1 A1 rfl⟩
        · cases e3
      · rename_i i
        split at e3
        · rename_i hi
          cases e3
          exact .inr ⟨i, r, hi, k _ H1 G1 g1 A1 rfl⟩
        · cases e3
      · cases e3
    · cases e1'
  · cases e1'
def FJ (X : Cx) (C : Cn) (es : List Expr) (fs : List EF) : Prop := ∃ ts, PJ X es ts ∧ Paired (EvE X.K C) ts fs
theorem ev_js {K : PySem.W.Frag} : ∀ {ts : List TE} {fs : List EF}, Paired (EvE K C) ts fs → ∀ (acc : Str) (G H : Hp) (σ : List (Option V)) (s : S) (x : Str) (s' : S), Ab K C G H σ s → eJn fs acc s = some (x, s') → ∀ Q : Str → Hp → Prop, (∀ H' G', Same G G' → Ab K C G' H' σ s' → Q x H') → tJs ts acc σ H Q
  | _, _, .nil, acc, G, H, σ, s, x, s', A, e, Q, k => by
    cases e
    exact k H G (Same.refl _) A
  | _, _, .cons q1 q2, acc, G, H, σ, s, x, s', A, e, Q, k => by
    unfold eJn at e
    split at e
    · rename_i y s1 e2
      split at e
      · rename_i hl
        refine q1 G H σ s _ s1 A e2 _ fun v H1 G1 g1 A1 r => ?_
        exact ⟨y, r, hl, ev_js q2 (acc ++ y) G1 H1 σ s1 x s' A1 e Q fun H2 G2 g2 A2 => k H2 G2 (g1.trans g2) A2⟩
      · cases e
    · cases e
theorem fj_nil : FJ X C [] [] := ⟨[], .nil, .nil⟩
theorem fj_cons (h : FE X C e f) (t : FJ X C es fs) : FJ X C (e :: es) (f :: fs) := by
  obtain ⟨te, p, q⟩ := h
  obtain ⟨ts, p2, q2⟩ := t
  exact ⟨te :: ts, .cons p p2, .cons q q2⟩
theorem fe_js (h : FJ X C (v1 :: v2 :: rest) fs) : FE X C (.JoinedStr (v1 :: v2 :: rest) pos) (eJs fs) := by
  obtain ⟨ts, p, q⟩ := h
  refine ⟨_, pe_joined p, ?_⟩
  intro G H σ s d s' A e1 Q k
  unfold eJs at e1
  split at e1
  · rename_i x s1 e2
    cases e1
    exact ev_js q _ G H σ s _ _ A e2 _ fun H1 G1 g1 A1 => k _ H1 G1 g1 A1 rfl
  · cases e1
theorem fe_js1 (h : FE X C e f) : FE X C (.JoinedStr [e] pos) f := let ⟨_, p, q⟩ := h; ⟨_, pe_joined1 p, q⟩
end
end FD

set_option maxRecDepth 100000
set_option maxHeartbeats 4000000
namespace FD
open PySem PySem.Spec PyProof.Rows L2
/-! ## count and index of a bool in a list of bools -/
def bools : List DV → Option (List Bool)
  | [] => some []
  | .bl b :: ds => (bools ds).map (b :: ·)
  | _ => none
def dBcount : DV → Option DV
  | .lst ds => (bools ds).map fun bs => .int (bs.count true : Nat)
  | _ => none
def dBindex : DV → Option DV
  | .lst ds => match bools ds with
    | some bs => if true ∈ bs then some (.int (bs.idxOf true : Nat)) else none
    | none => none
  | _ => none
theorem bools_rp {K : PySem.W.Frag} {G : Hp} : ∀ {ds : List DV} {bs : List Bool} {vs : List V}, bools ds = some bs → RpL K G vs ds → vs = bs.map V.bl
  | [], bs, vs, e, r => by
    cases e
    exact r
  | .bl b :: ds, bs, vs, e, r => by
    obtain ⟨v, rest, rfl, h1, h2⟩ := r
    unfold bools at e
    obtain ⟨bs', e1, rfl⟩ := Option.map_eq_some_iff.mp e
    rw [bools_rp e1 h2, show v = V.bl b from h1]
    rfl
  | .non :: _, _, _, e, _ | .int _ :: _, _, _, e, _ | .str _ :: _, _, _, e, _ | .tup _ :: _, _, _, e, _ | .lst _ :: _, _, _, e, _ | .scr _ :: _, _, _, e, _ | .raw _ :: _, _, _, e, _ | .exc _ :: _, _, _, e, _ => by cases e
theorem vals_bools : ∀ {bs : List Bool} {us : List Value}, Vals (bs.map V.bl) us → us = bs.map Value.bool
  | [], _, .nil => rfl
  | b :: bs, _, .cons r rs => by rw [show _ = Value.bool b from r, vals_bools rs]; rfl
section
variable {X : Cx} {C : Cn} {e : Expr} {f : EF} {apos cpos : Pos} {j : Nat} {p2 : Pos}
def rCntB (K : PySem.W.Frag) : V → List V → Hp → VK → Prop := fun x xs H Q => ∃ (p : Addr) (bs : List Bool) (k : Bool), x = .ref p ∧ xs = [.bl k] ∧ SqL K H p (bs.map V.bl) ∧ Q (.int (bs.count k : Nat)) H
theorem mt_countB : MtR X "list.count" (rCntB X.K) := by
  intro pins s σ H x xs v us Q I rx rxs h
  obtain ⟨p, bs, k, rfl, rfl, hs, q⟩ := h
  cases rx
  obtain ⟨u, rfl, ru⟩ := rxs.one
  obtain rfl : u = Value.bool k := ru
  obtain ⟨its, rv, ⟨⟨cls, dd, data, sl⟩, n, ho, hc, hdn, hd⟩, hlen⟩ := I.list hs
  simp only at hc hd
  subst hc hd
  obtain rfl := vals_bools rv
  refine call_meets PySem.F.slot_list_count ⟨_, ho, rfl⟩ PySem.F.entry_list_count (PySem.F.args_list_count_2 _ _) (SeqAt.list_countAt p (bs.map Value.bool).toArray n dd sl (.bool k) (isBoolOf k)) ⟨ho, fun y hy => ?_, ?_⟩
  · obtain ⟨b, _, rfl⟩ := List.mem_map.mp (show y ∈ bs.map Value.bool by simpa using hy)
    exact SeqAt.EqAt.bool_bool b k
  · have ec : (bs.map Value.bool).toArray.toList.countP (isBoolOf k) = bs.count k := by
      show (bs.map Value.bool).countP (isBoolOf k) = _
      rw [List.countP_map]
      rfl
    refine ⟨.int (bs.count k : Nat), H, I.tok _, ⟨s.toks, ?_⟩, q⟩
    show Value.int (((bs.map Value.bool).toArray.toList.countP (isBoolOf k) : Nat) : Int) s.toks = Value.int ((bs.count k : Nat) : Int) s.toks
    rw [ec]
theorem fe_bcount {k : Nat} (hr : Rm k X.A) (h : FE X C e f) (hbase : attributeBase e "count" X.env (eval e X.env) = eval e X.env := by rfl)
    (hfew : ((backTo cpos (starEach [.Constant (.bool true) j p2] X.env)).all (fun z => !z.1) && (backToKw cpos (keywordEach [] X.env)).all (fun z => z.1.isSome) && decide (([Expr.Constant (.bool true) j p2]).length + ([] : List Keyword).length + (if ([] : List Keyword).isEmpty then 0 else 1) < 30)) = true := by rfl)
    (hline : (apos.endLine == cpos.line) = true := by rfl) (hs : starEach [.Constant (.bool true) j p2] X.env = (false, eval (.Constant (.bool true) j p2) X.env) :: starEach [] X.env := by rfl) (hplain : (backTo cpos (starEach [] X.env)).any (·.1) = false := by rfl) :
    FE X C (.Call (.Attribute e "count" apos) [.Constant (.bool true) j p2] [] cpos) (e1 f dBcount) := by
  obtain ⟨te, p, q⟩ := h
  refine ⟨_, pe_bm PySem.F.plainAttrs_list PySem.F.slot_list_count PySem.F.type_list_count mt_countB p (pa_cons pe_bl pa_nil hs) hbase hfew hline hs hplain, ?_⟩
  intro G H σ s d s' A e1' Q k
  unfold FD.e1 at e1'
  split at e1'
  · rename_i d0 s1 e2
    refine q G H σ s d0 s1 A e2 _ fun v H1 G1 g1 A1 r => ?_
    split at e1'
    · rename_i z e3
      cases e1'
      unfold dBcount at e3
      split at e3
      · rename_i ds
        obtain ⟨bs, e4, rfl⟩ := Option.map_eq_some_iff.mp e3
        obtain ⟨a, vs, rfl, r1, r2⟩ := r
        have ev := bools_rp e4 r2
        subst ev
        have sq := SqL.of (K := X.K) (A1.gh _ _ r1)
        exact ⟨.inl ⟨rfl, _, sq⟩, a, bs, true, rfl, rfl, sq, k _ H1 G1 g1 A1 rfl⟩
      · cases e3
    · cases e1'
  · cases e1'
theorem fe_bindex {k : Nat} (hr : Rm k X.A) (h : FE X C e f) (hbase : attributeBase e "index" X.env (eval e X.env) = eval e X.env := by rfl)
    (hfew : ((backTo cpos (starEach [.Constant (.bool true) j p2] X.env)).all (fun z => !z.1) && (backToKw cpos (keywordEach [] X.env)).all (fun z => z.1.isSome) && decide (([Expr.Constant (.bool true) j p2]).length + ([] : List Keyword).length + (if ([] : List Keyword).isEmpty then 0 else 1) < 30)) = true := by rfl)
    (hline : (apos.endLine == cpos.line) = true := by rfl) (hs : starEach [.Constant (.bool true) j p2] X.env = (false, eval (.Constant (.bool true) j p2) X.env) :: starEach [] X.env := by rfl) (hplain : (backTo cpos (starEach [] X.env)).any (·.1) = false := by rfl) :
    FE X C (.Call (.Attribute e "index" apos) [.Constant (.bool true) j p2] [] cpos) (e1 f dBindex) := by
  obtain ⟨te, p, q⟩ := h
  refine ⟨_, pe_bm PySem.F.plainAttrs_list PySem.F.slot_list_index PySem.F.type_list_index mt_index p (pa_cons pe_bl pa_nil hs) hbase hfew hline hs hplain, ?_⟩
  intro G H σ s d s' A e1' Q k
  unfold FD.e1 at e1'
  split at e1'
  · rename_i d0 s1 e2
    refine q G H σ s d0 s1 A e2 _ fun v H1 G1 g1 A1 r => ?_
    split at e1'
    · rename_i z e3
      cases e1'
      unfold dBindex at e3
      split at e3
      · rename_i ds
        split at e3
        · rename_i bs e4
          split at e3
          · rename_i hm
            cases e3
            obtain ⟨a, vs, rfl, r1, r2⟩ := r
            have ev := bools_rp e4 r2
            subst ev
            have sq := SqL.of (K := X.K) (A1.gh _ _ r1)
            have hl : bs.idxOf true < bs.length := List.idxOf_lt_length_of_mem hm
            have hj : bs[bs.idxOf true]? = some true := by
              rw [List.getElem?_eq_getElem hl, List.getElem_idxOf hl]
            refine ⟨.inl ⟨rfl, _, sq⟩, a, bs.map V.bl, .bl true, bs.idxOf true, .bl true, rfl, rfl, sq, rfl, ?_, ?_, rfl, ?_, k _ H1 G1 g1 A1 rfl⟩
            · rw [List.all_map]
              exact List.all_eq_true.mpr fun b _ => rfl
            · rw [List.getElem?_map, hj]
              rfl
            · intro m z' hm' hz
              rw [List.getElem?_map] at hz
              obtain ⟨b, hb, rfl⟩ := Option.map_eq_some_iff.mp hz
              have : b ≠ true := by
                intro eb
                subst eb
                have hml : m < bs.length := by omega
                rw [List.getElem?_eq_getElem hml] at hb
                have h3 : ¬ (bs[m] == true) = true := by
                  have := List.not_of_lt_findIdx (p := fun c => c == true) (xs := bs) hm'
                  simpa using this
                exact h3 (beq_iff_eq.mpr (Option.some.inj hb))
              cases b
              · rfl
              · exact absurd rfl this
          · cases e3
        · cases e3
      · cases e3
    · cases e1'
  · cases e1'
end
end FD

set_option maxRecDepth 100000
set_option maxHeartbeats 4000000
set_option exponentiation.threshold 10000
namespace T3
open PySem L2 FD
/-! ## sizes -/
/-- below 2 ^ b in size -/
def Sz (b : Nat) (n : Int) : Prop := n.natAbs < 2 ^ b
instance (b : Nat) (n : Int) : Decidable (Sz b n) := inferInstanceAs (Decidable (n.natAbs < 2 ^ b))
theorem log2_lt_of {n k : Nat} (h : n < 2 ^ k) : n.log2 ≤ k := by
  by_cases h0 : n = 0
  · subst h0; simp
  · exact Nat.le_of_lt ((Nat.log2_lt h0).mpr h)
theorem fit_of {i j : Int} {a b : Nat} (ha : i.natAbs < 2 ^ a) (hb : j.natAbs < 2 ^ b) (h : a + b < 134217000 := by decide) : fitM i j = true := by
  have h1 := log2_lt_of ha
  have h2 := log2_lt_of hb
  exact decide_eq_true (by omega)
theorem mul_lt {i j : Int} {a b : Nat} (ha : i.natAbs < 2 ^ a) (hb : j.natAbs < 2 ^ b) : (i * j).natAbs < 2 ^ (a + b) := by
  rw [Int.natAbs_mul, Nat.pow_add]
  exact Nat.mul_lt_mul'' ha hb
theorem add_lt {i j : Int} {a : Nat} (ha : i.natAbs < 2 ^ a) (hb : j.natAbs < 2 ^ a) : (i + j).natAbs < 2 ^ (a + 1) := by
  rw [Nat.pow_succ]; omega
theorem sub_lt {i j : Int} {a : Nat} (ha : i.natAbs < 2 ^ a) (hb : j.natAbs < 2 ^ a) : (i - j).natAbs < 2 ^ (a + 1) := by
  rw [Nat.pow_succ]; omega
theorem neg_lt {i : Int} {a : Nat} (ha : i.natAbs < 2 ^ a) : (-i).natAbs < 2 ^ a := by omega
theorem lt_up {i : Int} {a b : Nat} (ha : i.natAbs < 2 ^ a) (h : a ≤ b := by decide) : i.natAbs < 2 ^ b := Nat.lt_of_lt_of_le ha (Nat.pow_le_pow_right (by decide) h)
theorem dEq_int (a b : Int) : dEq (.int a) (.int b) = some (.bl (a == b)) := rfl
theorem dNe_int (a b : Int) : dNe (.int a) (.int b) = some (.bl (!(a == b))) := rfl
theorem idx0 {α : Type} {a : α} {l : List α} : (a :: l)[0]? = some a := rfl
theorem idxS {α : Type} {a : α} {l : List α} {n : Nat} : (a :: l)[n + 1]? = l[n]? := rfl
local macro_rules | `(tactic| walk_at "fd") => `(tactic| simp only [bodyP, bodyS, bodyR, sSeq, sIf, sNx, sRt, sRtX, sAsgX, sRs, eX, eJs, eJn, dFmt, sAsg, sDr, sPar, sAug, sSp, sOwn, sApp, lDs, eSp, eS, tBl, tTr, tAn, tOo, tNo, eC, eV, eA, eIf, eAn, eOo, eNo, e1, e2, eIxN, FD.peek, aCons, aNil, gNm, gTp, gLs, gCo, gNi, dI, dAddI, dMulI, dAdd, dSub, dMul, dFdiv, dMod, dNeg, dGcd, dMax, dMin, dAbs, dSq, dLen, dEq_int, dNe_int, dIx, oTup, oLst, truD, List.length_cons, List.length_nil, List.map_cons, List.map_nil, List.cons_append, List.nil_append, List.replicate_succ, List.replicate_zero, List.getElem?_cons_zero, List.getElem?_cons_succ, List.set_cons_succ, List.set_cons_zero, Nat.reduceAdd, Nat.reduceSub, Nat.sub_self, if_true, decide_true, decide_false, Bool.not_true, Bool.not_false, Bool.false_eq_true, if_false, reduceCtorEq, *])
abbrev Num := Int × Int × Int × Int
def nm (x : Num) : DV := .tup [.int x.1, .int x.2.1, .int x.2.2.1, .int x.2.2.2]
def SzN (b : Nat) (x : Num) : Prop := Sz b x.1 ∧ Sz b x.2.1 ∧ Sz b x.2.2.1 ∧ Sz b x.2.2.2
/-! ## lowest terms -/
def gc (p q s : Int) : Int := (((p.natAbs.gcd q.natAbs).gcd s.natAbs : Nat) : Int)
def sgc (p q s : Int) : Int := if s < 0 then -gc p q s else gc p q s
def low (p q d s : Int) : Num := if q = 0 then (p.fdiv (sgc p q s), 0, 0, s.fdiv (sgc p q s)) else (p.fdiv (sgc p q s), q.fdiv (sgc p q s), d, s.fdiv (sgc p q s))
theorem gc_pos {p q s : Int} (h : s ≠ 0) : 0 < gc p q s := by
  unfold gc
  have : 0 < ((p.natAbs.gcd q.natAbs).gcd s.natAbs) := Nat.gcd_pos_of_pos_right _ (by omega)
  omega
theorem gc_le {p q s : Int} (h : s ≠ 0) : (gc p q s).natAbs ≤ s.natAbs := by
  unfold gc
  have : ((p.natAbs.gcd q.natAbs).gcd s.natAbs) ≤ s.natAbs := Nat.gcd_le_right _ (by omega)
  omega
theorem sgc_ne {p q s : Int} (h : s ≠ 0) : sgc p q s ≠ 0 := by
  have := gc_pos (p := p) (q := q) h
  unfold sgc
  split <;> omega
theorem sgc_le {p q s : Int} (h : s ≠ 0) : (sgc p q s).natAbs ≤ s.natAbs := by
  have := gc_le (p := p) (q := q) h
  unfold sgc
  split <;> omega
theorem div_ok {c : Int} (h : c ≠ 0) (h9 : c.natAbs < 2 ^ 8999) : (c ≠ 0 ∧ c.natAbs.log2 < 9000) := ⟨h, by have := log2_lt_of h9; omega⟩
def b_lowest : SF :=
  sSeq (sAsg (eA (aCons (eV 0) (aCons (eV 1) (aCons (eV 3) (aNil)))) dGcd) (gNm 4))
  (sSeq (sIf (tBl (e2 (eV 3) (eC (.int 0)) dLt)) (sAsg (e1 (eV 4) dNeg) (gNm 4)) (sNx))
  (sSeq (sIf (tBl (e2 (eV 1) (eC (.int 0)) dEq)) (sRt (eA (aCons (e2 (eV 0) (eV 4) dFdiv) (aCons (eC (.int 0)) (aCons (eC (.int 0)) (aCons (e2 (eV 3) (eV 4) dFdiv) (aNil))))) oTup)) (sNx))
  (sRt (eA (aCons (e2 (eV 0) (eV 4) dFdiv) (aCons (e2 (eV 1) (eV 4) dFdiv) (aCons (eV 2) (aCons (e2 (eV 3) (eV 4) dFdiv) (aNil))))) oTup))))
def m_lowest : List DV → Option DV
  | [.int p, .int q, .int d, .int s] => if s ≠ 0 ∧ s.natAbs < 2 ^ 8999 then some (nm (low p q d s)) else none
  | _ => none
theorem t_lowest : ∀ ds d, m_lowest ds = some d → bodyP 4 5 b_lowest ds = some d := by
  intro ds d h
  unfold m_lowest at h
  split at h
  · rename_i p q e s
    split at h
    · rename_i hs
      obtain ⟨h1, h2⟩ := hs
      cases h
      have hc : decide (sgc p q s ≠ 0 ∧ (sgc p q s).natAbs.log2 < 9000) = true := decide_eq_true (div_ok (sgc_ne h1) (Nat.lt_of_le_of_lt (sgc_le h1) h2))
      have hl : (4 : Nat) ≤ sizeLine := by decide
      by_cases h3 : s < 0
      · have e1' : -((((p.natAbs.gcd q.natAbs).gcd s.natAbs : Nat)) : Int) = sgc p q s := by unfold sgc gc; rw [if_pos h3]
        by_cases h4 : q = 0
        · have h5 : (q == 0) = true := beq_iff_eq.mpr h4
          rw [show low p q e s = _ from if_pos h4]
          clear h4
          unfold nm b_lowest
          walk_at "fd"
        · have h5 : (q == 0) = false := beq_eq_false_iff_ne.mpr h4
          rw [show low p q e s = _ from if_neg h4]
          clear h4
          unfold nm b_lowest
          walk_at "fd"
      · have e1' : (((((p.natAbs.gcd q.natAbs).gcd s.natAbs : Nat)) : Int)) = sgc p q s := by unfold sgc gc; rw [if_neg h3]
        by_cases h4 : q = 0
        · have h5 : (q == 0) = true := beq_iff_eq.mpr h4
          rw [show low p q e s = _ from if_pos h4]
          clear h4
          unfold nm b_lowest
          walk_at "fd"
        · have h5 : (q == 0) = false := beq_eq_false_iff_ne.mpr h4
          rw [show low p q e s = _ from if_neg h4]
          clear h4
          unfold nm b_lowest
          walk_at "fd"
    · cases h
  · cases h
theorem four_le : (4 : Nat) ≤ sizeLine := by decide
theorem two_le : (2 : Nat) ≤ sizeLine := by decide
theorem beq_t {a b : Int} (h : a = b) : (a == b) = true := beq_iff_eq.mpr h
theorem beq_f {a b : Int} (h : a ≠ b) : (a == b) = false := beq_eq_false_iff_ne.mpr h
def b_opposite : SF :=
  sSeq (sAsg (eV 0) (gTp 4 (gCo (gNm 1) (gCo (gNm 2) (gCo (gNm 3) (gCo (gNm 4) (gNi)))))))
  (sRt (eA (aCons (e1 (eV 1) dNeg) (aCons (e1 (eV 2) dNeg) (aCons (eV 3) (aCons (eV 4) (aNil))))) oTup))
def m_opposite : List DV → Option DV
  | [.tup [.int p, .int q, .int d, .int s]] => some (nm (-p, -q, d, s))
  | _ => none
theorem t_opposite : ∀ ds d, m_opposite ds = some d → bodyP 1 5 b_opposite ds = some d := by
  intro ds d h
  unfold m_opposite at h
  split at h
  · cases h
    have h4 := four_le
    unfold b_opposite nm
    walk_at "fd"
  · cases h
def rootOf (d e : Int) : Int := if e > d then e else d
/-- the sum and the product, as the text reckons them -/
def addN (x y : Num) : Num := low (x.1 * y.2.2.2 + y.1 * x.2.2.2) (x.2.1 * y.2.2.2 + y.2.1 * x.2.2.2) (rootOf x.2.2.1 y.2.2.1) (x.2.2.2 * y.2.2.2)
def mulN (x y : Num) : Num := low (x.1 * y.1 + x.2.1 * y.2.1 * rootOf x.2.2.1 y.2.2.1) (x.1 * y.2.1 + x.2.1 * y.1) (rootOf x.2.2.1 y.2.2.1) (x.2.2.2 * y.2.2.2)
def negN (x : Num) : Num := (-x.1, -x.2.1, x.2.2.1, x.2.2.2)
def okPair (x y : Num) : Prop := (x.2.2.1 = y.2.2.1 ∨ x.2.2.1 = 0 ∨ y.2.2.1 = 0) ∧ x.2.2.2 ≠ 0 ∧ y.2.2.2 ≠ 0 ∧ SzN 4000 x ∧ SzN 4000 y
instance (b : Nat) (x : Num) : Decidable (SzN b x) := by unfold SzN; exact inferInstance
instance (x y : Num) : Decidable (okPair x y) := by unfold okPair SzN; exact inferInstance
theorem root_sz {x y : Num} {b : Nat} (h1 : SzN b x) (h2 : SzN b y) : (rootOf x.2.2.1 y.2.2.1).natAbs < 2 ^ b := by
  unfold rootOf
  split
  · exact h2.2.2.1
  · exact h1.2.2.1
def invN (x : Num) : Num := low (x.1 * x.2.2.2) (-x.2.1 * x.2.2.2) x.2.2.1 (x.1 * x.1 - x.2.1 * x.2.1 * x.2.2.1)

/-- whether the roots clash -/
def clash (d e : Int) : Prop := d ≠ e ∧ d ≠ 0 ∧ e ≠ 0
instance (d e : Int) : Decidable (clash d e) := by unfold clash; exact inferInstance
theorem log_small {n : Int} (h : n.natAbs < 2 ^ 1900) : decide (n.natAbs.log2 < 1920) = true := decide_eq_true (by have := log2_lt_of h; omega)
theorem len_small {n : Int} (h : n.natAbs < 2 ^ 40) : (Str.ofString (toString n)).length ≤ 41 := by
  have e := int_text_length_le10 (k := 40) (by decide) (Nat.lt_trans h (by decide))
  rw [ofString_length]
  omega
/-- the message of two roots that clash can be made -/
theorem js_ok {a b : Str} {f g : EF} {s : S} {n m : Int} (ha : a.length ≤ 100) (hb : b.length ≤ 100) (hn : n.natAbs < 2 ^ 40) (hm : m.natAbs < 2 ^ 40) (hf : f s = some (.int n, s)) (hg : g s = some (.int m, s)) : ∃ x, eJs [eC (.str a), e1 f dFmt, eC (.str b), e1 g dFmt] s = some (.str x, s) := by
  have l1 := len_small hn
  have l2 := len_small hm
  have d1 : n.natAbs.log2 < 1920 := by have := log2_lt_of hn; omega
  have d2 : m.natAbs.log2 < 1920 := by have := log2_lt_of hm; omega
  have big := sizeLine_eq
  have e0 : Str.empty.length = 0 := rfl
  have q1 : (Str.empty ++ a).length ≤ sizeLine := by rw [strLen_append]; omega
  have q2 : (Str.empty ++ a ++ Str.ofString (toString n)).length ≤ sizeLine := by rw [strLen_append, strLen_append]; omega
  have q3 : (Str.empty ++ a ++ Str.ofString (toString n) ++ b).length ≤ sizeLine := by rw [strLen_append, strLen_append, strLen_append]; omega
  have q4 : (Str.empty ++ a ++ Str.ofString (toString n) ++ b ++ Str.ofString (toString m)).length ≤ sizeLine := by rw [strLen_append, strLen_append, strLen_append, strLen_append]; omega
  refine ⟨Str.empty ++ a ++ Str.ofString (toString n) ++ b ++ Str.ofString (toString m), ?_⟩
  unfold eJs
  simp only [eJn, eC, e1, dFmt, hf, hg, d1, d2, if_true, q1, q2, q3, q4]
def b_common_root : SF :=
  sSeq (sAsg (eIxN 0 (eC (.int 2))) (gNm 2))
  (sSeq (sAsg (eIxN 1 (eC (.int 2))) (gNm 3))
  (sSeq (sIf (tAn (tBl (e2 (eV 2) (eV 3) dNe)) (tAn (tBl (e2 (eV 2) (eC (.int 0)) dNe)) (tBl (e2 (eV 3) (eC (.int 0)) dNe)))) (sRs "OtherRoot" (eJs [eC (.str "root "), e1 (eV 2) dFmt, eC (.str " and root "), e1 (eV 3) dFmt])) (sNx))
  (sRt (eA (aCons (eV 2) (aCons (eV 3) (aNil))) dMax))))
def m_common_root : List DV → Option Rz
  | [.tup [.int p, .int q, .int d, .int s], .tup [.int p', .int q', .int d', .int s']] => if d.natAbs < 2 ^ 40 ∧ d'.natAbs < 2 ^ 40 then some (if clash d d' then .er "OtherRoot" else .ok (.int (rootOf d d'))) else none
  | _ => none
theorem t_common_root : ∀ ds d, m_common_root ds = some d → bodyR 2 4 b_common_root ds = some d := by
  intro ds d h
  unfold m_common_root at h
  split at h
  · rename_i p q e s p' q' e' s'
    split at h
    · rename_i hz
      cases h
      have i0 : atI [DV.int p, .int q, .int e, .int s] 2 = some (.int e) := rfl
      have i1 : atI [DV.int p', .int q', .int e', .int s'] 2 = some (.int e') := rfl
      obtain ⟨z1, z2⟩ := hz
      obtain ⟨x, hx⟩ := js_ok (a := "root ") (b := " and root ") (f := eV 2) (g := eV 3) (s := ⟨[some (.dat (.tup [.int p, .int q, .int e, .int s])), some (.dat (.tup [.int p', .int q', .int e', .int s'])), some (.dat (.int e)), some (.dat (.int e'))], spl0⟩) (by decide) (by decide) z1 z2 rfl rfl
      unfold b_common_root rootOf
      clear z1 z2
      by_cases h1 : e = e'
      · have h1' := beq_t h1
        rw [if_neg (fun z => z.1 h1)]
        clear h1 hx
        walk_at "fd"
      · have h1' := beq_f h1
        by_cases h2 : e = 0
        · have h2' := beq_t h2
          rw [if_neg (fun z => z.2.1 h2)]
          clear h1 h2 hx
          walk_at "fd"
        · have h2' := beq_f h2
          by_cases h3 : e' = 0
          · have h3' := beq_t h3
            rw [if_neg (fun z => z.2.2 h3)]
            clear h1 h2 h3 hx
            walk_at "fd"
          · have h3' := beq_f h3
            rw [if_pos ⟨h1, h2, h3⟩]
            clear h1 h2 h3
            simp only [bodyP, bodyS, bodyR, sSeq, sIf, sNx, sRt, sRtX, sAsgX, sRs, eX, sAsg, sDr, sPar, sAug, sSp, sOwn, sApp, lDs, eSp, eS, tBl, tTr, tAn, tOo, tNo, eC, eV, eA, eIf, eAn, eOo, eNo, e2, eIxN, FD.peek, aCons, aNil, gNm, gTp, gLs, gCo, gNi, dI, dAddI, dMulI, dAdd, dSub, dMul, dFdiv, dMod, dNeg, dGcd, dMax, dMin, dAbs, dSq, dLen, dEq_int, dNe_int, dIx, oTup, oLst, truD, List.length_cons, List.length_nil, List.map_cons, List.map_nil, List.cons_append, List.nil_append, List.replicate_succ, List.replicate_zero, List.getElem?_cons_zero, List.getElem?_cons_succ, List.set_cons_succ, List.set_cons_zero, Nat.reduceAdd, Nat.reduceSub, Nat.sub_self, if_true, decide_true, decide_false, Bool.not_true, Bool.not_false, Bool.false_eq_true, if_false, reduceCtorEq, i0, i1, h1', h2', h3', hx]
    · cases h
  · cases h
end T3

set_option maxRecDepth 100000
set_option maxHeartbeats 4000000
set_option exponentiation.threshold 10000
namespace T3
open PySem L2 FD
local macro_rules | `(tactic| walk_at "fd") => `(tactic| simp only [bodyP, bodyS, bodyR, sSeq, sIf, sNx, sRt, sRtX, sAsgX, sRs, eX, eJs, eJn, dFmt, sAsg, sDr, sPar, sAug, sSp, sOwn, sApp, lDs, eSp, eS, tBl, tTr, tAn, tOo, tNo, eC, eV, eA, eIf, eAn, eOo, eNo, e1, e2, eIxN, FD.peek, aCons, aNil, gNm, gTp, gLs, gCo, gNi, dI, dAddI, dMulI, dAdd, dSub, dMul, dFdiv, dMod, dNeg, dGcd, dMax, dMin, dAbs, dSq, dLen, dEq_int, dNe_int, dIx, oTup, oLst, truD, List.length_cons, List.length_nil, List.map_cons, List.map_nil, List.cons_append, List.nil_append, List.replicate_succ, List.replicate_zero, List.getElem?_cons_zero, List.getElem?_cons_succ, List.set_cons_succ, List.set_cons_zero, Nat.reduceAdd, Nat.reduceSub, Nat.sub_self, if_true, decide_true, decide_false, Bool.not_true, Bool.not_false, Bool.false_eq_true, if_false, reduceCtorEq, *])
def okQ (x y : Num) : Prop := x.2.2.1.natAbs < 2 ^ 40 ∧ y.2.2.1.natAbs < 2 ^ 40 ∧ x.2.2.2 ≠ 0 ∧ y.2.2.2 ≠ 0 ∧ SzN 4000 x ∧ SzN 4000 y
instance (x y : Num) : Decidable (okQ x y) := by unfold okQ SzN; exact inferInstance
def b_plus : SF :=
  sSeq (sAsgX (eX (aCons (eV 0) (aCons (eV 1) (aNil))) m_common_root) 2)
  (sSeq (sAsg (eV 0) (gTp 4 (gCo (gNm 3) (gCo (gNm 4) (gCo (gNm 5) (gCo (gNm 6) (gNi)))))))
  (sSeq (sAsg (eV 1) (gTp 4 (gCo (gNm 7) (gCo (gNm 8) (gCo (gNm 5) (gCo (gNm 9) (gNi)))))))
  (sRt (eA (aCons (e2 (e2 (eV 3) (eV 9) dMul) (e2 (eV 7) (eV 6) dMul) dAdd) (aCons (e2 (e2 (eV 4) (eV 9) dMul) (e2 (eV 8) (eV 6) dMul) dAdd) (aCons (eV 2) (aCons (e2 (eV 6) (eV 9) dMul) (aNil))))) m_lowest))))
def m_plus : List DV → Option Rz
  | [.tup [.int p, .int q, .int d, .int s], .tup [.int p', .int q', .int d', .int s']] => if okQ (p, q, d, s) (p', q', d', s') then some (if clash d d' then .er "OtherRoot" else .ok (nm (addN (p, q, d, s) (p', q', d', s')))) else none
  | _ => none
theorem t_plus : ∀ ds d, m_plus ds = some d → bodyR 2 10 b_plus ds = some d := by
  intro ds d h
  unfold m_plus at h
  split at h
  · rename_i p q e s p' q' e' s'
    split at h
    · rename_i ok
      obtain ⟨hd, hd', hs, hs', ⟨z1, z2, z3, z4⟩, z5, z6, z7, z8⟩ := ok
      cases h
      have c1 : m_common_root [.tup [.int p, .int q, .int e, .int s], .tup [.int p', .int q', .int e', .int s']] = some (if clash e e' then .er "OtherRoot" else .ok (.int (rootOf e e'))) := if_pos ⟨hd, hd'⟩
      have hr : (rootOf e e').natAbs < 2 ^ 40 := by unfold rootOf; split <;> assumption
      have f1 := fit_of z1 z8
      have f2 := fit_of z5 z4
      have f3 := fit_of z2 z8
      have f4 := fit_of z6 z4
      have f5 := fit_of z4 z8
      have c2 : m_lowest [.int (p * s' + p' * s), .int (q * s' + q' * s), .int (rootOf e e'), .int (s * s')] = some (nm (low (p * s' + p' * s) (q * s' + q' * s) (rootOf e e') (s * s'))) :=
        if_pos ⟨Int.mul_ne_zero hs hs', lt_up (mul_lt z4 z8)⟩
      clear hd hd' hs hs' z1 z2 z3 z4 z5 z6 z7 z8 hr
      unfold b_plus addN
      by_cases hc : clash e e'
      · rw [if_pos hc] at c1 ⊢
        clear hc
        walk_at "fd"
      · rw [if_neg hc] at c1 ⊢
        clear hc
        walk_at "fd"
    · cases h
  · cases h
def b_times : SF :=
  sSeq (sAsgX (eX (aCons (eV 0) (aCons (eV 1) (aNil))) m_common_root) 2)
  (sSeq (sAsg (eV 0) (gTp 4 (gCo (gNm 3) (gCo (gNm 4) (gCo (gNm 5) (gCo (gNm 6) (gNi)))))))
  (sSeq (sAsg (eV 1) (gTp 4 (gCo (gNm 7) (gCo (gNm 8) (gCo (gNm 5) (gCo (gNm 9) (gNi)))))))
  (sRt (eA (aCons (e2 (e2 (eV 3) (eV 7) dMul) (e2 (e2 (eV 4) (eV 8) dMul) (eV 2) dMul) dAdd) (aCons (e2 (e2 (eV 3) (eV 8) dMul) (e2 (eV 4) (eV 7) dMul) dAdd) (aCons (eV 2) (aCons (e2 (eV 6) (eV 9) dMul) (aNil))))) m_lowest))))
def m_times : List DV → Option Rz
  | [.tup [.int p, .int q, .int d, .int s], .tup [.int p', .int q', .int d', .int s']] => if okQ (p, q, d, s) (p', q', d', s') then some (if clash d d' then .er "OtherRoot" else .ok (nm (mulN (p, q, d, s) (p', q', d', s')))) else none
  | _ => none
theorem t_times : ∀ ds d, m_times ds = some d → bodyR 2 10 b_times ds = some d := by
  intro ds d h
  unfold m_times at h
  split at h
  · rename_i p q e s p' q' e' s'
    split at h
    · rename_i ok
      obtain ⟨hd, hd', hs, hs', ⟨z1, z2, z3, z4⟩, z5, z6, z7, z8⟩ := ok
      cases h
      have c1 : m_common_root [.tup [.int p, .int q, .int e, .int s], .tup [.int p', .int q', .int e', .int s']] = some (if clash e e' then .er "OtherRoot" else .ok (.int (rootOf e e'))) := if_pos ⟨hd, hd'⟩
      have hr : (rootOf e e').natAbs < 2 ^ 40 := by unfold rootOf; split <;> assumption
      have f1 := fit_of z1 z5
      have f2 := fit_of z2 z6
      have f3 := fit_of (mul_lt z2 z6) hr
      have f4 := fit_of z1 z6
      have f5 := fit_of z2 z5
      have f6 := fit_of z4 z8
      have c2 : m_lowest [.int (p * p' + q * q' * rootOf e e'), .int (p * q' + q * p'), .int (rootOf e e'), .int (s * s')] = some (nm (low (p * p' + q * q' * rootOf e e') (p * q' + q * p') (rootOf e e') (s * s'))) :=
        if_pos ⟨Int.mul_ne_zero hs hs', lt_up (mul_lt z4 z8)⟩
      clear hd hd' hs hs' z1 z2 z3 z4 z5 z6 z7 z8 hr
      unfold b_times mulN
      by_cases hc : clash e e'
      · rw [if_pos hc] at c1 ⊢
        clear hc
        walk_at "fd"
      · rw [if_neg hc] at c1 ⊢
        clear hc
        walk_at "fd"
    · cases h
  · cases h
def b_minus : SF :=
  sRtX (eX (aCons (eV 0) (aCons (eA (aCons (eV 1) (aNil)) m_opposite) (aNil))) m_plus)
def m_minus : List DV → Option Rz
  | [.tup [.int p, .int q, .int d, .int s], .tup [.int p', .int q', .int d', .int s']] => m_plus [.tup [.int p, .int q, .int d, .int s], .tup [.int (-p'), .int (-q'), .int d', .int s']]
  | _ => none
theorem t_minus : ∀ ds d, m_minus ds = some d → bodyR 2 2 b_minus ds = some d := by
  intro ds d h
  unfold m_minus at h
  split at h
  · rename_i p q e s p' q' e' s'
    have c1 : m_opposite [.tup [.int p', .int q', .int e', .int s']] = some (.tup [.int (-p'), .int (-q'), .int e', .int s']) := rfl
    have c2 := h
    clear h
    unfold b_minus
    cases d with
    | ok d => walk_at "fd"
    | er c => walk_at "fd"
  · cases h
def b_over : SF :=
  sSeq (sAsg (eV 1) (gTp 4 (gCo (gNm 2) (gCo (gNm 3) (gCo (gNm 4) (gCo (gNm 5) (gNi)))))))
  (sSeq (sIf (tAn (tBl (e2 (eV 2) (eC (.int 0)) dEq)) (tBl (e2 (eV 3) (eC (.int 0)) dEq))) (sRs "ZeroDivisor" (eC (.str "the second number is 0"))) (sNx))
  (sRtX (eX (aCons (eV 0) (aCons (eA (aCons (e2 (eV 2) (eV 5) dMul) (aCons (e2 (e1 (eV 3) dNeg) (eV 5) dMul) (aCons (eV 4) (aCons (e2 (e2 (eV 2) (eV 2) dMul) (e2 (e2 (eV 3) (eV 3) dMul) (eV 4) dMul) dSub) (aNil))))) m_lowest) (aNil))) m_times)))
def m_over : List DV → Option Rz
  | [.tup [.int p, .int q, .int d, .int s], .tup [.int p', .int q', .int d', .int s']] => if p' = 0 ∧ q' = 0 then some (.er "ZeroDivisor") else
      if p' * p' - q' * q' * d' ≠ 0 ∧ SzN 1900 (p', q', d', s') ∧ d'.natAbs < 2 ^ 40 then m_times [.tup [.int p, .int q, .int d, .int s], nm (invN (p', q', d', s'))] else none
  | _ => none
theorem t_over : ∀ ds d, m_over ds = some d → bodyR 2 6 b_over ds = some d := by
  intro ds d h
  unfold m_over at h
  split at h
  · rename_i p q e s p' q' e' s'
    split at h
    · rename_i hz
      cases h
      obtain ⟨rfl, rfl⟩ := hz
      have h1' := beq_t (a := 0) (b := 0) rfl
      unfold b_over
      walk_at "fd"
    · rename_i hz
      split at h
      · rename_i ok
        obtain ⟨hn, ⟨z1, z2, z3, z4⟩, hd⟩ := ok
        have hnz : (p' * p' - q' * q' * e').natAbs < 2 ^ 8999 := lt_up (sub_lt (lt_up (mul_lt z1 z1) (b := 3840)) (mul_lt (mul_lt z2 z2) hd))
        have c2 : m_lowest [.int (p' * s'), .int (-q' * s'), .int e', .int (p' * p' - q' * q' * e')] = some (nm (invN (p', q', e', s'))) := if_pos ⟨hn, hnz⟩
        have c3 := h
        have f1 := fit_of z1 z4
        have f2 := fit_of (neg_lt z2) z4
        have f3 := fit_of z1 z1
        have f4 := fit_of z2 z2
        have f5 := fit_of (mul_lt z2 z2) hd
        clear h
        unfold b_over
        by_cases h1 : p' = 0
        · have h2 : q' ≠ 0 := fun w => hz ⟨h1, w⟩
          have h1' := beq_t h1
          have h2' := beq_f h2
          clear hz hn z1 z2 z3 z4 hd hnz h1 h2
          cases d with
          | ok d => walk_at "fd"
          | er c => walk_at "fd"
        · have h1' := beq_f h1
          clear hz hn z1 z2 z3 z4 hd hnz h1
          cases d with
          | ok d => walk_at "fd"
          | er c => walk_at "fd"
      · cases h
  · cases h
end T3

set_option maxRecDepth 100000
set_option maxHeartbeats 4000000
set_option exponentiation.threshold 10000
namespace T3
open PySem L2 FD
local macro_rules | `(tactic| walk_at "fd") => `(tactic| simp only [bodyP, bodyS, bodyR, sSeq, sIf, sNx, sRt, sRtX, sAsgX, sRs, eX, eJs, eJn, dFmt, sAsg, sDr, sPar, sAug, sSp, sOwn, sApp, lDs, eSp, eS, tBl, tTr, tAn, tOo, tNo, eC, eV, eA, eIf, eAn, eOo, eNo, e1, e2, eIxN, FD.peek, aCons, aNil, gNm, gTp, gLs, gCo, gNi, dI, dAddI, dMulI, dAdd, dSub, dMul, dFdiv, dMod, dNeg, dGcd, dMax, dMin, dAbs, dSq, dLen, dEq_int, dNe_int, dIx, oTup, oLst, truD, List.length_cons, List.length_nil, List.map_cons, List.map_nil, List.cons_append, List.nil_append, List.replicate_succ, List.replicate_zero, List.getElem?_cons_zero, List.getElem?_cons_succ, List.set_cons_succ, List.set_cons_zero, Nat.reduceAdd, Nat.reduceSub, Nat.sub_self, if_true, decide_true, decide_false, Bool.not_true, Bool.not_false, Bool.false_eq_true, if_false, reduceCtorEq, *])
/-! ## the spool -/
def Md : Int := 1180591620717411303449
def stirStep (place v turn : Int) : Int := (v * v + 3 * v + 32452843 * turn + place).fmod Md
def stir0 (cell place : Int) : Int := (cell * 2685821657736338717 + place * 2891336453 + 19).fmod Md
def stirV (cell place : Int) : Int := stirStep place (stirStep place (stirStep place (stirStep place (stir0 cell place) 0) 1) 2) 3
def stir (cell place : Int) : Int := stirV cell place * Md + (stirV cell place * 1103515245 + place).fmod Md
theorem fmod_sz (a : Int) : (a.fmod Md).natAbs < 2 ^ 71 := by
  have h1 := Int.fmod_nonneg_of_pos a (show (0 : Int) < Md by decide)
  have h2 := Int.fmod_lt_of_pos a (show (0 : Int) < Md by decide)
  have h3 : Md < 2 ^ 71 := by decide
  omega
theorem md_ne : (Md ≠ 0) = True := by decide
def b_law_stirred : SF :=
  sSeq (sAsg (eC (.int 1180591620717411303449)) (gNm 2))
  (sSeq (sAsg (e2 (e2 (e2 (e2 (eV 0) (eC (.int 2685821657736338717)) dMul) (e2 (eV 1) (eC (.int 2891336453)) dMul) dAdd) (eC (.int 19)) dAdd) (eV 2) dMod) (gNm 3))
  (sSeq (sFr (iRg1 (aCons (eC (.int 4)) (aNil))) (gNm 4) (sAsg (e2 (e2 (e2 (e2 (e2 (eV 3) (eV 3) dMul) (e2 (eC (.int 3)) (eV 3) dMul) dAdd) (e2 (eC (.int 32452843)) (eV 4) dMul) dAdd) (eV 1) dAdd) (eV 2) dMod) (gNm 3)))
  (sRt (e2 (e2 (eV 3) (eV 2) dMul) (e2 (e2 (e2 (eV 3) (eC (.int 1103515245)) dMul) (eV 1) dAdd) (eV 2) dMod) dAdd))))
def m_law_stirred : List DV → Option DV
  | [.int c, .int p] => if Sz 100 c ∧ Sz 100 p then some (.int (stir c p)) else none
  | _ => none
theorem t_law_stirred : ∀ ds d, m_law_stirred ds = some d → bodyP 2 5 b_law_stirred ds = some d := by
  intro ds d h
  unfold m_law_stirred at h
  split at h
  · rename_i c p
    split at h
    · rename_i ok
      obtain ⟨z1, z2⟩ := ok
      cases h
      have f1 : fitM c 2685821657736338717 = true := fit_of z1 (show Int.natAbs 2685821657736338717 < 2 ^ 100 by decide)
      have f2 : fitM p 2891336453 = true := fit_of z2 (show Int.natAbs 2891336453 < 2 ^ 100 by decide)
      have step : ∀ v turn : Int, v.natAbs < 2 ^ 71 → turn.natAbs < 2 ^ 10 → fitM v v = true ∧ fitM 3 v = true ∧ fitM 32452843 turn = true := fun v t h1 h2 =>
        ⟨fit_of h1 h1, fit_of (show Int.natAbs 3 < 2 ^ 100 by decide) h1, fit_of (show Int.natAbs 32452843 < 2 ^ 100 by decide) h2⟩
      have g0 := fmod_sz (c * 2685821657736338717 + p * 2891336453 + 19)
      have g1 := fun v t => fmod_sz (v * v + 3 * v + 32452843 * t + p)
      obtain ⟨a0, b0, d0⟩ := step (stir0 c p) 0 g0 (by decide)
      obtain ⟨a1, b1, d1⟩ := step (stirStep p (stir0 c p) 0) 1 (g1 _ _) (by decide)
      obtain ⟨a2, b2, d2⟩ := step (stirStep p (stirStep p (stir0 c p) 0) 1) 2 (g1 _ _) (by decide)
      obtain ⟨a3, b3, d3⟩ := step (stirStep p (stirStep p (stirStep p (stir0 c p) 0) 1) 2) 3 (g1 _ _) (by decide)
      have hv : (stirV c p).natAbs < 2 ^ 71 := g1 _ _
      have f3 : fitM (stirV c p) Md = true := fit_of hv (show Int.natAbs Md < 2 ^ 100 by decide)
      have f3' : fitM (stirV c p) 1180591620717411303449 = true := f3
      have f4 : fitM (stirV c p) 1103515245 = true := fit_of hv (show Int.natAbs 1103515245 < 2 ^ 100 by decide)
      have hm : decide ((1180591620717411303449 : Int) ≠ 0) = true := rfl
      have hr : inR 4 = true := rfl
      clear z1 z2 step g0 g1 hv
      have e0 : (c * 2685821657736338717 + p * 2891336453 + 19).fmod 1180591620717411303449 = stir0 c p := rfl
      have es : ∀ v t : Int, (v * v + 3 * v + 32452843 * t + p).fmod 1180591620717411303449 = stirStep p v t := fun _ _ => rfl
      have ev : stirStep p (stirStep p (stirStep p (stirStep p (stir0 c p) 0) 1) 2) 3 = stirV c p := rfl
      have eM : (1180591620717411303449 : Int) = Md := rfl
      have rg : rngD 0 (Int.toNat 4) = [.int 0, .int 1, .int 2, .int 3] := rfl
      unfold b_law_stirred stir
      simp only [bodyP, sSeq, sAsg, sFr, sRt, iRg1, eC, eV, e2, aCons, aNil, gNm, dAdd, dMul, dMod, List.length_cons, List.length_nil, List.map_cons, List.map_nil, List.cons_append, List.nil_append, List.replicate_succ, List.replicate_zero, List.getElem?_cons_zero, List.getElem?_cons_succ, List.set_cons_succ, List.set_cons_zero, Nat.reduceAdd, Nat.reduceSub, if_true, f1, f2, hm, hr, e0, rg, frN, a0, b0, d0, es, a1, b1, d1, a2, b2, d2, a3, b3, d3, ev, f3', f4]
      rfl
    · cases h
  · cases h
def okN (ns : List Int) : Prop := True
theorem lay_ints : ∀ ns : List Int, PyData.canLayAll0 (ns.map PyData.int) = true ∧ PyData.depthAll (ns.map PyData.int) ≤ 0
  | [] => ⟨rfl, Nat.le_refl _⟩
  | n :: ns => ⟨by
      show (true && PyData.canLayAll0 (ns.map PyData.int)) = true
      rw [(lay_ints ns).1]; rfl, by
      show max (PyData.depth (.int n)) (PyData.depthAll (ns.map PyData.int)) ≤ 0
      have := (lay_ints ns).2
      have h2 : PyData.depth (.int n) = 0 := rfl
      omega⟩
theorem toPyL_ints : ∀ ns : List Int, toPyL (ns.map DV.int) = some (ns.map PyData.int)
  | [] => rfl
  | n :: ns => by
    show (match toPy (.int n) with
      | some x => match toPyL (ns.map DV.int) with
        | some r => some (x :: r)
        | none => none
      | none => none) = _
    rw [toPyL_ints ns]
    rfl
theorem shaped_ints (ns : List Int) : SeqAt.shaped (.list (ns.map PyData.int)) = true := by
  obtain ⟨h1, h2⟩ := lay_ints ns
  unfold SeqAt.shaped
  have e1 : PyData.canLay0 (.list (ns.map PyData.int)) = true := h1
  have e2 : PyData.depth (.list (ns.map PyData.int)) = PyData.depthAll (ns.map PyData.int) + 1 := rfl
  rw [e1, e2, decide_eq_true (by omega)]
  rfl
theorem dNe_nil (ns : List Int) : dNe (.lst (ns.map DV.int)) (.lst []) = some (.bl (!ns.isEmpty)) := by
  unfold dNe
  have e1 : toPy (.lst (ns.map DV.int)) = some (.list (ns.map PyData.int)) := by
    show (toPyL (ns.map DV.int)).map PyData.list = _
    rw [toPyL_ints]
    rfl
  have e2 : toPy (.lst []) = some (.list []) := rfl
  rw [e1, e2]
  dsimp only
  rw [shaped_ints]
  cases ns <;> rfl
def cell0 (s : Spl) : Int := if s.nums = [] then 0 else (s.nums[(s.place.fmod (s.nums.length : Int)).toNat]?).getD 0
def cell1 (s : Spl) : Int := if (s.nums.length : Int) ≤ s.place ∨ cell0 s < 10 ^ 15 then stir ((cell0 s).fmod 998244353) s.place else cell0 s
def turnS (s : Spl) (b : Int) : Spl := if s.size < b then ⟨s.nums, s.place + 1, cell1 s, cell1 s⟩ else s
def upV (s : Spl) (b : Int) : Int := (turnS s b).cell.fmod b
def upS (s : Spl) (b : Int) : Spl := ⟨(turnS s b).nums, (turnS s b).place, (turnS s b).cell.fdiv b, (turnS s b).size.fdiv b⟩
def okB (s : Spl) (b : Int) : Prop := 0 < b ∧ b.natAbs < 2 ^ 8999 ∧ Sz 90 s.place
instance (s : Spl) (b : Int) : Decidable (okB s b) := by unfold okB; exact inferInstance
theorem upV_lt {s : Spl} {b : Int} (h : 0 < b) : 0 ≤ upV s b ∧ upV s b < b := ⟨Int.fmod_nonneg_of_pos _ h, Int.fmod_lt_of_pos _ h⟩
theorem upS_place {s : Spl} {b : Int} : (upS s b).place = s.place ∨ (upS s b).place = s.place + 1 := by
  unfold upS turnS
  dsimp only
  split
  · exact .inr rfl
  · exact .inl rfl
def b_law_upto : SF :=
  sSeq (sIf (tBl (e2 (eSp 0 3) (eV 1) dLt)) (sSeq (sPar 2 3 (aCons (eSp 0 0) (aCons (eSp 0 1) (aNil))))
  (sSeq (sAsg (eIf (tBl (e2 (eV 2) (eA (aNil) oLst) dNe)) (eIxN 2 (e2 (eV 3) (eA (aCons (eV 2) (aNil)) dLen) dMod)) (eC (.int 0))) (gNm 4))
  (sSeq (sIf (tOo (tBl (e2 (eV 3) (eA (aCons (eV 2) (aNil)) dLen) dGe)) (tBl (e2 (eV 4) (e2 (eC (.int 10)) (eC (.int 15)) dPow) dLt))) (sAsg (eA (aCons (e2 (eV 4) (eC (.int 998244353)) dMod) (aCons (eV 3) (aNil))) m_law_stirred) (gNm 4)) (sNx))
  (sSeq (sSp 0 1 (e2 (eV 3) (eC (.int 1)) dAdd))
  (sSeq (sSp 0 2 (eV 4))
  (sSp 0 3 (eV 4))))))) (sNx))
  (sSeq (sAsg (e2 (eSp 0 2) (eV 1) dMod) (gNm 5))
  (sSeq (sSp 0 2 (e2 (eSp 0 2) (eV 1) dFdiv))
  (sSeq (sSp 0 3 (e2 (eSp 0 3) (eV 1) dFdiv))
  (sRt (eV 5)))))
def m_law_upto : List DV → Spl → Option (DV × Spl)
  | [.int b], s => if okB s b then some (.int (upV s b), upS s b) else none
  | _, _ => none
theorem t_law_upto : ∀ ds s d, m_law_upto ds s = some d → bodyS 2 6 b_law_upto ds s = some d := by
  intro ds s d h
  unfold m_law_upto at h
  split at h
  · rename_i b
    split at h
    · rename_i ok
      obtain ⟨hb, hb9, hp⟩ := ok
      cases h
      have hd : decide (b ≠ 0 ∧ b.natAbs.log2 < 9000) = true := decide_eq_true (div_ok (by omega) hb9)
      have hm : decide (b ≠ 0) = true := decide_eq_true (by omega)
      obtain ⟨nums, place, cell, size⟩ := s
      have hp' : place.natAbs < 2 ^ 90 := hp
      have hpow : decide (0 ≤ (15 : Int) ∧ (15 : Int) ≤ 1000000 ∧ (10 : Int).natAbs < 2 ^ 64) = true := rfl
      have epow : (10 : Int) ^ (Int.toNat 15) = 10 ^ 15 := rfl
      have c1 : ∀ c : Int, m_law_stirred [.int (c.fmod 998244353), .int place] = some (.int (stir (c.fmod 998244353) place)) := fun c => by
        refine if_pos ⟨?_, lt_up hp'⟩
        have h1 := Int.fmod_nonneg_of_pos c (show (0 : Int) < 998244353 by decide)
        have h2 := Int.fmod_lt_of_pos c (show (0 : Int) < 998244353 by decide)
        show (c.fmod 998244353).natAbs < 2 ^ 100
        have h3 : (998244353 : Int) < 2 ^ 100 := by decide
        omega
      have h9 : decide ((998244353 : Int) ≠ 0) = true := rfl
      clear hb9 hp hp'
      unfold upV upS turnS
      by_cases h1 : size < b
      · have hcell : ∀ sl : List (Option SV), sl[2]? = some (some (.dat (.lst (nums.map .int)))) → sl[3]? = some (some (.dat (.int place))) → ∀ sp : Spl,
            eIf (tBl (e2 (eV 2) (eA (aNil) oLst) dNe)) (eIxN 2 (e2 (eV 3) (eA (aCons (eV 2) (aNil)) dLen) dMod)) (eC (.int 0)) ⟨sl, sp⟩ = some (.int (cell0 ⟨nums, place, cell, size⟩), ⟨sl, sp⟩) := by
          intro sl h2 h3 sp
          have h0 : (0 : Nat) ≤ sizeLine := Nat.zero_le _
          cases nums with
          | nil =>
            have e := dNe_nil []
            rw [List.map_nil] at e h2
            simp only [eIf, tBl, e2, eV, h2, eA, aNil, oLst, List.length_nil, h0, if_true, e, List.isEmpty_nil, Bool.not_true, eC]
            first | done | rfl
          | cons n ns =>
            have e := dNe_nil (n :: ns)
            have hl : (0 : Int) < ((n :: ns).map DV.int).length := by simp
            have hl2 : decide ((((n :: ns).map DV.int).length : Int) ≠ 0) = true := decide_eq_true (by omega)
            have k1 := Int.fmod_nonneg_of_pos place hl
            have k2 := Int.fmod_lt_of_pos place hl
            have ex : atI ((n :: ns).map DV.int) (place.fmod (((n :: ns).map DV.int).length : Int)) = some (.int (cell0 ⟨n :: ns, place, cell, size⟩)) := by
              unfold atI ixN
              rw [if_pos k1, if_pos k2]
              show ((n :: ns).map DV.int)[_]? = _
              have k3 : (place.fmod (((n :: ns).map DV.int).length : Int)).toNat < (n :: ns).length := by
                rw [List.length_map] at k2 k1 ⊢
                omega
              have k4 : cell0 ⟨n :: ns, place, cell, size⟩ = ((n :: ns)[(place.fmod ((n :: ns).length : Int)).toNat]?).getD 0 := if_neg (fun z => nomatch z)
              rw [List.length_map] at k3 ⊢
              rw [k4, List.getElem?_map, List.getElem?_eq_getElem k3]
              rfl
            simp only [eIf, tBl, e2, eV, h2, h3, eA, aNil, aCons, oLst, List.length_nil, h0, if_true, e, List.isEmpty_cons, Bool.not_false, eIxN, FD.peek, dLen, dMod, hl2, dIx, ex]
        have hlen : ((nums.map DV.int).length : Int) = (nums.length : Int) := by rw [List.length_map]
        unfold b_law_upto
        simp only [h1, if_true]
        have hc := hcell [some .spl, some (.dat (.int b)), some (.dat (.lst (nums.map .int))), some (.dat (.int place)), none, none] rfl rfl ⟨nums, place, cell, size⟩
        clear hcell
        have hc1 : cell1 ⟨nums, place, cell, size⟩ = if (nums.length : Int) ≤ place ∨ cell0 ⟨nums, place, cell, size⟩ < 10 ^ 15 then stir ((cell0 ⟨nums, place, cell, size⟩).fmod 998244353) place else cell0 ⟨nums, place, cell, size⟩ := rfl
        generalize cell0 ⟨nums, place, cell, size⟩ = c0 at hc hc1
        generalize cell1 ⟨nums, place, cell, size⟩ = r at hc1 ⊢
        by_cases h2 : (nums.length : Int) ≤ place
        · rw [if_pos (.inl h2)] at hc1
          have h2' : decide ((nums.length : Int) ≤ place) = true := decide_eq_true h2
          clear h2
          subst hc1
          simp only [bodyS, sSeq, sIf, sNx, sRt, sAsg, tBl, tOo, eA, e2, eSp, sSp, eV, eC, dI, sPar, aCons, aNil, gNm, dGe, dLt, dPow, dMod, dFdiv, dLen, dAdd, List.length_cons, List.length_nil, List.map_cons, List.map_nil, List.cons_append, List.nil_append, List.replicate_succ, List.replicate_zero, List.getElem?_cons_zero, List.getElem?_cons_succ, List.set_cons_succ, List.set_cons_zero, Nat.reduceAdd, Nat.reduceSub, if_true, decide_true, decide_false, reduceIte, Int.reduceEq, h1, hc, hlen, h2', h9, c1, hm, hd]
        · by_cases h3 : c0 < 10 ^ 15
          · rw [if_pos (.inr h3)] at hc1
            have h2' : decide ((nums.length : Int) ≤ place) = false := decide_eq_false h2
            have h3' : decide (c0 < (10 : Int) ^ (Int.toNat 15)) = true := decide_eq_true h3
            clear h2 h3
            subst hc1
            simp only [bodyS, sSeq, sIf, sNx, sRt, sAsg, tBl, tOo, eA, e2, eSp, sSp, eV, eC, dI, sPar, aCons, aNil, gNm, dGe, dLt, dPow, dMod, dFdiv, dLen, dAdd, List.length_cons, List.length_nil, List.map_cons, List.map_nil, List.cons_append, List.nil_append, List.replicate_succ, List.replicate_zero, List.getElem?_cons_zero, List.getElem?_cons_succ, List.set_cons_succ, List.set_cons_zero, Nat.reduceAdd, Nat.reduceSub, if_true, decide_true, decide_false, reduceIte, Int.reduceEq, h1, hc, hlen, h2', h3', hpow, h9, c1, hm, hd]
          · rw [if_neg (fun z => z.elim h2 h3)] at hc1
            have h2' : decide ((nums.length : Int) ≤ place) = false := decide_eq_false h2
            have h3' : decide (c0 < (10 : Int) ^ (Int.toNat 15)) = false := decide_eq_false h3
            clear h2 h3
            subst hc1
            simp only [bodyS, sSeq, sIf, sNx, sRt, sAsg, tBl, tOo, eA, e2, eSp, sSp, eV, eC, dI, sPar, aCons, aNil, gNm, dGe, dLt, dPow, dMod, dFdiv, dLen, dAdd, List.length_cons, List.length_nil, List.map_cons, List.map_nil, List.cons_append, List.nil_append, List.replicate_succ, List.replicate_zero, List.getElem?_cons_zero, List.getElem?_cons_succ, List.set_cons_succ, List.set_cons_zero, Nat.reduceAdd, Nat.reduceSub, if_true, decide_true, decide_false, reduceIte, Int.reduceEq, h1, hc, hlen, h2', h3', hpow, h9, c1, hm, hd]
      · unfold b_law_upto
        have h1' : decide (size < b) = false := decide_eq_false h1
        simp only [h1, if_false]
        clear h1
        simp only [bodyS, sSeq, sIf, sNx, sRt, sAsg, tBl, tOo, eA, e2, eSp, sSp, eV, eC, dI, sPar, aCons, aNil, gNm, dGe, dLt, dPow, dMod, dFdiv, dLen, dAdd, List.length_cons, List.length_nil, List.map_cons, List.map_nil, List.cons_append, List.nil_append, List.replicate_succ, List.replicate_zero, List.getElem?_cons_zero, List.getElem?_cons_succ, List.set_cons_succ, List.set_cons_zero, Nat.reduceAdd, Nat.reduceSub, if_true, decide_true, decide_false, reduceIte, Int.reduceEq, h1', hm, hd]
    · cases h
  · cases h
def b_law_choice : SF :=
  sRt (eIxN 1 (eS 0 (aCons (eA (aCons (eV 1) (aNil)) dLen) (aNil)) m_law_upto))
def m_law_choice : List DV → Spl → Option (DV × Spl)
  | [.lst ds], s => if okB s (ds.length : Int) then (ds[(upV s (ds.length : Int)).toNat]?).map fun d => (d, upS s (ds.length : Int)) else none
  | _, _ => none
theorem t_law_choice : ∀ ds s d, m_law_choice ds s = some d → bodyS 2 2 b_law_choice ds s = some d := by
  intro ds s d h
  unfold m_law_choice at h
  split at h
  · rename_i ds
    split at h
    · rename_i ok
      have c1 : m_law_upto [.int (ds.length : Int)] s = some (.int (upV s (ds.length : Int)), upS s (ds.length : Int)) := if_pos ok
      have b1 := upV_lt (s := s) ok.1
      obtain ⟨e, e1', e2'⟩ := Option.map_eq_some_iff.mp h
      have c2 : atI ds (upV s (ds.length : Int)) = some e := by
        unfold atI ixN
        rw [if_pos b1.1, if_pos b1.2]
        exact e1'
      clear ok b1 h e1'
      subst e2'
      unfold b_law_choice
      walk_at "fd"
    · cases h
  · cases h
/-! ## the spool made -/
def absZ (n : Int) : Int := if n < 0 then -n else n
def addAt (l : List Int) (i : Nat) (c : Int) : List Int := l.set (i % 16) ((l[i % 16]?).getD 0 + absZ c)
def foldN : Nat → List Int → List Int → List Int
  | _, [], l => l
  | i, c :: cs, l => foldN (i + 1) cs (addAt l i c)
def sfN (ns : List Int) : List Int := foldN 0 ((ns.drop 16).take 48) ((ns.take 16).map absZ)
def sf (ns : List Int) : Option (List Int) := if ns.length ≤ 63 then some (sfN ns) else none
def b1_law_spool_of : SF :=
  sOwn 2 (lCp (iVal (eSlN 0 (oNo) (oSo (eC (.int 16))))) 1 (tY) (eA (aCons (eV 1) (aNil)) dAbs))
def b2_law_spool_of : SF :=
  sFr (iEn (eSlN 0 (oSo (eC (.int 16))) (oSo (eC (.int 64))))) (gTp 2 (gCo (gNm 3) (gCo (gNm 1) (gNi)))) (sPut 2 (e2 (eIxN 2 (e2 (eV 3) (eC (.int 16)) dMod)) (eA (aCons (eV 1) (aNil)) dAbs) dAdd) (e2 (eV 3) (eC (.int 16)) dMod))
def b3_law_spool_of : LF := lDs (aCons (eV 2) (aCons (eC (.int 0)) (aCons (eC (.int 0)) (aCons (eC (.int 0)) (aNil)))))
def mN_law_spool_of : List DV → Option (List DV)
  | [.scr ns] => (sf ns).map fun nums => [.lst (nums.map .int), .int 0, .int 0, .int 0]
  | _ => none
theorem cp_abs : ∀ (ns : List Int) (sl : List (Option SV)) (sp : Spl) (acc : List DV), 1 < sl.length → acc.length + ns.length ≤ 63 →
    cpN (ns.map DV.int) 1 tY (eA (aCons (eV 1) aNil) dAbs) ⟨sl.set 1 none, sp⟩ acc = some (acc ++ (ns.map absZ).map DV.int, ⟨sl.set 1 none, sp⟩)
  | [], sl, sp, acc, _, _ => by simp [cpN]
  | n :: ns, sl, sp, acc, h, hl => by
    have h1 : ((sl.set 1 none).set 1 (some (SV.dat (.int n))))[1]? = some (some (SV.dat (.int n))) := by
      rw [List.getElem?_set_self (by simpa using h)]
    have h2 : acc.length < sizeLine := Nat.lt_of_lt_of_le (m := 64) (by simp at hl; omega) (by decide)
    have h3 := cp_abs ns sl sp (acc ++ [.int (absZ n)]) h (by simp at hl ⊢; omega)
    have h4 : (if n < 0 then -n else n) = absZ n := rfl
    rw [List.set_set] at h1
    simp only [List.map_cons, cpN, tY, eA, aCons, aNil, eV, h1, List.set_set, dAbs, h2, if_true, h4]
    rw [h3]
    simp
theorem fr_add {it : SF} (hit : it = sPut 2 (e2 (eIxN 2 (e2 (eV 3) (eC (.int 16)) dMod)) (eA (aCons (eV 1) (aNil)) dAbs) dAdd) (e2 (eV 3) (eC (.int 16)) dMod)) : ∀ (cs : List Int) (i : Nat) (l : List Int) (x y z : Option SV) (sp : Spl), l.length = 16 →
    ∃ x' y', frN (enD i (cs.map DV.int)) (gTp 2 (gCo (gNm 3) (gCo (gNm 1) (gNi)))) it ⟨[z, x, some (.own (l.map .int)), y], sp⟩ = some (.nx ⟨[z, x', some (.own ((foldN i cs l).map .int)), y'], sp⟩)
  | [], i, l, x, y, z, sp, _ => ⟨x, y, rfl⟩
  | c :: cs, i, l, x, y, z, sp, hl => by
    obtain ⟨x', y', e⟩ := fr_add hit cs (i + 1) (addAt l i c) (some (.dat (.int c))) (some (.dat (.int (i : Int)))) z sp (by unfold addAt; rw [List.length_set]; exact hl)
    refine ⟨x', y', ?_⟩
    show frN (.tup [.int (i : Int), .int c] :: enD (i + 1) (cs.map DV.int)) _ _ _ = some (.nx ⟨[z, x', some (.own ((foldN (i + 1) cs (addAt l i c)).map .int)), y'], sp⟩)
    have hk : (i : Int).fmod 16 = ((i % 16 : Nat) : Int) := by rw [Int.fmod_eq_emod_of_nonneg _ (by decide)]; rfl
    have hd : decide ((16 : Int) ≠ 0) = true := rfl
    have hb : (0 : Int) ≤ ((i % 16 : Nat) : Int) := by omega
    have hc : ((i % 16 : Nat) : Int) < ((l.map DV.int).length : Int) := by rw [List.length_map, hl]; omega
    have hi : ixN (l.map DV.int).length ((i % 16 : Nat) : Int) = some (i % 16) := by
      unfold ixN
      rw [if_pos hb, if_pos hc]
      rfl
    have hlt : i % 16 < l.length := by omega
    have hat : atI (l.map DV.int) ((i % 16 : Nat) : Int) = some (.int ((l[i % 16]?).getD 0)) := by
      unfold atI
      rw [hi]
      show (l.map DV.int)[i % 16]? = _
      rw [List.getElem?_map, List.getElem?_eq_getElem hlt]
      rfl
    have hs : (l.map DV.int).set (i % 16) (.int ((l[i % 16]?).getD 0 + absZ c)) = (addAt l i c).map DV.int := by
      unfold addAt
      rw [List.map_set]
    have ha : (if c < 0 then -c else c) = absZ c := rfl
    simp only [frN, gTp, gCo, gNm, gNi, List.length_cons, List.length_nil, Nat.reduceAdd, if_true, List.set_cons_succ, List.set_cons_zero]
    rw [hit] at e ⊢
    simp only [sPut, e2, eIxN, FD.peek, eV, eC, eA, aCons, aNil, dAbs, dMod, dAdd, dIx, hk, hd, hat, hi, hs, ha, List.getElem?_cons_zero, List.getElem?_cons_succ, if_true, List.set_cons_succ, List.set_cons_zero, e]
theorem cut_lo (ns : List Int) : cutD (ns.map DV.int) none (some 16) = (ns.take 16).map DV.int := by
  unfold cutD
  have e1 : HT.sIx (ns.map DV.int).length 0 none = 0 := rfl
  have e2 : HT.sIx (ns.map DV.int).length (ns.map DV.int).length (some 16) = min 16 ns.length := by
    show min 16 (ns.map DV.int).length = _
    rw [List.length_map]
  rw [e1, e2, List.drop_zero, Nat.sub_zero, List.map_take]
  by_cases h : ns.length ≤ 16
  · rw [Nat.min_eq_right h, List.take_of_length_le (by simp), List.take_of_length_le (by simpa using h)]
  · rw [Nat.min_eq_left (by omega)]
theorem cut_hi (ns : List Int) : cutD (ns.map DV.int) (some 16) (some 64) = ((ns.drop 16).take 48).map DV.int := by
  unfold cutD
  have e1 : HT.sIx (ns.map DV.int).length 0 (some 16) = min 16 ns.length := by
    show min 16 (ns.map DV.int).length = _
    rw [List.length_map]
  have e2 : HT.sIx (ns.map DV.int).length (ns.map DV.int).length (some 64) = min 64 ns.length := by
    show min 64 (ns.map DV.int).length = _
    rw [List.length_map]
  rw [e1, e2, List.map_take, List.map_drop]
  by_cases h : ns.length ≤ 16
  · rw [Nat.min_eq_right h, List.drop_of_length_le (by simp), List.drop_of_length_le (by simpa using h)]
    simp
  · rw [show min 16 ns.length = 16 by omega]
    by_cases h2 : ns.length ≤ 64
    · rw [Nat.min_eq_right h2, List.take_of_length_le (by simp), List.take_of_length_le (by simp; omega)]
    · rw [show min 64 ns.length = 64 by omega]
theorem n_law_spool_of : ∀ ds es, mN_law_spool_of ds = some es → bodyN 1 4 b1_law_spool_of b2_law_spool_of b3_law_spool_of ds = some es := by
  intro ds es h
  unfold mN_law_spool_of at h
  split at h
  · rename_i ns
    unfold sf at h
    split at h
    · rename_i hl
      cases h
      have h1 := cp_abs (ns.take 16) [some (.dat (.scr ns)), none, none, none] spl0 [] (by simp) (by simp; omega)
      rw [List.nil_append] at h1
      have q1 : dSl (.scr ns) none (some 16) = some (.lst ((ns.take 16).map DV.int)) := by
        show some (DV.lst (cutD (ns.map DV.int) none (some 16))) = _
        rw [cut_lo]
      have q2 : dSl (.scr ns) (some 16) (some 64) = some (.lst (((ns.drop 16).take 48).map DV.int)) := by
        show some (DV.lst (cutD (ns.map DV.int) (some 16) (some 64))) = _
        rw [cut_hi]
      have h2 : ∃ x' y', frN (enD 0 (((ns.drop 16).take 48).map DV.int)) (gTp 2 (gCo (gNm 3) (gCo (gNm 1) (gNi)))) (sPut 2 (e2 (eIxN 2 (e2 (eV 3) (eC (.int 16)) dMod)) (eA (aCons (eV 1) (aNil)) dAbs) dAdd) (e2 (eV 3) (eC (.int 16)) dMod)) ⟨[some (.dat (.scr ns)), none, some (.own (((ns.take 16).map absZ).map .int)), none], spl0⟩ = some (.nx ⟨[some (.dat (.scr ns)), x', some (.own ((sfN ns).map .int)), y'], spl0⟩) := by
        by_cases hl2 : 16 ≤ ns.length
        · exact fr_add rfl ((ns.drop 16).take 48) 0 ((ns.take 16).map absZ) none none _ spl0 (by rw [List.length_map, List.length_take]; omega)
        · have e : (ns.drop 16).take 48 = [] := by rw [List.drop_of_length_le (by omega)]; rfl
          unfold sfN
          rw [e]
          exact ⟨none, none, rfl⟩
      obtain ⟨x', y', h2⟩ := h2
      have h4 : (4 : Nat) ≤ sizeLine := by decide
      unfold b1_law_spool_of b2_law_spool_of b3_law_spool_of bodyN
      simp only [List.length_cons, List.length_nil, List.map_cons, List.map_nil, List.cons_append, List.nil_append, List.replicate_succ, List.replicate_zero, Nat.reduceAdd, Nat.reduceSub, if_true, sOwn, lCp, iVal, eSlN, FD.peek, oNo, oSo, eC, q1, List.set_cons_succ, List.set_cons_zero, List.getElem?_cons_zero, h1, sFr, iEn, q2, List.getElem?_cons_succ] at h1 h2 ⊢
      simp only [h2, lDs, aCons, aNil, eV, eC, FD.peek, List.getElem?_cons_zero, List.getElem?_cons_succ, List.length_cons, List.length_nil, Nat.reduceAdd, h4, if_true]
    · cases h
  · cases h
theorem t_law_spool_of {K : PySem.W.Frag} : ∀ vs H Q E, spN K mN_law_spool_of vs H Q E → spN K (bodyN 1 4 b1_law_spool_of b2_law_spool_of b3_law_spool_of) vs H Q E := fun vs H Q E ⟨G, ds, es, g, r, e, q⟩ => ⟨G, ds, es, g, r, n_law_spool_of ds es e, q⟩
end T3

set_option maxRecDepth 100000
set_option maxHeartbeats 4000000
set_option exponentiation.threshold 10000
namespace T3
open PySem L2 FD
local macro_rules | `(tactic| walk_at "fd") => `(tactic| simp only [bodyP, bodyS, bodyR, sSeq, sIf, sNx, sRt, sRtX, sAsgX, sRs, eX, eJs, eJn, dFmt, sAsg, sDr, sPar, sAug, sSp, sOwn, sApp, lDs, eSp, eS, tBl, tTr, tAn, tOo, tNo, eC, eV, eA, eIf, eAn, eOo, eNo, e1, e2, eIxN, FD.peek, aCons, aNil, gNm, gTp, gLs, gCo, gNi, dI, dAddI, dMulI, dAdd, dSub, dMul, dFdiv, dMod, dNeg, dGcd, dMax, dMin, dAbs, dSq, dLen, dEq_int, dNe_int, dIx, oTup, oLst, truD, List.length_cons, List.length_nil, List.map_cons, List.map_nil, List.cons_append, List.nil_append, List.replicate_succ, List.replicate_zero, List.getElem?_cons_zero, List.getElem?_cons_succ, List.set_cons_succ, List.set_cons_zero, Nat.reduceAdd, Nat.reduceSub, Nat.sub_self, if_true, decide_true, decide_false, Bool.not_true, Bool.not_false, Bool.false_eq_true, if_false, reduceCtorEq, *])
/-! ## Euclid -/
def gcdZ (a b : Int) : Int := ((a.natAbs.gcd b.natAbs : Nat) : Int)
theorem fmod_small {a b : Int} (h : b ≠ 0) : (a.fmod b).natAbs < b.natAbs := by
  rcases Int.lt_trichotomy b 0 with z | z | z
  · have e : a.fmod b = -((-a).fmod (-b)) := by rw [Int.neg_fmod_neg]; omega
    have h1 := Int.fmod_nonneg_of_pos (-a) (show 0 < -b by omega)
    have h2 := Int.fmod_lt_of_pos (-a) (show 0 < -b by omega)
    omega
  · exact absurd z h
  · have h1 := Int.fmod_nonneg_of_pos a z
    have h2 := Int.fmod_lt_of_pos a z
    omega
theorem gcd_step (a b : Int) : b.natAbs.gcd (a.fmod b).natAbs = a.natAbs.gcd b.natAbs := by
  have e := Int.fmod_add_mul_fdiv a b
  refine Nat.dvd_antisymm (Nat.dvd_gcd ?_ (Nat.gcd_dvd_left _ _)) (Nat.dvd_gcd (Nat.gcd_dvd_right _ _) ?_)
  · have h1 : ((b.natAbs.gcd (a.fmod b).natAbs : Nat) : Int) ∣ a.fmod b := Int.ofNat_dvd_left.mpr (Nat.gcd_dvd_right _ _)
    have h2 : ((b.natAbs.gcd (a.fmod b).natAbs : Nat) : Int) ∣ b := Int.ofNat_dvd_left.mpr (Nat.gcd_dvd_left _ _)
    have h3 := Int.dvd_add h1 (Int.dvd_trans h2 (Int.dvd_mul_right b (a.fdiv b)))
    rw [e] at h3
    exact Int.ofNat_dvd_left.mp h3
  · have h1 : ((a.natAbs.gcd b.natAbs : Nat) : Int) ∣ a := Int.ofNat_dvd_left.mpr (Nat.gcd_dvd_left _ _)
    have h2 : ((a.natAbs.gcd b.natAbs : Nat) : Int) ∣ b := Int.ofNat_dvd_left.mpr (Nat.gcd_dvd_right _ _)
    have h3 := Int.dvd_sub h1 (Int.dvd_trans h2 (Int.dvd_mul_right b (a.fdiv b)))
    rw [show a - b * a.fdiv b = a.fmod b by omega] at h3
    exact Int.ofNat_dvd_left.mp h3
theorem euclid : ∀ (n : Nat) (a b : Int) (sp : Spl), b.natAbs ≤ n → ∃ g, whN n (tBl (e2 (eV 1) (eC (.int 0)) dNe)) (sPar 0 1 (aCons (eV 1) (aCons (e2 (eV 0) (eV 1) dMod) (aNil)))) ⟨[some (.dat (.int a)), some (.dat (.int b))], sp⟩ = some (.nx ⟨[some (.dat (.int g)), some (.dat (.int 0))], sp⟩) ∧ (if g < 0 then -g else g) = gcdZ a b := by
  intro n
  induction n with
  | zero =>
    intro a b sp h
    obtain rfl : b = 0 := by omega
    refine ⟨a, by simp [whN, tBl, e2, eV, eC, dNe_int], ?_⟩
    unfold gcdZ
    rw [Int.natAbs_zero, Nat.gcd_zero_right]
    split <;> omega
  | succ n ih =>
    intro a b sp h
    by_cases hb : b = 0
    · subst hb
      refine ⟨a, by simp [whN, tBl, e2, eV, eC, dNe_int], ?_⟩
      unfold gcdZ
      rw [Int.natAbs_zero, Nat.gcd_zero_right]
      split <;> omega
    · have hs := fmod_small (a := a) hb
      obtain ⟨g, e, hg⟩ := ih b (a.fmod b) sp (by omega)
      refine ⟨g, ?_, ?_⟩
      · have hb' := beq_f hb
        have hd : decide (b ≠ 0) = true := decide_eq_true hb
        simp only [whN, tBl, e2, eV, eC, dNe_int, hb', Bool.not_false, sPar, aCons, aNil, dMod, hd, if_true, List.getElem?_cons_zero, List.getElem?_cons_succ, List.set_cons_zero, List.set_cons_succ, e]
      · rw [hg]
        unfold gcdZ
        rw [gcd_step]
def b_law_common : SF :=
  sSeq (sWh (fun s => (slI s 1).natAbs) (tBl (e2 (eV 1) (eC (.int 0)) dNe)) (sPar 0 1 (aCons (eV 1) (aCons (e2 (eV 0) (eV 1) dMod) (aNil)))))
  (sRt (eA (aCons (eV 0) (aNil)) dAbs))
def m_law_common : List DV → Option DV
  | [.int a, .int b] => some (.int (gcdZ a b))
  | _ => none
theorem t_law_common : ∀ ds d, m_law_common ds = some d → bodyP 2 2 b_law_common ds = some d := by
  intro ds d h
  unfold m_law_common at h
  split at h
  · rename_i a b
    cases h
    obtain ⟨g, e, hg⟩ := euclid b.natAbs a b spl0 (Nat.le_refl _)
    have hf : (slI ⟨[some (.dat (.int a)), some (.dat (.int b))], spl0⟩ 1).natAbs = b.natAbs := rfl
    unfold b_law_common
    simp only [bodyP, sSeq, sWh, List.length_cons, List.length_nil, Nat.reduceAdd, if_true, List.map_cons, List.map_nil, List.replicate_zero, List.append_nil, Nat.sub_self, hf, e, sRt, eA, aCons, aNil, eV, List.getElem?_cons_zero, dAbs, hg]
  · cases h
/-- in lowest terms, as the law reckons it -/
def lowL (p q d s : Int) : Num := if q = 0 ∨ d = 0 then low p 0 0 s else low p q d s
theorem lowL_eq {p q d s : Int} (h : q = 0 ∨ d ≠ 0) : lowL p q d s = low p q d s := by
  unfold lowL
  by_cases z : q = 0
  · rw [if_pos (.inl z), z]
    unfold low
    rw [if_pos rfl, if_pos rfl]
  · rw [if_neg (fun w => w.elim z (h.resolve_left z))]
def b_law_lowest : SF :=
  sSeq (sIf (tOo (tBl (e2 (eV 1) (eC (.int 0)) dEq)) (tBl (e2 (eV 2) (eC (.int 0)) dEq))) (sAsg (eA (aCons (eC (.int 0)) (aCons (eC (.int 0)) (aNil))) oTup) (gTp 2 (gCo (gNm 1) (gCo (gNm 2) (gNi))))) (sNx))
  (sSeq (sAsg (eA (aCons (eA (aCons (eV 0) (aCons (eV 1) (aNil))) m_law_common) (aCons (eV 3) (aNil))) m_law_common) (gNm 4))
  (sSeq (sAsg (eIf (tBl (e2 (eV 3) (eC (.int 0)) dGt)) (eV 4) (e2 (eC (.int 0)) (eV 4) dSub)) (gNm 4))
  (sRt (eA (aCons (e2 (eV 0) (eV 4) dFdiv) (aCons (e2 (eV 1) (eV 4) dFdiv) (aCons (eV 2) (aCons (e2 (eV 3) (eV 4) dFdiv) (aNil))))) oTup))))
def m_law_lowest : List DV → Option DV
  | [.int p, .int q, .int d, .int s] => if s ≠ 0 ∧ s.natAbs < 2 ^ 8999 then some (nm (lowL p q d s)) else none
  | _ => none
theorem gcdZ_gc (p q s : Int) : gcdZ (gcdZ p q) s = gc p q s := rfl
theorem t_law_lowest : ∀ ds d, m_law_lowest ds = some d → bodyP 4 5 b_law_lowest ds = some d := by
  intro ds d h
  unfold m_law_lowest at h
  split at h
  · rename_i p q e s
    split at h
    · rename_i hs
      obtain ⟨h1, h2⟩ := hs
      cases h
      have c1 : ∀ a b : Int, m_law_common [.int a, .int b] = some (.int (gcdZ a b)) := fun _ _ => rfl
      have hl : (4 : Nat) ≤ sizeLine := by decide
      have hl2 : (2 : Nat) ≤ sizeLine := by decide
      have main : ∀ q' e' : Int, ∃ st, sIf (tOo (tBl (e2 (eV 1) (eC (.int 0)) dEq)) (tBl (e2 (eV 2) (eC (.int 0)) dEq))) (sAsg (eA (aCons (eC (.int 0)) (aCons (eC (.int 0)) (aNil))) oTup) (gTp 2 (gCo (gNm 1) (gCo (gNm 2) (gNi))))) (sNx) ⟨[some (.dat (.int p)), some (.dat (.int q)), some (.dat (.int e)), some (.dat (.int s)), none], spl0⟩ = st := fun _ _ => ⟨_, rfl⟩
      have hsg : ∀ q' : Int, (if 0 < s then gc p q' s else 0 - gc p q' s) = sgc p q' s := by
        intro q'
        unfold sgc
        by_cases z : 0 < s
        · rw [if_pos z, if_neg (by omega)]
        · rw [if_neg z, if_pos (by omega)]; omega
      have hc : ∀ q' : Int, decide (sgc p q' s ≠ 0 ∧ (sgc p q' s).natAbs.log2 < 9000) = true := fun q' => decide_eq_true (div_ok (sgc_ne h1) (Nat.lt_of_le_of_lt (sgc_le h1) h2))
      have hz : (0 : Int).fdiv (sgc p 0 s) = 0 := Int.zero_fdiv _
      clear main
      by_cases hq : q = 0 ∨ e = 0
      · rw [show lowL p q e s = _ from if_pos hq, show low p 0 0 s = _ from if_pos rfl]
        by_cases zq : q = 0
        · have z1 := beq_t zq
          unfold b_law_lowest nm
          by_cases z : 0 < s
          · have hs1 := hsg 0
            rw [if_pos z] at hs1
            have z' : decide (0 < s) = true := decide_eq_true z
            have hc0 := hc 0
            simp only [bodyP, bodyS, bodyR, sSeq, sIf, sNx, sRt, sRtX, sAsgX, sRs, eX, eJs, eJn, dFmt, sAsg, sDr, sPar, sAug, sSp, sOwn, sApp, lDs, eSp, eS, tBl, tTr, tAn, tOo, tNo, eC, eV, eA, eIf, eAn, eOo, eNo, e1, e2, eIxN, FD.peek, aCons, aNil, gNm, gTp, gLs, gCo, gNi, dI, dAddI, dMulI, dAdd, dSub, dMul, dFdiv, dMod, dNeg, dGcd, dMax, dMin, dAbs, dSq, dLen, dEq_int, dNe_int, dIx, oTup, oLst, truD, List.length_cons, List.length_nil, List.map_cons, List.map_nil, List.cons_append, List.nil_append, List.replicate_succ, List.replicate_zero, List.getElem?_cons_zero, List.getElem?_cons_succ, List.set_cons_succ, List.set_cons_zero, Nat.reduceAdd, Nat.reduceSub, Nat.sub_self, if_true, decide_true, decide_false, Bool.not_true, Bool.not_false, Bool.false_eq_true, if_false, reduceCtorEq, z1, hl2, c1, gcdZ_gc, z', hs1, hc0, hl, hz]
          · have hs1 := hsg 0
            rw [if_neg z] at hs1
            have z' : decide (0 < s) = false := decide_eq_false z
            have hc0 := hc 0
            simp only [bodyP, bodyS, bodyR, sSeq, sIf, sNx, sRt, sRtX, sAsgX, sRs, eX, eJs, eJn, dFmt, sAsg, sDr, sPar, sAug, sSp, sOwn, sApp, lDs, eSp, eS, tBl, tTr, tAn, tOo, tNo, eC, eV, eA, eIf, eAn, eOo, eNo, e1, e2, eIxN, FD.peek, aCons, aNil, gNm, gTp, gLs, gCo, gNi, dI, dAddI, dMulI, dAdd, dSub, dMul, dFdiv, dMod, dNeg, dGcd, dMax, dMin, dAbs, dSq, dLen, dEq_int, dNe_int, dIx, oTup, oLst, truD, List.length_cons, List.length_nil, List.map_cons, List.map_nil, List.cons_append, List.nil_append, List.replicate_succ, List.replicate_zero, List.getElem?_cons_zero, List.getElem?_cons_succ, List.set_cons_succ, List.set_cons_zero, Nat.reduceAdd, Nat.reduceSub, Nat.sub_self, if_true, decide_true, decide_false, Bool.not_true, Bool.not_false, Bool.false_eq_true, if_false, reduceCtorEq, z1, hl2, c1, gcdZ_gc, z', hs1, hc0, hl, hz]
        · have z1 := beq_f zq
          have z2 := beq_t (hq.resolve_left zq)
          unfold b_law_lowest nm
          by_cases z : 0 < s
          · have hs1 := hsg 0
            rw [if_pos z] at hs1
            have z' : decide (0 < s) = true := decide_eq_true z
            have hc0 := hc 0
            simp only [bodyP, bodyS, bodyR, sSeq, sIf, sNx, sRt, sRtX, sAsgX, sRs, eX, eJs, eJn, dFmt, sAsg, sDr, sPar, sAug, sSp, sOwn, sApp, lDs, eSp, eS, tBl, tTr, tAn, tOo, tNo, eC, eV, eA, eIf, eAn, eOo, eNo, e1, e2, eIxN, FD.peek, aCons, aNil, gNm, gTp, gLs, gCo, gNi, dI, dAddI, dMulI, dAdd, dSub, dMul, dFdiv, dMod, dNeg, dGcd, dMax, dMin, dAbs, dSq, dLen, dEq_int, dNe_int, dIx, oTup, oLst, truD, List.length_cons, List.length_nil, List.map_cons, List.map_nil, List.cons_append, List.nil_append, List.replicate_succ, List.replicate_zero, List.getElem?_cons_zero, List.getElem?_cons_succ, List.set_cons_succ, List.set_cons_zero, Nat.reduceAdd, Nat.reduceSub, Nat.sub_self, if_true, decide_true, decide_false, Bool.not_true, Bool.not_false, Bool.false_eq_true, if_false, reduceCtorEq, z1, z2, hl2, c1, gcdZ_gc, z', hs1, hc0, hl, hz]
          · have hs1 := hsg 0
            rw [if_neg z] at hs1
            have z' : decide (0 < s) = false := decide_eq_false z
            have hc0 := hc 0
            simp only [bodyP, bodyS, bodyR, sSeq, sIf, sNx, sRt, sRtX, sAsgX, sRs, eX, eJs, eJn, dFmt, sAsg, sDr, sPar, sAug, sSp, sOwn, sApp, lDs, eSp, eS, tBl, tTr, tAn, tOo, tNo, eC, eV, eA, eIf, eAn, eOo, eNo, e1, e2, eIxN, FD.peek, aCons, aNil, gNm, gTp, gLs, gCo, gNi, dI, dAddI, dMulI, dAdd, dSub, dMul, dFdiv, dMod, dNeg, dGcd, dMax, dMin, dAbs, dSq, dLen, dEq_int, dNe_int, dIx, oTup, oLst, truD, List.length_cons, List.length_nil, List.map_cons, List.map_nil, List.cons_append, List.nil_append, List.replicate_succ, List.replicate_zero, List.getElem?_cons_zero, List.getElem?_cons_succ, List.set_cons_succ, List.set_cons_zero, Nat.reduceAdd, Nat.reduceSub, Nat.sub_self, if_true, decide_true, decide_false, Bool.not_true, Bool.not_false, Bool.false_eq_true, if_false, reduceCtorEq, z1, z2, hl2, c1, gcdZ_gc, z', hs1, hc0, hl, hz]
      · have hq1 : q ≠ 0 := fun w => hq (.inl w)
        have hq2 : e ≠ 0 := fun w => hq (.inr w)
        rw [show lowL p q e s = _ from if_neg hq, show low p q e s = _ from if_neg hq1]
        have z1 := beq_f hq1
        have z2 := beq_f hq2
        unfold b_law_lowest nm
        by_cases z : 0 < s
        · have hs1 := hsg q
          rw [if_pos z] at hs1
          have z' : decide (0 < s) = true := decide_eq_true z
          have hc0 := hc q
          simp only [bodyP, bodyS, bodyR, sSeq, sIf, sNx, sRt, sRtX, sAsgX, sRs, eX, eJs, eJn, dFmt, sAsg, sDr, sPar, sAug, sSp, sOwn, sApp, lDs, eSp, eS, tBl, tTr, tAn, tOo, tNo, eC, eV, eA, eIf, eAn, eOo, eNo, e1, e2, eIxN, FD.peek, aCons, aNil, gNm, gTp, gLs, gCo, gNi, dI, dAddI, dMulI, dAdd, dSub, dMul, dFdiv, dMod, dNeg, dGcd, dMax, dMin, dAbs, dSq, dLen, dEq_int, dNe_int, dIx, oTup, oLst, truD, List.length_cons, List.length_nil, List.map_cons, List.map_nil, List.cons_append, List.nil_append, List.replicate_succ, List.replicate_zero, List.getElem?_cons_zero, List.getElem?_cons_succ, List.set_cons_succ, List.set_cons_zero, Nat.reduceAdd, Nat.reduceSub, Nat.sub_self, if_true, decide_true, decide_false, Bool.not_true, Bool.not_false, Bool.false_eq_true, if_false, reduceCtorEq, z1, z2, c1, gcdZ_gc, z', hs1, hc0, hl]
        · have hs1 := hsg q
          rw [if_neg z] at hs1
          have z' : decide (0 < s) = false := decide_eq_false z
          have hc0 := hc q
          simp only [bodyP, bodyS, bodyR, sSeq, sIf, sNx, sRt, sRtX, sAsgX, sRs, eX, eJs, eJn, dFmt, sAsg, sDr, sPar, sAug, sSp, sOwn, sApp, lDs, eSp, eS, tBl, tTr, tAn, tOo, tNo, eC, eV, eA, eIf, eAn, eOo, eNo, e1, e2, eIxN, FD.peek, aCons, aNil, gNm, gTp, gLs, gCo, gNi, dI, dAddI, dMulI, dAdd, dSub, dMul, dFdiv, dMod, dNeg, dGcd, dMax, dMin, dAbs, dSq, dLen, dEq_int, dNe_int, dIx, oTup, oLst, truD, List.length_cons, List.length_nil, List.map_cons, List.map_nil, List.cons_append, List.nil_append, List.replicate_succ, List.replicate_zero, List.getElem?_cons_zero, List.getElem?_cons_succ, List.set_cons_succ, List.set_cons_zero, Nat.reduceAdd, Nat.reduceSub, Nat.sub_self, if_true, decide_true, decide_false, Bool.not_true, Bool.not_false, Bool.false_eq_true, if_false, reduceCtorEq, z1, z2, c1, gcdZ_gc, z', hs1, hc0, hl]
    · cases h
  · cases h
end T3

set_option maxRecDepth 100000
set_option maxHeartbeats 4000000
set_option exponentiation.threshold 10000
namespace T3
open PySem L2 FD
local macro_rules | `(tactic| walk_at "fd") => `(tactic| simp only [bodyP, bodyS, bodyR, sSeq, sIf, sNx, sRt, sRtX, sAsgX, sRs, eX, eJs, eJn, dFmt, sAsg, sDr, sPar, sAug, sSp, sOwn, sApp, lDs, eSp, eS, tBl, tTr, tAn, tOo, tNo, eC, eV, eA, eIf, eAn, eOo, eNo, e1, e2, eIxN, FD.peek, aCons, aNil, gNm, gTp, gLs, gCo, gNi, dI, dAddI, dMulI, dAdd, dSub, dMul, dFdiv, dMod, dNeg, dGcd, dMax, dMin, dAbs, dSq, dLen, dEq_int, dNe_int, dIx, oTup, oLst, truD, List.length_cons, List.length_nil, List.map_cons, List.map_nil, List.cons_append, List.nil_append, List.replicate_succ, List.replicate_zero, List.getElem?_cons_zero, List.getElem?_cons_succ, List.set_cons_succ, List.set_cons_zero, Nat.reduceAdd, Nat.reduceSub, Nat.sub_self, if_true, decide_true, decide_false, Bool.not_true, Bool.not_false, Bool.false_eq_true, if_false, reduceCtorEq, *])
/-! ## the law's own arithmetic -/
def addL (x y : Num) : Num := lowL (x.1 * y.2.2.2 + y.1 * x.2.2.2) (x.2.1 * y.2.2.2 + y.2.1 * x.2.2.2) (rootOf x.2.2.1 y.2.2.1) (x.2.2.2 * y.2.2.2)
def mulL (x y : Num) : Num := lowL (x.1 * y.1 + x.2.1 * y.2.1 * rootOf x.2.2.1 y.2.2.1) (x.1 * y.2.1 + x.2.1 * y.1) (rootOf x.2.2.1 y.2.2.1) (x.2.2.2 * y.2.2.2)
def invL (x : Num) : Num := lowL (x.1 * x.2.2.2) (0 - x.2.1 * x.2.2.2) x.2.2.1 (x.1 * x.1 - x.2.1 * x.2.1 * x.2.2.1)
theorem low_ok {p q d s : Int} (h : s ≠ 0) (h9 : s.natAbs < 2 ^ 8999) : m_law_lowest [.int p, .int q, .int d, .int s] = some (nm (lowL p q d s)) := if_pos ⟨h, h9⟩
def b_law_add : SF :=
  sSeq (sAsg (e2 (e2 (eIxN 0 (eC (.int 0))) (eIxN 1 (eC (.int 3))) dMul) (e2 (eIxN 1 (eC (.int 0))) (eIxN 0 (eC (.int 3))) dMul) dAdd) (gNm 2))
  (sSeq (sAsg (e2 (e2 (eIxN 0 (eC (.int 1))) (eIxN 1 (eC (.int 3))) dMul) (e2 (eIxN 1 (eC (.int 1))) (eIxN 0 (eC (.int 3))) dMul) dAdd) (gNm 3))
  (sRt (eA (aCons (eV 2) (aCons (eV 3) (aCons (eA (aCons (eIxN 0 (eC (.int 2))) (aCons (eIxN 1 (eC (.int 2))) (aNil))) dMax) (aCons (e2 (eIxN 0 (eC (.int 3))) (eIxN 1 (eC (.int 3))) dMul) (aNil))))) m_law_lowest)))
def m_law_add : List DV → Option DV
  | [.tup [.int p, .int q, .int d, .int s], .tup [.int p', .int q', .int d', .int s']] => if okQ (p, q, d, s) (p', q', d', s') then some (nm (addL (p, q, d, s) (p', q', d', s'))) else none
  | _ => none
theorem t_law_add : ∀ ds d, m_law_add ds = some d → bodyP 2 4 b_law_add ds = some d := by
  intro ds d h
  unfold m_law_add at h
  split at h
  · rename_i p q e s p' q' e' s'
    split at h
    · rename_i ok
      obtain ⟨hd, hd', hs, hs', ⟨z1, z2, z3, z4⟩, z5, z6, z7, z8⟩ := ok
      cases h
      have i0 : atI [DV.int p, .int q, .int e, .int s] 0 = some (.int p) := rfl
      have i1 : atI [DV.int p, .int q, .int e, .int s] 1 = some (.int q) := rfl
      have i2 : atI [DV.int p, .int q, .int e, .int s] 2 = some (.int e) := rfl
      have i3 : atI [DV.int p, .int q, .int e, .int s] 3 = some (.int s) := rfl
      have j0 : atI [DV.int p', .int q', .int e', .int s'] 0 = some (.int p') := rfl
      have j1 : atI [DV.int p', .int q', .int e', .int s'] 1 = some (.int q') := rfl
      have j2 : atI [DV.int p', .int q', .int e', .int s'] 2 = some (.int e') := rfl
      have j3 : atI [DV.int p', .int q', .int e', .int s'] 3 = some (.int s') := rfl
      have f1 := fit_of z1 z8
      have f2 := fit_of z5 z4
      have f3 := fit_of z2 z8
      have f4 := fit_of z6 z4
      have f5 := fit_of z4 z8
      have c2 := low_ok (p := p * s' + p' * s) (q := q * s' + q' * s) (d := rootOf e e') (Int.mul_ne_zero hs hs') (lt_up (mul_lt z4 z8))
      clear hd hd' hs hs' z1 z2 z3 z4 z5 z6 z7 z8
      unfold rootOf at c2
      unfold b_law_add addL rootOf
      walk_at "fd"
    · cases h
  · cases h
def b_law_multiply : SF :=
  sSeq (sAsg (eA (aCons (eIxN 0 (eC (.int 2))) (aCons (eIxN 1 (eC (.int 2))) (aNil))) dMax) (gNm 2))
  (sSeq (sAsg (e2 (e2 (eIxN 0 (eC (.int 0))) (eIxN 1 (eC (.int 0))) dMul) (e2 (e2 (eIxN 0 (eC (.int 1))) (eIxN 1 (eC (.int 1))) dMul) (eV 2) dMul) dAdd) (gNm 3))
  (sRt (eA (aCons (eV 3) (aCons (e2 (e2 (eIxN 0 (eC (.int 0))) (eIxN 1 (eC (.int 1))) dMul) (e2 (eIxN 0 (eC (.int 1))) (eIxN 1 (eC (.int 0))) dMul) dAdd) (aCons (eV 2) (aCons (e2 (eIxN 0 (eC (.int 3))) (eIxN 1 (eC (.int 3))) dMul) (aNil))))) m_law_lowest)))
def m_law_multiply : List DV → Option DV
  | [.tup [.int p, .int q, .int d, .int s], .tup [.int p', .int q', .int d', .int s']] => if okQ (p, q, d, s) (p', q', d', s') then some (nm (mulL (p, q, d, s) (p', q', d', s'))) else none
  | _ => none
theorem t_law_multiply : ∀ ds d, m_law_multiply ds = some d → bodyP 2 4 b_law_multiply ds = some d := by
  intro ds d h
  unfold m_law_multiply at h
  split at h
  · rename_i p q e s p' q' e' s'
    split at h
    · rename_i ok
      obtain ⟨hd, hd', hs, hs', ⟨z1, z2, z3, z4⟩, z5, z6, z7, z8⟩ := ok
      cases h
      have i0 : atI [DV.int p, .int q, .int e, .int s] 0 = some (.int p) := rfl
      have i1 : atI [DV.int p, .int q, .int e, .int s] 1 = some (.int q) := rfl
      have i2 : atI [DV.int p, .int q, .int e, .int s] 2 = some (.int e) := rfl
      have i3 : atI [DV.int p, .int q, .int e, .int s] 3 = some (.int s) := rfl
      have j0 : atI [DV.int p', .int q', .int e', .int s'] 0 = some (.int p') := rfl
      have j1 : atI [DV.int p', .int q', .int e', .int s'] 1 = some (.int q') := rfl
      have j2 : atI [DV.int p', .int q', .int e', .int s'] 2 = some (.int e') := rfl
      have j3 : atI [DV.int p', .int q', .int e', .int s'] 3 = some (.int s') := rfl
      have hr : (rootOf e e').natAbs < 2 ^ 40 := by unfold rootOf; split <;> assumption
      have f1 := fit_of z1 z5
      have f2 := fit_of z2 z6
      have f3 := fit_of (mul_lt z2 z6) hr
      have f4 := fit_of z1 z6
      have f5 := fit_of z2 z5
      have f6 := fit_of z4 z8
      have c2 := low_ok (p := p * p' + q * q' * rootOf e e') (q := p * q' + q * p') (d := rootOf e e') (Int.mul_ne_zero hs hs') (lt_up (mul_lt z4 z8))
      clear hd hd' hs hs' z1 z2 z3 z4 z5 z6 z7 z8 hr
      unfold rootOf at c2 f3
      unfold b_law_multiply mulL rootOf
      walk_at "fd"
    · cases h
  · cases h
def b_law_negative : SF :=
  sRt (eA (aCons (e2 (eC (.int 0)) (eIxN 0 (eC (.int 0))) dSub) (aCons (e2 (eC (.int 0)) (eIxN 0 (eC (.int 1))) dSub) (aCons (eIxN 0 (eC (.int 2))) (aCons (eIxN 0 (eC (.int 3))) (aNil))))) oTup)
def m_law_negative : List DV → Option DV
  | [.tup [.int p, .int q, .int d, .int s]] => some (nm (0 - p, 0 - q, d, s))
  | _ => none
theorem t_law_negative : ∀ ds d, m_law_negative ds = some d → bodyP 1 1 b_law_negative ds = some d := by
  intro ds d h
  unfold m_law_negative at h
  split at h
  · rename_i p q e s
    cases h
    have h4 := four_le
    have i0 : atI [DV.int p, .int q, .int e, .int s] 0 = some (.int p) := rfl
    have i1 : atI [DV.int p, .int q, .int e, .int s] 1 = some (.int q) := rfl
    have i2 : atI [DV.int p, .int q, .int e, .int s] 2 = some (.int e) := rfl
    have i3 : atI [DV.int p, .int q, .int e, .int s] 3 = some (.int s) := rfl
    unfold b_law_negative nm
    walk_at "fd"
  · cases h
def b_law_inverse : SF :=
  sSeq (sAsg (eV 0) (gTp 4 (gCo (gNm 1) (gCo (gNm 2) (gCo (gNm 3) (gCo (gNm 4) (gNi)))))))
  (sRt (eA (aCons (e2 (eV 1) (eV 4) dMul) (aCons (e2 (eC (.int 0)) (e2 (eV 2) (eV 4) dMul) dSub) (aCons (eV 3) (aCons (e2 (e2 (eV 1) (eV 1) dMul) (e2 (e2 (eV 2) (eV 2) dMul) (eV 3) dMul) dSub) (aNil))))) m_law_lowest))
def m_law_inverse : List DV → Option DV
  | [.tup [.int p, .int q, .int d, .int s]] => if p * p - q * q * d ≠ 0 ∧ SzN 1900 (p, q, d, s) ∧ d.natAbs < 2 ^ 40 then some (nm (invL (p, q, d, s))) else none
  | _ => none
theorem t_law_inverse : ∀ ds d, m_law_inverse ds = some d → bodyP 1 5 b_law_inverse ds = some d := by
  intro ds d h
  unfold m_law_inverse at h
  split at h
  · rename_i p q e s
    split at h
    · rename_i ok
      obtain ⟨hn, ⟨z1, z2, z3, z4⟩, hd⟩ := ok
      cases h
      have c2 := low_ok (p := p * s) (q := 0 - q * s) (d := e) hn (lt_up (sub_lt (lt_up (mul_lt z1 z1) (b := 3840)) (mul_lt (mul_lt z2 z2) hd)))
      have f1 := fit_of z1 z4
      have f2 := fit_of z2 z4
      have f3 := fit_of z1 z1
      have f4 := fit_of z2 z2
      have f5 := fit_of (mul_lt z2 z2) hd
      clear hn z1 z2 z3 z4 hd
      unfold b_law_inverse invL
      walk_at "fd"
    · cases h
  · cases h
/-! ## drawn numbers -/
def Pl (n : Nat) (s : Spl) : Prop := s.place.natAbs ≤ n
instance (n : Nat) (s : Spl) : Decidable (Pl n s) := by unfold Pl; exact inferInstance
theorem pl_up {n : Nat} {s : Spl} {b : Int} (h : Pl n s) : Pl (n + 1) (upS s b) := by
  unfold Pl at *
  rcases upS_place (s := s) (b := b) with e | e <;> rw [e] <;> omega
theorem c_upto {n : Nat} {s : Spl} {b : Int} (h : Pl n s) (hb : 0 < b) (h9 : b.natAbs < 2 ^ 8999) (hn : n ≤ 1000000 := by decide) : m_law_upto [.int b] s = some (.int (upV s b), upS s b) := by
  refine if_pos ⟨hb, h9, ?_⟩
  unfold Pl at h
  show s.place.natAbs < 2 ^ 90
  omega
theorem choice_at (ds : List DV) (s : Spl) (n : Nat) (hp : Pl n s) (hn : n ≤ 1000000) (h0 : ds ≠ []) (h9 : ds.length ≤ 1000) : ∃ v, m_law_choice [.lst ds] s = some (v, upS s (ds.length : Int)) ∧ v ∈ ds := by
  have hpos : 0 < ds.length := List.length_pos_iff.mpr h0
  have hk : okB s (ds.length : Int) := by
    refine ⟨by omega, ?_, ?_⟩
    · have : (1000 : Nat) < 2 ^ 8999 := Nat.lt_of_lt_of_le (show 1000 < 2 ^ 10 by decide) (Nat.pow_le_pow_right (by decide) (by decide))
      omega
    · unfold Pl at hp
      show s.place.natAbs < 2 ^ 90
      omega
  have hv := upV_lt (s := s) (b := (ds.length : Int)) (by omega)
  have hi : (upV s (ds.length : Int)).toNat < ds.length := by omega
  refine ⟨ds[(upV s (ds.length : Int)).toNat], ?_, List.getElem_mem hi⟩
  unfold m_law_choice
  dsimp only
  rw [if_pos hk, List.getElem?_eq_getElem hi]
  rfl
end T3

set_option maxRecDepth 100000
set_option maxHeartbeats 4000000
set_option exponentiation.threshold 10000
namespace T3
open PySem L2 FD
local macro_rules | `(tactic| walk_at "fd") => `(tactic| simp only [bodyP, bodyS, bodyR, sSeq, sIf, sNx, sRt, sRtX, sAsgX, sRs, eX, eJs, eJn, dFmt, sAsg, sDr, sPar, sAug, sSp, sOwn, sApp, lDs, eSp, eS, tBl, tTr, tAn, tOo, tNo, eC, eV, eA, eIf, eAn, eOo, eNo, e1, e2, eIxN, FD.peek, aCons, aNil, gNm, gTp, gLs, gCo, gNi, dI, dAddI, dMulI, dAdd, dSub, dMul, dFdiv, dMod, dNeg, dGcd, dMax, dMin, dAbs, dSq, dLen, dEq_int, dNe_int, dIx, oTup, oLst, truD, List.length_cons, List.length_nil, List.map_cons, List.map_nil, List.cons_append, List.nil_append, List.replicate_succ, List.replicate_zero, List.getElem?_cons_zero, List.getElem?_cons_succ, List.set_cons_succ, List.set_cons_zero, Nat.reduceAdd, Nat.reduceSub, Nat.sub_self, if_true, decide_true, decide_false, Bool.not_true, Bool.not_false, Bool.false_eq_true, if_false, reduceCtorEq, *])
/-- a number over the root d, in lowest terms -/
structure Good (d : Int) (x : Num) : Prop where
  s0 : 0 < x.2.2.2
  dd : x.2.2.1 = if x.2.1 = 0 then 0 else d
  one : x.1 = 0 → x.2.1 = 0 → x.2.2.2 = 1
  sz : SzN 1000 x
theorem gc_dvd (p q s : Int) : gc p q s ∣ p ∧ gc p q s ∣ q ∧ gc p q s ∣ s := by
  unfold gc
  refine ⟨Int.ofNat_dvd_left.mpr ?_, Int.ofNat_dvd_left.mpr ?_, Int.ofNat_dvd_left.mpr ?_⟩
  · exact Nat.dvd_trans (Nat.gcd_dvd_left _ _) (Nat.gcd_dvd_left _ _)
  · exact Nat.dvd_trans (Nat.gcd_dvd_left _ _) (Nat.gcd_dvd_right _ _)
  · exact Nat.gcd_dvd_right _ _
theorem fdiv_sz {a g : Int} {b : Nat} (hg : g ≠ 0) (hd : g ∣ a) (ha : a.natAbs < 2 ^ b) : (a.fdiv g).natAbs < 2 ^ b := by
  obtain ⟨k, rfl⟩ := hd
  rw [Int.mul_fdiv_cancel_left k hg]
  rw [Int.natAbs_mul] at ha
  have := Nat.le_mul_of_pos_left k.natAbs (show 0 < g.natAbs by omega)
  omega
theorem sgc_dvd (p q s : Int) : sgc p q s ∣ p ∧ sgc p q s ∣ q ∧ sgc p q s ∣ s := by
  obtain ⟨h1, h2, h3⟩ := gc_dvd p q s
  unfold sgc
  split
  · exact ⟨Int.neg_dvd.mpr h1, Int.neg_dvd.mpr h2, Int.neg_dvd.mpr h3⟩
  · exact ⟨h1, h2, h3⟩
theorem fdiv_pos {s : Int} (p q : Int) (h : s ≠ 0) : 0 < s.fdiv (sgc p q s) := by
  obtain ⟨_, _, k, hk⟩ := sgc_dvd p q s
  have hg := sgc_ne (p := p) (q := q) h
  have hp := gc_pos (p := p) (q := q) h
  have hsg : sgc p q s = if s < 0 then -gc p q s else gc p q s := rfl
  have e : s.fdiv (sgc p q s) = k := by
    conv => lhs; arg 1; rw [hk]
    exact Int.mul_fdiv_cancel_left k hg
  rw [e]
  generalize sgc p q s = g at *
  rcases Int.lt_trichotomy k 0 with z | z | z
  · exfalso
    by_cases w : s < 0
    · rw [if_pos w] at hsg
      have := Int.mul_pos_of_neg_of_neg (show g < 0 by omega) z
      omega
    · rw [if_neg w] at hsg
      have := Int.mul_neg_of_pos_of_neg (show 0 < g by omega) z
      omega
  · rw [z] at hk; simp at hk; exact absurd hk h
  · exact z
theorem low_good {p q d s : Int} (hs : s ≠ 0) (hd : d ≠ 0) (hd40 : d.natAbs < 2 ^ 40) (h1 : p.natAbs < 2 ^ 1000) (h2 : q.natAbs < 2 ^ 1000) (h3 : s.natAbs < 2 ^ 1000) : Good d (lowL p q d s) := by
  rw [lowL_eq (.inr hd)]
  have hg := sgc_ne (p := p) (q := q) hs
  obtain ⟨d1, d2, d3⟩ := sgc_dvd p q s
  unfold low
  by_cases hq : q = 0
  · rw [if_pos hq]
    refine ⟨fdiv_pos p q hs, by rw [if_pos rfl], fun h0 _ => ?_, ⟨fdiv_sz hg d1 h1, Nat.two_pow_pos _, Nat.two_pow_pos _, fdiv_sz hg d3 h3⟩⟩
    have hp0 : p = 0 := by
      obtain ⟨k, hk⟩ := d1
      have e : p.fdiv (sgc p q s) = k := by
        conv => lhs; arg 1; rw [hk]
        exact Int.mul_fdiv_cancel_left k hg
      have hk0 : k = 0 := e.symm.trans h0
      rw [hk, hk0, Int.mul_zero]
    show s.fdiv (sgc p q s) = 1
    subst hp0 hq
    have e1 : gc 0 0 s = s.natAbs := by unfold gc; simp
    by_cases w : s < 0
    · have e2 : sgc 0 0 s = s := by unfold sgc; rw [if_pos w, e1]; omega
      rw [e2]; exact Int.fdiv_self hs
    · have e2 : sgc 0 0 s = s := by unfold sgc; rw [if_neg w, e1]; omega
      rw [e2]; exact Int.fdiv_self hs
  · rw [if_neg hq]
    have hb : q.fdiv (sgc p q s) ≠ 0 := by
      obtain ⟨k, hk⟩ := d2
      have e : q.fdiv (sgc p q s) = k := by
        conv => lhs; arg 1; rw [hk]
        exact Int.mul_fdiv_cancel_left k hg
      rw [e]
      intro z
      rw [z, Int.mul_zero] at hk
      exact hq hk
    exact ⟨fdiv_pos p q hs, by rw [if_neg hb], fun _ z => absurd z hb, ⟨fdiv_sz hg d1 h1, fdiv_sz hg d2 h2, lt_up hd40, fdiv_sz hg d3 h3⟩⟩
def b_law_drawn : SF :=
  sSeq (sPar 3 4 (aCons (e2 (eS 0 (aCons (e2 (e2 (eC (.int 2)) (eV 2) dMul) (eC (.int 1)) dAdd) (aNil)) m_law_upto) (eV 2) dSub) (aCons (e2 (eS 0 (aCons (e2 (e2 (eC (.int 2)) (eV 2) dMul) (eC (.int 1)) dAdd) (aNil)) m_law_upto) (eV 2) dSub) (aNil))))
  (sSeq (sAsg (e2 (eC (.int 1)) (eS 0 (aCons (eV 2) (aNil)) m_law_upto) dAdd) (gNm 5))
  (sRt (eA (aCons (eV 3) (aCons (eS 0 (aCons (eA (aCons (eC (.int 0)) (aCons (eV 4) (aCons (eV 4) (aNil)))) oLst) (aNil)) m_law_choice) (aCons (eV 1) (aCons (eV 5) (aNil))))) m_law_lowest)))
def m_law_drawn : List DV → Spl → Option (DV × Spl) := bodyS 3 6 b_law_drawn
theorem t_law_drawn : ∀ ds s d, m_law_drawn ds s = some d → bodyS 3 6 b_law_drawn ds s = some d := fun _ _ _ h => h
theorem drawn_ok {d size : Int} {n : Nat} {sp : Spl} (hp : Pl n sp) (hn : n ≤ 100000) (hd : d ≠ 0) (hd40 : d.natAbs < 2 ^ 40) (s1 : 0 < size) (s2 : size ≤ 10 ^ 26) : ∃ x sp', m_law_drawn [.int d, .int size] sp = some (nm x, sp') ∧ Good d x ∧ Pl (n + 4) sp' := by
  have z1 : size.natAbs < 2 ^ 90 := by omega
  have f1 : fitM 2 size = true := fit_of (a := 2) (by decide) z1
  have c2 : m_law_upto [.int (2 * size + 1)] sp = _ := c_upto hp (by omega) (lt_up (a := 100) (by omega)) (by omega)
  have v2 := upV_lt (s := sp) (b := 2 * size + 1) (by omega)
  have p2 := pl_up (b := 2 * size + 1) hp
  generalize upS sp (2 * size + 1) = sp2 at *
  generalize upV sp (2 * size + 1) = P at *
  have c3 : m_law_upto [.int (2 * size + 1)] sp2 = _ := c_upto p2 (by omega) (lt_up (a := 100) (by omega)) (by omega)
  have v3 := upV_lt (s := sp2) (b := 2 * size + 1) (by omega)
  have p3 := pl_up (b := 2 * size + 1) p2
  generalize upS sp2 (2 * size + 1) = sp3 at *
  generalize upV sp2 (2 * size + 1) = Q at *
  have c4 : m_law_upto [.int size] sp3 = _ := c_upto p3 (by omega) (lt_up (a := 100) (by omega)) (by omega)
  have v4 := upV_lt (s := sp3) (b := size) (by omega)
  have p4 := pl_up (b := size) p3
  generalize upS sp3 size = sp4 at *
  generalize upV sp3 size = T at *
  obtain ⟨v, c5, hv⟩ := choice_at [.int 0, .int (Q - size), .int (Q - size)] sp4 _ p4 (by omega) (by simp) (by simp)
  have c5' : m_law_choice [.lst [.int 0, .int (Q - size), .int (Q - size)]] sp4 = some (v, upS sp4 3) := c5
  clear c5
  obtain ⟨q, rfl, hq⟩ : ∃ q : Int, v = .int q ∧ q.natAbs < 2 ^ 100 := by
    simp only [List.mem_cons, List.not_mem_nil, or_false] at hv
    rcases hv with h | h | h
    · exact ⟨0, h, by decide⟩
    · exact ⟨_, h, by omega⟩
    · exact ⟨_, h, by omega⟩
  clear hv
  have c6 := low_ok (p := P - size) (q := q) (d := d) (s := 1 + T) (by omega) (lt_up (a := 100) (by omega))
  have three : (3 : Nat) ≤ sizeLine := by decide
  have hg : Good d (lowL (P - size) q d (1 + T)) := low_good (by omega) hd hd40 (lt_up (a := 100) (by omega)) (lt_up hq) (lt_up (a := 100) (by omega))
  refine ⟨lowL (P - size) q d (1 + T), upS sp4 3, ?_, hg, pl_up p4⟩
  clear hg hq v2 v3 v4 p2 p3 p4 hp hn hd hd40 s1 s2 z1
  unfold m_law_drawn b_law_drawn
  walk_at "fd"
/-! ## long numbers -/
def b_law_long : SF :=
  sSeq (sAsg (e2 (eC (.int 1)) (eS 0 (aCons (eC (.int 9)) (aNil)) m_law_upto) dAdd) (gNm 1))
  (sSeq (sFr (iRg1 (aCons (e2 (eC (.int 1)) (eS 0 (aCons (eC (.int 16)) (aNil)) m_law_upto) dAdd) (aNil))) (gNm 2) (sAsg (e2 (e2 (eV 1) (e2 (eC (.int 10)) (eC (.int 18)) dPow) dMul) (eS 0 (aCons (e2 (eC (.int 10)) (eC (.int 18)) dPow) (aNil)) m_law_upto) dAdd) (gNm 1)))
  (sRt (eV 1)))
def m_law_long : List DV → Spl → Option (DV × Spl) := bodyS 1 3 b_law_long
theorem t_law_long : ∀ ds s d, m_law_long ds s = some d → bodyS 1 3 b_law_long ds s = some d := fun _ _ _ h => h
theorem long_loop : ∀ (ds : List DV) (found : Int) (x2 : Option SV) (n j : Nat) (sp : Spl), Pl n sp → n + ds.length ≤ 1000000 → 0 < found → found < 2 ^ (4 + 60 * j) → j + ds.length ≤ 16 →
    ∃ v y sp', frN ds (gNm 2) (sAsg (e2 (e2 (eV 1) (e2 (eC (.int 10)) (eC (.int 18)) dPow) dMul) (eS 0 (aCons (e2 (eC (.int 10)) (eC (.int 18)) dPow) (aNil)) m_law_upto) dAdd) (gNm 1)) ⟨[some .spl, some (.dat (.int found)), x2], sp⟩ = some (.nx ⟨[some .spl, some (.dat (.int v)), y], sp'⟩) ∧ 0 < v ∧ v < 2 ^ (4 + 60 * (j + ds.length)) ∧ Pl (n + ds.length) sp'
  | [], found, x2, n, j, sp, hp, _, h0, h1, _ => ⟨found, x2, sp, rfl, h0, h1, hp⟩
  | d :: ds, found, x2, n, j, sp, hp, hn, h0, h1, hj => by
    rw [List.length_cons] at hn hj
    have hpow : decide (0 ≤ (18 : Int) ∧ (18 : Int) ≤ 1000000 ∧ (10 : Int).natAbs < 2 ^ 64) = true := rfl
    have hten : (10 : Int) ^ (Int.toNat 18) = 10 ^ 18 := rfl
    have c1 : m_law_upto [.int (10 ^ 18)] sp = some (.int (upV sp (10 ^ 18)), upS sp (10 ^ 18)) := c_upto hp (by decide) (lt_up (a := 100) (by decide)) (by omega)
    have v1 := upV_lt (s := sp) (b := 10 ^ 18) (by decide)
    have z0 : ((2 ^ (4 + 60 * j) : Nat) : Int) = (2 : Int) ^ (4 + 60 * j) := Int.natCast_pow 2 _
    have z1 : found.natAbs < 2 ^ (4 + 60 * j) := by omega
    have f1 : fitM found (10 ^ 18) = true := fit_of (b := 60) (lt_up z1 (b := 2000) (by omega)) (by decide)
    have nb : found * 10 ^ 18 + upV sp (10 ^ 18) < 2 ^ (4 + 60 * (j + 1)) := by
      have e : (2 : Int) ^ (4 + 60 * (j + 1)) = 2 ^ (4 + 60 * j) * 2 ^ 60 := by rw [← Int.pow_add]; congr 1
      rw [e]
      have h2 : found + 1 ≤ (2 : Int) ^ (4 + 60 * j) := h1
      have h3 := Int.mul_le_mul_of_nonneg_right h2 (show (0 : Int) ≤ 2 ^ 60 by decide)
      have h4 : (found + 1) * 2 ^ 60 = found * 2 ^ 60 + 2 ^ 60 := by rw [Int.add_mul, Int.one_mul]
      have h5 := Int.mul_le_mul_of_nonneg_left (show (10 : Int) ^ 18 ≤ 2 ^ 60 by decide) (show 0 ≤ found by omega)
      have h6 : (10 : Int) ^ 18 ≤ 2 ^ 60 := by decide
      omega
    have pos : 0 < found * 10 ^ 18 + upV sp (10 ^ 18) := by
      have := Int.mul_pos h0 (show (0 : Int) < 10 ^ 18 by decide)
      omega
    obtain ⟨v, y, sp', e, r1, r2, r3⟩ := long_loop ds (found * 10 ^ 18 + upV sp (10 ^ 18)) (some (.dat d)) (n + 1) (j + 1) (upS sp (10 ^ 18)) (pl_up hp) (by omega) pos nb (by omega)
    refine ⟨v, y, sp', ?_, r1, ?_, ?_⟩
    · simp only [frN, gNm, sAsg, e2, eV, eC, eS, aCons, aNil, dPow, hpow, if_true, hten, dMul, f1, c1, dAdd, List.getElem?_cons_zero, List.getElem?_cons_succ, List.set_cons_zero, List.set_cons_succ, e]
    · rw [List.length_cons, show j + (ds.length + 1) = j + 1 + ds.length by omega]; exact r2
    · rw [List.length_cons, show n + (ds.length + 1) = n + 1 + ds.length by omega]; exact r3
theorem pow_int (k : Nat) : ((2 ^ k : Nat) : Int) = (2 : Int) ^ k := Int.natCast_pow 2 _
theorem long_ok {n : Nat} {sp : Spl} (hp : Pl n sp) (hn : n ≤ 100000) : ∃ v sp', m_law_long [] sp = some (.int v, sp') ∧ 0 < v ∧ v.natAbs < 2 ^ 964 ∧ Pl (n + 18) sp' := by
  have c1 : m_law_upto [.int 9] sp = _ := c_upto hp (by decide) (lt_up (a := 10) (by decide)) (by omega)
  have v1 := upV_lt (s := sp) (b := 9) (by decide)
  have p1 := pl_up (b := 9) hp
  generalize upS sp 9 = sp1 at *
  generalize upV sp 9 = A at *
  have c2 : m_law_upto [.int 16] sp1 = _ := c_upto p1 (by decide) (lt_up (a := 10) (by decide)) (by omega)
  have v2 := upV_lt (s := sp1) (b := 16) (by decide)
  have p2 := pl_up (b := 16) p1
  generalize upS sp1 16 = sp2 at *
  generalize upV sp1 16 = B at *
  have hl : (rngD 0 (Int.toNat (1 + B))).length = (1 + B).toNat := by unfold rngD; simp
  have hB : (1 + B).toNat ≤ 16 := by omega
  have hr : inR (1 + B) = true := decide_eq_true (by omega)
  obtain ⟨v, y, sp3, e, r1, r2, r3⟩ := long_loop (rngD 0 (Int.toNat (1 + B))) (1 + A) none (n + 2) 0 sp2 p2 (by omega) (by omega) (by have : (2 : Int) ^ (4 + 60 * 0) = 16 := rfl; omega) (by omega)
  refine ⟨v, sp3, ?_, r1, ?_, ?_⟩
  · clear hp hn v1 v2 p1 p2 hl hB r1 r2 r3
    unfold m_law_long b_law_long
    simp only [bodyP, bodyS, bodyR, sSeq, sIf, sNx, sRt, sRtX, sAsgX, sRs, eX, eJs, eJn, dFmt, sAsg, sDr, sPar, sAug, sSp, sOwn, sApp, lDs, eSp, eS, tBl, tTr, tAn, tOo, tNo, eC, eV, eA, eIf, eAn, eOo, eNo, e1, e2, eIxN, FD.peek, aCons, aNil, gNm, gTp, gLs, gCo, gNi, dI, dAddI, dMulI, dAdd, dSub, dMul, dFdiv, dMod, dNeg, dGcd, dMax, dMin, dAbs, dSq, dLen, dEq_int, dNe_int, dIx, oTup, oLst, truD, List.length_cons, List.length_nil, List.map_cons, List.map_nil, List.cons_append, List.nil_append, List.replicate_succ, List.replicate_zero, List.getElem?_cons_zero, List.getElem?_cons_succ, List.set_cons_succ, List.set_cons_zero, Nat.reduceAdd, Nat.reduceSub, Nat.sub_self, if_true, decide_true, decide_false, Bool.not_true, Bool.not_false, Bool.false_eq_true, if_false, reduceCtorEq, sFr, iRg1, c1, c2, hr, e]
  · have h1 : (2 : Int) ^ (4 + 60 * (0 + (rngD 0 (Int.toNat (1 + B))).length)) ≤ 2 ^ 964 := by
      rw [← pow_int, ← pow_int]
      exact Int.ofNat_le.mpr (Nat.pow_le_pow_right (by decide) (by omega))
    have h2 := pow_int 964
    have h3 : v < ((2 ^ 964 : Nat) : Int) := by rw [h2]; exact Int.lt_of_lt_of_le r2 h1
    omega
  · unfold Pl at *
    omega
def b_law_long_number : SF :=
  sSeq (sAsg (eL (lCp (iRg1 (aCons (eC (.int 2)) (aNil))) 4 (tY) (e2 (eS 0 (aCons (eA (aCons (eC (.int 1)) (aCons (e2 (eC (.int 0)) (eC (.int 1)) dSub) (aNil))) oLst) (aNil)) m_law_choice) (eS 0 (aNil) m_law_long) dMul))) (gLs 2 (gCo (gNm 2) (gCo (gNm 3) (gNi)))))
  (sRt (eA (aCons (eV 2) (aCons (eV 3) (aCons (eV 1) (aCons (eS 0 (aCons (eA (aCons (eC (.int 1)) (aCons (eS 0 (aNil) m_law_long) (aNil))) oLst) (aNil)) m_law_choice) (aNil))))) m_law_lowest))
def m_law_long_number : List DV → Spl → Option (DV × Spl) := bodyS 2 5 b_law_long_number
theorem t_law_long_number : ∀ ds s d, m_law_long_number ds s = some d → bodyS 2 5 b_law_long_number ds s = some d := fun _ _ _ h => h
theorem long_number_ok {d : Int} {n : Nat} {sp : Spl} (hp : Pl n sp) (hn : n ≤ 10000) (hd : d ≠ 0) (hd40 : d.natAbs < 2 ^ 40) : ∃ x sp', m_law_long_number [.int d] sp = some (nm x, sp') ∧ Good d x ∧ Pl (n + 60) sp' := by
  have two : (2 : Nat) ≤ sizeLine := by decide
  have pm : ∀ (m : Nat) (t : Spl), Pl m t → m ≤ 100000 → ∃ w : Int, m_law_choice [.lst [.int 1, .int (0 - 1)]] t = some (.int w, upS t 2) ∧ w.natAbs < 2 ^ 2 := by
    intro m t ht hm
    obtain ⟨v, c, hv⟩ := choice_at [.int 1, .int (0 - 1)] t m ht (by omega) (by simp) (by simp)
    simp only [List.mem_cons, List.not_mem_nil, or_false] at hv
    rcases hv with h | h
    · subst h; exact ⟨1, c, by decide⟩
    · subst h; exact ⟨0 - 1, c, by decide⟩
  obtain ⟨w1, c1, g1⟩ := pm n sp hp (by omega)
  have p1 := pl_up (b := 2) hp
  generalize upS sp 2 = sp1 at *
  obtain ⟨l1, sp2, c2, _, g2, p2⟩ := long_ok p1 (by omega)
  obtain ⟨w2, c3, g3⟩ := pm _ sp2 p2 (by omega)
  have p3 := pl_up (b := 2) p2
  generalize upS sp2 2 = sp3 at *
  obtain ⟨l2, sp4, c4, _, g4, p4⟩ := long_ok p3 (by omega)
  obtain ⟨l3, sp5, c5, pos5, g5, p5⟩ := long_ok p4 (by omega)
  obtain ⟨v, c6, hv⟩ := choice_at [.int 1, .int l3] sp5 _ p5 (by omega) (by simp) (by simp)
  have c6' : m_law_choice [.lst [.int 1, .int l3]] sp5 = some (v, upS sp5 2) := c6
  clear c6
  obtain ⟨s, rfl, hs, hs0⟩ : ∃ s : Int, v = .int s ∧ s.natAbs < 2 ^ 1000 ∧ s ≠ 0 := by
    simp only [List.mem_cons, List.not_mem_nil, or_false] at hv
    rcases hv with h | h
    · exact ⟨1, h, Nat.one_lt_two_pow (by decide), by decide⟩
    · exact ⟨_, h, lt_up g5, by omega⟩
  clear hv
  have f1 := fit_of g1 g2
  have f2 := fit_of g3 g4
  have c7 := low_ok (p := w1 * l1) (q := w2 * l2) (d := d) hs0 (lt_up hs)
  have hg : Good d (lowL (w1 * l1) (w2 * l2) d s) := low_good hs0 hd hd40 (lt_up (mul_lt g1 g2)) (lt_up (mul_lt g3 g4)) hs
  have hr : inR 2 = true := rfl
  have rg : rngD 0 (Int.toNat 2) = [.int 0, .int 1] := rfl
  have z0 : (0 : Nat) < sizeLine := by decide
  have z1 : (1 : Nat) < sizeLine := by decide
  refine ⟨lowL (w1 * l1) (w2 * l2) d s, upS sp5 2, ?_, hg, by have := pl_up (b := 2) p5; unfold Pl at *; omega⟩
  clear hg hs hs0 hp hn hd hd40 p1 p2 p3 p4 p5 g1 g2 g3 g4 g5 pm pos5
  unfold m_law_long_number b_law_long_number
  simp only [bodyP, bodyS, bodyR, sSeq, sIf, sNx, sRt, sRtX, sAsgX, sRs, eX, eJs, eJn, dFmt, sAsg, sDr, sPar, sAug, sSp, sOwn, sApp, lDs, eSp, eS, tBl, tTr, tAn, tOo, tNo, eC, eV, eA, eIf, eAn, eOo, eNo, e1, e2, eIxN, FD.peek, aCons, aNil, gNm, gTp, gLs, gCo, gNi, dI, dAddI, dMulI, dAdd, dSub, dMul, dFdiv, dMod, dNeg, dGcd, dMax, dMin, dAbs, dSq, dLen, dEq_int, dNe_int, dIx, oTup, oLst, truD, List.length_cons, List.length_nil, List.map_cons, List.map_nil, List.cons_append, List.nil_append, List.replicate_succ, List.replicate_zero, List.getElem?_cons_zero, List.getElem?_cons_succ, List.set_cons_succ, List.set_cons_zero, Nat.reduceAdd, Nat.reduceSub, Nat.sub_self, if_true, decide_true, decide_false, Bool.not_true, Bool.not_false, Bool.false_eq_true, if_false, reduceCtorEq, eL, lCp, iRg1, hr, rg, cpN, tY, c1, c2, c3, c4, c5, c6', c7, f1, f2, two, z0, z1]
end T3

set_option maxRecDepth 100000
set_option maxHeartbeats 4000000
set_option exponentiation.threshold 13000
namespace T3
open PySem L2 FD
local macro_rules | `(tactic| walk_at "fd") => `(tactic| simp only [bodyP, bodyS, bodyR, sSeq, sIf, sNx, sRt, sRtX, sAsgX, sRs, eX, eJs, eJn, dFmt, sAsg, sDr, sPar, sAug, sSp, sOwn, sApp, lDs, eSp, eS, tBl, tTr, tAn, tOo, tNo, eC, eV, eA, eIf, eAn, eOo, eNo, e1, e2, eIxN, FD.peek, aCons, aNil, gNm, gTp, gLs, gCo, gNi, dI, dAddI, dMulI, dAdd, dSub, dMul, dFdiv, dMod, dNeg, dGcd, dMax, dMin, dAbs, dSq, dLen, dEq_int, dNe_int, dIx, oTup, oLst, truD, List.length_cons, List.length_nil, List.map_cons, List.map_nil, List.cons_append, List.nil_append, List.replicate_succ, List.replicate_zero, List.getElem?_cons_zero, List.getElem?_cons_succ, List.set_cons_succ, List.set_cons_zero, Nat.reduceAdd, Nat.reduceSub, Nat.sub_self, if_true, decide_true, decide_false, Bool.not_true, Bool.not_false, Bool.false_eq_true, if_false, reduceCtorEq, *])
/-! ## alike -/
theorem ok_of (x : String) : PyData.strOk (Str.ofString x) = true := by
  unfold PyData.strOk
  rw [Str.ofString_eq_toList]
  simp only [List.all_toArray, List.all_map, List.all_eq_true, Function.comp_apply, decide_eq_true_eq]
  intro c _
  have := c.valid
  have h2 : c.val.toNat < 0x110000 := by
    rcases this with h | ⟨_, h⟩ <;> omega
  exact h2
theorem ok_app {x y : Str} (hx : PyData.strOk x = true) (hy : PyData.strOk y = true) : PyData.strOk (x ++ y) = true := by
  unfold PyData.strOk at *
  show (x.cps ++ y.cps).all _ = true
  rw [Array.all_append, hx, hy]
  rfl
theorem ok_join (sep : Str) (hs : PyData.strOk sep = true) : ∀ ts : List Str, (∀ t ∈ ts, PyData.strOk t = true) → PyData.strOk (Str.join sep ts) = true
  | [], _ => by show PyData.strOk Str.empty = true; simp [PyData.strOk, Str.empty]
  | [x], h => h x List.mem_cons_self
  | x :: y :: r, h => by
    show PyData.strOk (x ++ sep ++ Str.join sep (y :: r)) = true
    exact ok_app (ok_app (h x List.mem_cons_self) hs) (ok_join sep hs (y :: r) fun t ht => h t (List.mem_cons_of_mem _ ht))
theorem dEq_str {t : Str} (ht : PyData.strOk t = true) : dEq (.str t) (.str t) = some (.bl true) := by
  have h : toPy (.str t) = some (.str t) := rfl
  unfold dEq
  rw [h]
  have h2 : SeqAt.shaped (.str t) = true := by simp [SeqAt.shaped, PyData.canLay0, PyData.depth, ht]
  have h3 : PyData.eqv (.str t) (.str t) = true := by simp [PyData.eqv]
  simp only [h2, h3, Bool.and_self, if_true]
theorem repr_nm {x : Num} (h : SzN 12000 x) : ∃ t, dReprW [nm x] = some (.str t) ∧ PyData.strOk t = true := by
  obtain ⟨h1, h2, h3, h4⟩ := h
  have hp : toPy (nm x) = some (.tuple [.int x.1, .int x.2.1, .int x.2.2.1, .int x.2.2.2]) := rfl
  have lg : ∀ n : Int, n.natAbs < 2 ^ 12000 → n.natAbs.log2 < 12900 := fun n hn => by have := log2_lt_of hn; omega
  have ln : ∀ n : Int, n.natAbs < 2 ^ 12000 → (Str.ofString (toString n)).length ≤ 4301 := fun n hn => by
    have e := int_text_length_le10 (k := 4300) (by decide) (lt_pow (lg n hn))
    rw [ofString_length]
    exact e
  have e1 := ln _ h1
  have e2 := ln _ h2
  have e3 := ln _ h3
  have e4 := ln _ h4
  have hw : okW (.tuple [.int x.1, .int x.2.1, .int x.2.2.1, .int x.2.2.2]) = true := by
    simp only [okW, okWs, decide_eq_true (lg _ h1), decide_eq_true (lg _ h2), decide_eq_true (lg _ h3), decide_eq_true (lg _ h4), Bool.and_self]
  have hd : decide (PyData.depth (.tuple [.int x.1, .int x.2.1, .int x.2.2.1, .int x.2.2.2]) ≤ 64) = true := rfl
  have hl : decide ((PyData.shown (.tuple [.int x.1, .int x.2.1, .int x.2.2.1, .int x.2.2.2])).length ≤ sizeLine) = true := by
    refine decide_eq_true ?_
    show (tupleText [Str.ofString (toString x.1), Str.ofString (toString x.2.1), Str.ofString (toString x.2.2.1), Str.ofString (toString x.2.2.2)]).length ≤ sizeLine
    have hj := join_length_add [Str.ofString (toString x.1), Str.ofString (toString x.2.1), Str.ofString (toString x.2.2.1), Str.ofString (toString x.2.2.2)] (by simp)
    simp only [piled_cons, piled_nil] at hj
    unfold tupleText
    rw [strLen_append, strLen_append, sizeLine_eq]
    have q1 : (("(" : String) : Str).length = 1 := rfl
    have q2 : ∀ b : Bool, (Str.ofString (if b = true then ",)" else ")")).length ≤ 2 := by intro b; cases b <;> decide
    have q3 := q2 ([Str.ofString (toString x.1), Str.ofString (toString x.2.1), Str.ofString (toString x.2.2.1), Str.ofString (toString x.2.2.2)].length == 1)
    have q4 : (Str.ofString "(").length = 1 := rfl
    omega
  refine ⟨PyData.shown (.tuple [.int x.1, .int x.2.1, .int x.2.2.1, .int x.2.2.2]), ?_, ?_⟩
  rotate_left
  · show PyData.strOk (tupleText [Str.ofString (toString x.1), Str.ofString (toString x.2.1), Str.ofString (toString x.2.2.1), Str.ofString (toString x.2.2.2)]) = true
    unfold tupleText
    refine ok_app (ok_app (ok_of "(") (ok_join _ (ok_of ", ") _ ?_)) (ok_of _)
    intro t ht
    simp only [List.mem_cons, List.not_mem_nil, or_false] at ht
    rcases ht with h | h | h | h <;> subst h <;> exact ok_of _
  unfold dReprW
  simp only [hp]
  unfold okShowW
  simp only [hw, hd, hl, Bool.and_self, if_true]
theorem repr_str {w : Str} (h : (reprText w).length ≤ sizeLine) : dReprW [.str w] = some (.str (reprText w)) := by
  have hp : toPy (.str w) = some (.str w) := rfl
  have hs : PyData.shown (.str w) = reprText w := by simp [PyData.shown]
  have hw : okShowW (.str w) = true := by
    unfold okShowW
    rw [hs, decide_eq_true h]
    simp [okW, PyData.depth]
  unfold dReprW
  simp only [hp, hw, if_true, hs]
def b_law_alike : SF :=
  sRt (e2 (eA (aCons (eV 0) (aNil)) dReprW) (eA (aCons (eV 1) (aNil)) dReprW) dEq)
def m_law_alike : List DV → Option DV := bodyP 2 2 b_law_alike
theorem t_law_alike : ∀ ds d, m_law_alike ds = some d → bodyP 2 2 b_law_alike ds = some d := fun _ _ h => h
theorem alike_of {d : DV} {t : Str} (h : dReprW [d] = some (.str t)) (ht : PyData.strOk t = true) : m_law_alike [d, d] = some (.bl true) := by
  have e := dEq_str ht
  clear ht
  unfold m_law_alike b_law_alike
  walk_at "fd"
theorem alike_zero : m_law_alike [.str "zero", .str "zero"] = some (.bl true) := alike_of (repr_str (by decide +kernel)) (by decide +kernel)
theorem alike_root : m_law_alike [.str "root", .str "root"] = some (.bl true) := alike_of (repr_str (by decide +kernel)) (by decide +kernel)
def b_law_error_kind : SF :=
  sSeq (sAsg (eA (aCons (dIsC [("ZeroDivisor", false), ("OtherRoot", false)] (eV 0)) (aCons (dIsC [("ZeroDivisor", false), ("OtherRoot", false)] (eV 0)) (aCons (dIsC [("ZeroDivisor", false), ("OtherRoot", false)] (eV 0)) (aNil)))) oLst) (gNm 1))
  (sSeq (sAsg (e2 (eV 1) (eA (aCons (dIsC [("ZeroDivisor", true), ("OtherRoot", false)] (eV 0)) (aCons (dIsC [("ZeroDivisor", false), ("OtherRoot", true)] (eV 0)) (aCons (dIsC [("ZeroDivisor", false), ("OtherRoot", false)] (eV 0)) (aNil)))) oLst) dAdd) (gNm 1))
  (sSeq (sAsg (e2 (eV 1) (eA (aCons (dIsC [("ZeroDivisor", false), ("OtherRoot", false)] (eV 0)) (aCons (dIsC [("ZeroDivisor", false), ("OtherRoot", false)] (eV 0)) (aCons (dIsC [("ZeroDivisor", false), ("OtherRoot", false)] (eV 0)) (aNil)))) oLst) dAdd) (gNm 1))
  (sSeq (sAsg (e2 (eV 1) (eA (aCons (dIsC [("ZeroDivisor", false), ("OtherRoot", false)] (eV 0)) (aCons (dIsC [("ZeroDivisor", false), ("OtherRoot", false)] (eV 0)) (aNil))) oLst) dAdd) (gNm 1))
  (sSeq (sIf (tOo (tBl (e2 (e1 (eV 1) dBcount) (eC (.int 1)) dNe)) (tNo (tTr (dIsC [("ZeroDivisor", true), ("OtherRoot", true)] (eV 0))))) (sRt (eC (.str "odd"))) (sNx))
  (sSeq (sAsg (eA (aCons (eC (.str "syntax")) (aCons (eC (.str "many")) (aCons (eC (.str "number")) (aCons (eC (.str "zero")) (aCons (eC (.str "root")) (aCons (eC (.str "variable")) (aCons (eC (.str "range")) (aCons (eC (.str "differ")) (aCons (eC (.str "reached")) (aCons (eC (.str "mark")) (aCons (eC (.str "command")) (aNil)))))))))))) oLst) (gNm 2))
  (sRt (eIxN 2 (e1 (eV 1) dBindex))))))))
def m_law_error_kind : List DV → Option DV := bodyP 1 3 b_law_error_kind
theorem t_law_error_kind : ∀ ds d, m_law_error_kind ds = some d → bodyP 1 3 b_law_error_kind ds = some d := fun _ _ h => h
theorem kind_zero : m_law_error_kind [.exc "ZeroDivisor"] = some (.str "zero") := rfl
theorem kind_root : m_law_error_kind [.exc "OtherRoot"] = some (.str "root") := rfl
/-! ## what is answered -/
def b_law_result : SF :=
  sSeq (sAsg (eA (aCons (eC .non) (aCons (eC .non) (aNil))) oTup) (gTp 2 (gCo (gNm 3) (gCo (gNm 4) (gNi)))))
  (sSeq (sTry ["ZeroDivisor", "OtherRoot"] 5 4 (sIf (tBl (e2 (eV 0) (eC (.int 0)) dEq)) (sAsgX (eX (aCons (eV 1) (aCons (eV 2) (aNil))) m_plus) 3) (sIf (tBl (e2 (eV 0) (eC (.int 1)) dEq)) (sAsgX (eX (aCons (eV 1) (aCons (eV 2) (aNil))) m_minus) 3) (sIf (tBl (e2 (eV 0) (eC (.int 2)) dEq)) (sAsgX (eX (aCons (eV 1) (aCons (eV 2) (aNil))) m_times) 3) (sAsgX (eX (aCons (eV 1) (aCons (eV 2) (aNil))) m_over) 3)))))
  (sRt (eIf (tBl (e2 (eV 4) (eC .non) dIsN)) (eV 3) (eA (aCons (eV 4) (aNil)) m_law_error_kind))))
def m_law_result : List DV → Option DV := bodyP 3 6 b_law_result
theorem t_law_result : ∀ ds d, m_law_result ds = some d → bodyP 3 6 b_law_result ds = some d := fun _ _ h => h
def told : Rz → DV
  | .ok d => d
  | .er c => if c = "ZeroDivisor" then .str "zero" else .str "root"
def way (w : Int) (x y : DV) : Option Rz := if w = 0 then m_plus [x, y] else if w = 1 then m_minus [x, y] else if w = 2 then m_times [x, y] else m_over [x, y]
theorem isN_nm (x : Num) : dIsN (nm x) .non = some (.bl false) := rfl
theorem result_ok {w : Int} {x y : DV} {z : Num} (h : way w x y = some (.ok (nm z))) : m_law_result [.int w, x, y] = some (nm z) := by
  have i0 : dIsN .non .non = some (.bl true) := rfl
  have two := two_le
  have tw : ([DV.non, DV.non] : List DV).length = 2 := rfl
  unfold way at h
  unfold m_law_result b_law_result
  by_cases h0 : w = 0
  · have h0' := beq_t h0
    rw [if_pos h0] at h
    clear h0
    simp only [bodyP, bodyS, bodyR, sSeq, sIf, sNx, sRt, sRtX, sAsgX, sRs, eX, eJs, eJn, dFmt, sAsg, sDr, sPar, sAug, sSp, sOwn, sApp, lDs, eSp, eS, tBl, tTr, tAn, tOo, tNo, eC, eV, eA, eIf, eAn, eOo, eNo, e1, e2, eIxN, FD.peek, aCons, aNil, gNm, gTp, gLs, gCo, gNi, dI, dAddI, dMulI, dAdd, dSub, dMul, dFdiv, dMod, dNeg, dGcd, dMax, dMin, dAbs, dSq, dLen, dEq_int, dNe_int, dIx, oTup, oLst, truD, List.length_cons, List.length_nil, List.map_cons, List.map_nil, List.cons_append, List.nil_append, List.replicate_succ, List.replicate_zero, List.getElem?_cons_zero, List.getElem?_cons_succ, List.set_cons_succ, List.set_cons_zero, Nat.reduceAdd, Nat.reduceSub, Nat.sub_self, if_true, decide_true, decide_false, Bool.not_true, Bool.not_false, Bool.false_eq_true, if_false, reduceCtorEq, sTry, dEq_int, h0', h, i0, two]
  · have h0' := beq_f h0
    rw [if_neg h0] at h
    by_cases h1 : w = 1
    · have h1' := beq_t h1
      rw [if_pos h1] at h
      clear h0 h1
      simp only [bodyP, bodyS, bodyR, sSeq, sIf, sNx, sRt, sRtX, sAsgX, sRs, eX, eJs, eJn, dFmt, sAsg, sDr, sPar, sAug, sSp, sOwn, sApp, lDs, eSp, eS, tBl, tTr, tAn, tOo, tNo, eC, eV, eA, eIf, eAn, eOo, eNo, e1, e2, eIxN, FD.peek, aCons, aNil, gNm, gTp, gLs, gCo, gNi, dI, dAddI, dMulI, dAdd, dSub, dMul, dFdiv, dMod, dNeg, dGcd, dMax, dMin, dAbs, dSq, dLen, dEq_int, dNe_int, dIx, oTup, oLst, truD, List.length_cons, List.length_nil, List.map_cons, List.map_nil, List.cons_append, List.nil_append, List.replicate_succ, List.replicate_zero, List.getElem?_cons_zero, List.getElem?_cons_succ, List.set_cons_succ, List.set_cons_zero, Nat.reduceAdd, Nat.reduceSub, Nat.sub_self, if_true, decide_true, decide_false, Bool.not_true, Bool.not_false, Bool.false_eq_true, if_false, reduceCtorEq, sTry, dEq_int, h0', h1', h, i0, two]
    · have h1' := beq_f h1
      rw [if_neg h1] at h
      by_cases h2 : w = 2
      · have h2' := beq_t h2
        rw [if_pos h2] at h
        clear h0 h1 h2
        simp only [bodyP, bodyS, bodyR, sSeq, sIf, sNx, sRt, sRtX, sAsgX, sRs, eX, eJs, eJn, dFmt, sAsg, sDr, sPar, sAug, sSp, sOwn, sApp, lDs, eSp, eS, tBl, tTr, tAn, tOo, tNo, eC, eV, eA, eIf, eAn, eOo, eNo, e1, e2, eIxN, FD.peek, aCons, aNil, gNm, gTp, gLs, gCo, gNi, dI, dAddI, dMulI, dAdd, dSub, dMul, dFdiv, dMod, dNeg, dGcd, dMax, dMin, dAbs, dSq, dLen, dEq_int, dNe_int, dIx, oTup, oLst, truD, List.length_cons, List.length_nil, List.map_cons, List.map_nil, List.cons_append, List.nil_append, List.replicate_succ, List.replicate_zero, List.getElem?_cons_zero, List.getElem?_cons_succ, List.set_cons_succ, List.set_cons_zero, Nat.reduceAdd, Nat.reduceSub, Nat.sub_self, if_true, decide_true, decide_false, Bool.not_true, Bool.not_false, Bool.false_eq_true, if_false, reduceCtorEq, sTry, dEq_int, h0', h1', h2', h, i0, two]
      · have h2' := beq_f h2
        rw [if_neg h2] at h
        clear h0 h1 h2
        simp only [bodyP, bodyS, bodyR, sSeq, sIf, sNx, sRt, sRtX, sAsgX, sRs, eX, eJs, eJn, dFmt, sAsg, sDr, sPar, sAug, sSp, sOwn, sApp, lDs, eSp, eS, tBl, tTr, tAn, tOo, tNo, eC, eV, eA, eIf, eAn, eOo, eNo, e1, e2, eIxN, FD.peek, aCons, aNil, gNm, gTp, gLs, gCo, gNi, dI, dAddI, dMulI, dAdd, dSub, dMul, dFdiv, dMod, dNeg, dGcd, dMax, dMin, dAbs, dSq, dLen, dEq_int, dNe_int, dIx, oTup, oLst, truD, List.length_cons, List.length_nil, List.map_cons, List.map_nil, List.cons_append, List.nil_append, List.replicate_succ, List.replicate_zero, List.getElem?_cons_zero, List.getElem?_cons_succ, List.set_cons_succ, List.set_cons_zero, Nat.reduceAdd, Nat.reduceSub, Nat.sub_self, if_true, decide_true, decide_false, Bool.not_true, Bool.not_false, Bool.false_eq_true, if_false, reduceCtorEq, sTry, dEq_int, h0', h1', h2', h, i0, two]
theorem result_er {w : Int} {x y : DV} {c : Str} {t : DV} (h : way w x y = some (.er c)) (hc : c ∈ (["ZeroDivisor", "OtherRoot"] : List Str)) (hk : m_law_error_kind [.exc c] = some t) : m_law_result [.int w, x, y] = some t := by
  have i0 : dIsN (.exc c) .non = some (.bl false) := rfl
  have two := two_le
  have six : (5 : Nat) < 6 := by decide
  have hcc : (c ∈ (["ZeroDivisor", "OtherRoot"] : List Str) ∧ (5 : Nat) < 6) := ⟨hc, six⟩
  unfold way at h
  unfold m_law_result b_law_result
  by_cases h0 : w = 0
  · have h0' := beq_t h0
    rw [if_pos h0] at h
    clear h0
    simp only [bodyP, bodyS, bodyR, sSeq, sIf, sNx, sRt, sRtX, sAsgX, sRs, eX, eJs, eJn, dFmt, sAsg, sDr, sPar, sAug, sSp, sOwn, sApp, lDs, eSp, eS, tBl, tTr, tAn, tOo, tNo, eC, eV, eA, eIf, eAn, eOo, eNo, e1, e2, eIxN, FD.peek, aCons, aNil, gNm, gTp, gLs, gCo, gNi, dI, dAddI, dMulI, dAdd, dSub, dMul, dFdiv, dMod, dNeg, dGcd, dMax, dMin, dAbs, dSq, dLen, dEq_int, dNe_int, dIx, oTup, oLst, truD, List.length_cons, List.length_nil, List.map_cons, List.map_nil, List.cons_append, List.nil_append, List.replicate_succ, List.replicate_zero, List.getElem?_cons_zero, List.getElem?_cons_succ, List.set_cons_succ, List.set_cons_zero, Nat.reduceAdd, Nat.reduceSub, Nat.sub_self, if_true, decide_true, decide_false, Bool.not_true, Bool.not_false, Bool.false_eq_true, if_false, reduceCtorEq, sTry, dEq_int, h0', h, i0, two, hcc, hk, and_self]
  · have h0' := beq_f h0
    rw [if_neg h0] at h
    by_cases h1 : w = 1
    · have h1' := beq_t h1
      rw [if_pos h1] at h
      clear h0 h1
      simp only [bodyP, bodyS, bodyR, sSeq, sIf, sNx, sRt, sRtX, sAsgX, sRs, eX, eJs, eJn, dFmt, sAsg, sDr, sPar, sAug, sSp, sOwn, sApp, lDs, eSp, eS, tBl, tTr, tAn, tOo, tNo, eC, eV, eA, eIf, eAn, eOo, eNo, e1, e2, eIxN, FD.peek, aCons, aNil, gNm, gTp, gLs, gCo, gNi, dI, dAddI, dMulI, dAdd, dSub, dMul, dFdiv, dMod, dNeg, dGcd, dMax, dMin, dAbs, dSq, dLen, dEq_int, dNe_int, dIx, oTup, oLst, truD, List.length_cons, List.length_nil, List.map_cons, List.map_nil, List.cons_append, List.nil_append, List.replicate_succ, List.replicate_zero, List.getElem?_cons_zero, List.getElem?_cons_succ, List.set_cons_succ, List.set_cons_zero, Nat.reduceAdd, Nat.reduceSub, Nat.sub_self, if_true, decide_true, decide_false, Bool.not_true, Bool.not_false, Bool.false_eq_true, if_false, reduceCtorEq, sTry, dEq_int, h0', h1', h, i0, two, hcc, hk, and_self]
    · have h1' := beq_f h1
      rw [if_neg h1] at h
      by_cases h2 : w = 2
      · have h2' := beq_t h2
        rw [if_pos h2] at h
        clear h0 h1 h2
        simp only [bodyP, bodyS, bodyR, sSeq, sIf, sNx, sRt, sRtX, sAsgX, sRs, eX, eJs, eJn, dFmt, sAsg, sDr, sPar, sAug, sSp, sOwn, sApp, lDs, eSp, eS, tBl, tTr, tAn, tOo, tNo, eC, eV, eA, eIf, eAn, eOo, eNo, e1, e2, eIxN, FD.peek, aCons, aNil, gNm, gTp, gLs, gCo, gNi, dI, dAddI, dMulI, dAdd, dSub, dMul, dFdiv, dMod, dNeg, dGcd, dMax, dMin, dAbs, dSq, dLen, dEq_int, dNe_int, dIx, oTup, oLst, truD, List.length_cons, List.length_nil, List.map_cons, List.map_nil, List.cons_append, List.nil_append, List.replicate_succ, List.replicate_zero, List.getElem?_cons_zero, List.getElem?_cons_succ, List.set_cons_succ, List.set_cons_zero, Nat.reduceAdd, Nat.reduceSub, Nat.sub_self, if_true, decide_true, decide_false, Bool.not_true, Bool.not_false, Bool.false_eq_true, if_false, reduceCtorEq, sTry, dEq_int, h0', h1', h2', h, i0, two, hcc, hk, and_self]
      · have h2' := beq_f h2
        rw [if_neg h2] at h
        clear h0 h1 h2
        simp only [bodyP, bodyS, bodyR, sSeq, sIf, sNx, sRt, sRtX, sAsgX, sRs, eX, eJs, eJn, dFmt, sAsg, sDr, sPar, sAug, sSp, sOwn, sApp, lDs, eSp, eS, tBl, tTr, tAn, tOo, tNo, eC, eV, eA, eIf, eAn, eOo, eNo, e1, e2, eIxN, FD.peek, aCons, aNil, gNm, gTp, gLs, gCo, gNi, dI, dAddI, dMulI, dAdd, dSub, dMul, dFdiv, dMod, dNeg, dGcd, dMax, dMin, dAbs, dSq, dLen, dEq_int, dNe_int, dIx, oTup, oLst, truD, List.length_cons, List.length_nil, List.map_cons, List.map_nil, List.cons_append, List.nil_append, List.replicate_succ, List.replicate_zero, List.getElem?_cons_zero, List.getElem?_cons_succ, List.set_cons_succ, List.set_cons_zero, Nat.reduceAdd, Nat.reduceSub, Nat.sub_self, if_true, decide_true, decide_false, Bool.not_true, Bool.not_false, Bool.false_eq_true, if_false, reduceCtorEq, sTry, dEq_int, h0', h1', h2', h, i0, two, hcc, hk, and_self]
end T3

set_option maxRecDepth 100000
set_option maxHeartbeats 4000000
set_option exponentiation.threshold 13000
namespace T3
open PySem L2 FD
local macro_rules | `(tactic| walk_at "fd") => `(tactic| simp only [bodyP, bodyS, bodyR, sSeq, sIf, sNx, sRt, sRtX, sAsgX, sRs, eX, eJs, eJn, dFmt, sAsg, sDr, sPar, sAug, sSp, sOwn, sApp, lDs, eSp, eS, tBl, tTr, tAn, tOo, tNo, eC, eV, eA, eIf, eAn, eOo, eNo, e1, e2, eIxN, FD.peek, aCons, aNil, gNm, gTp, gLs, gCo, gNi, dI, dAddI, dMulI, dAdd, dSub, dMul, dFdiv, dMod, dNeg, dGcd, dMax, dMin, dAbs, dSq, dLen, dEq_int, dNe_int, dIx, oTup, oLst, truD, List.length_cons, List.length_nil, List.map_cons, List.map_nil, List.cons_append, List.nil_append, List.replicate_succ, List.replicate_zero, List.getElem?_cons_zero, List.getElem?_cons_succ, List.set_cons_succ, List.set_cons_zero, Nat.reduceAdd, Nat.reduceSub, Nat.sub_self, if_true, decide_true, decide_false, Bool.not_true, Bool.not_false, Bool.false_eq_true, if_false, reduceCtorEq, *])
/-! ## what is due -/
theorem dEq_z (p q e s : Int) : dEq (.tup [.int p, .int q, .int e, .int s]) (.tup [.int 0, .int 0, .int 0, .int 1]) = some (.bl (decide ((p, q, e, s) = ((0, 0, 0, 1) : Num)))) := by
  have h : toPy (.tup [.int p, .int q, .int e, .int s]) = some (.tuple [.int p, .int q, .int e, .int s]) := rfl
  have h0 : toPy (.tup [.int 0, .int 0, .int 0, .int 1]) = some (.tuple [.int 0, .int 0, .int 0, .int 1]) := rfl
  have h2 : SeqAt.shaped (.tuple [.int p, .int q, .int e, .int s]) = true := rfl
  have h3 : SeqAt.shaped (.tuple [.int 0, .int 0, .int 0, .int 1]) = true := rfl
  unfold dEq
  simp only [h, h0, h2, h3, Bool.and_self, if_true]
  congr 2
  simp only [PyData.eqv, PyData.eqvAll, Prod.mk.injEq, Bool.and_true]
  by_cases a : p = 0 <;> by_cases b : q = 0 <;> by_cases c : e = 0 <;> by_cases d : s = 1 <;> simp [a, b, c, d]
def b_law_due : SF :=
  sSeq (sIf (tAn (tBl (e2 (eV 0) (eC (.int 3)) dEq)) (tBl (e2 (eV 2) (eA (aCons (eC (.int 0)) (aCons (eC (.int 0)) (aCons (eC (.int 0)) (aCons (eC (.int 1)) (aNil))))) oTup) dEq))) (sRt (eC (.str "zero"))) (sNx))
  (sSeq (sIf (tAn (tBl (e2 (eIxN 1 (eC (.int 2))) (eIxN 2 (eC (.int 2))) dNe)) (tAn (tBl (e2 (eIxN 1 (eC (.int 2))) (eC (.int 0)) dGt)) (tBl (e2 (eIxN 2 (eC (.int 2))) (eC (.int 0)) dGt)))) (sRt (eC (.str "root"))) (sNx))
  (sSeq (sIf (tBl (e2 (eV 0) (eC (.int 2)) dLt)) (sRt (eA (aCons (eV 1) (aCons (eIf (tBl (e2 (eV 0) (eC (.int 0)) dEq)) (eV 2) (eA (aCons (eV 2) (aNil)) m_law_negative)) (aNil))) m_law_add)) (sNx))
  (sRt (eA (aCons (eV 1) (aCons (eIf (tBl (e2 (eV 0) (eC (.int 2)) dEq)) (eV 2) (eA (aCons (eV 2) (aNil)) m_law_inverse)) (aNil))) m_law_multiply))))
def m_law_due : List DV → Option DV := bodyP 3 3 b_law_due
theorem t_law_due : ∀ ds d, m_law_due ds = some d → bodyP 3 3 b_law_due ds = some d := fun _ _ h => h
section
variable {w p q e s p' q' e' s' : Int}
theorem due_zero : m_law_due [.int 3, (.tup [.int p, .int q, .int e, .int s]), .tup [.int 0, .int 0, .int 0, .int 1]] = some (.str "zero") := by
  have h0 := dEq_z 0 0 0 1
  have h1 : decide (((0, 0, 0, 1) : Num) = (0, 0, 0, 1)) = true := rfl
  have h2 : ((3 : Int) == 3) = true := rfl
  have four := four_le
  unfold m_law_due b_law_due
  simp only [bodyP, bodyS, bodyR, sSeq, sIf, sNx, sRt, sRtX, sAsgX, sRs, eX, eJs, eJn, dFmt, sAsg, sDr, sPar, sAug, sSp, sOwn, sApp, lDs, eSp, eS, tBl, tTr, tAn, tOo, tNo, eC, eV, eA, eIf, eAn, eOo, eNo, e1, e2, eIxN, FD.peek, aCons, aNil, gNm, gTp, gLs, gCo, gNi, dI, dAddI, dMulI, dAdd, dSub, dMul, dFdiv, dMod, dNeg, dGcd, dMax, dMin, dAbs, dSq, dLen, dEq_int, dNe_int, dIx, oTup, oLst, truD, List.length_cons, List.length_nil, List.map_cons, List.map_nil, List.cons_append, List.nil_append, List.replicate_succ, List.replicate_zero, List.getElem?_cons_zero, List.getElem?_cons_succ, List.set_cons_succ, List.set_cons_zero, Nat.reduceAdd, Nat.reduceSub, Nat.sub_self, if_true, decide_true, decide_false, Bool.not_true, Bool.not_false, Bool.false_eq_true, if_false, reduceCtorEq, dEq_int, h0, h1, h2, four]
theorem due_first (h : w ≠ 3 ∨ (p', q', e', s') ≠ ((0, 0, 0, 1) : Num)) (sl : List (Option SV)) (sp : Spl) (hw : sl[0]? = some (some (.dat (.int w)))) (hy : sl[2]? = some (some (.dat (.tup [.int p', .int q', .int e', .int s'])))) :
    tAn (tBl (e2 (eV 0) (eC (.int 3)) dEq)) (tBl (e2 (eV 2) (eA (aCons (eC (.int 0)) (aCons (eC (.int 0)) (aCons (eC (.int 0)) (aCons (eC (.int 1)) (aNil))))) oTup) dEq)) ⟨sl, sp⟩ = some (false, ⟨sl, sp⟩) := by
  have four := four_le
  have h0 := dEq_z p' q' e' s'
  by_cases h3 : w = 3
  · have h3' := beq_t h3
    have hz : decide ((p', q', e', s') = ((0, 0, 0, 1) : Num)) = false := decide_eq_false (h.resolve_left (fun z => z h3))
    simp only [tAn, tBl, e2, eV, eC, eA, aCons, aNil, oTup, hw, hy, dEq_int, h3', h0, hz, List.length_cons, List.length_nil, Nat.reduceAdd, four, if_true]
  · have h3' := beq_f h3
    simp only [tAn, tBl, e2, eV, eC, eA, aCons, aNil, oTup, hw, hy, dEq_int, h3']
def posb (a : Int) : Bool := decide (0 < a)
theorem due_rest (h : w ≠ 3 ∨ (p', q', e', s') ≠ ((0, 0, 0, 1) : Num)) (hr : e ≠ e' ∧ 0 < e ∧ 0 < e') : m_law_due [.int w, (.tup [.int p, .int q, .int e, .int s]), (.tup [.int p', .int q', .int e', .int s'])] = some (.str "root") := by
  have h1 := due_first h [some (.dat (.int w)), some (.dat (.tup [.int p, .int q, .int e, .int s])), some (.dat (.tup [.int p', .int q', .int e', .int s']))] spl0 rfl rfl
  have i0 : atI [DV.int p, .int q, .int e, .int s] 2 = some (.int e) := rfl
  have i1 : atI [DV.int p', .int q', .int e', .int s'] 2 = some (.int e') := rfl
  have z1 := beq_f hr.1
  have z2 : decide (0 < e) = true := decide_eq_true hr.2.1
  have z3 : decide (0 < e') = true := decide_eq_true hr.2.2
  unfold m_law_due b_law_due
  simp only [sSeq, bodyP, List.length_cons, List.length_nil, Nat.reduceAdd, if_true, List.map_cons, List.map_nil, List.replicate_zero, List.append_nil, Nat.sub_self, sIf, h1, sNx]
  clear h1
  simp only [bodyP, bodyS, bodyR, sSeq, sIf, sNx, sRt, sRtX, sAsgX, sRs, eX, eJs, eJn, dFmt, sAsg, sDr, sPar, sAug, sSp, sOwn, sApp, lDs, eSp, eS, tBl, tTr, tAn, tOo, tNo, eC, eV, eA, eIf, eAn, eOo, eNo, e1, e2, eIxN, FD.peek, aCons, aNil, gNm, gTp, gLs, gCo, gNi, dI, dAddI, dMulI, dAdd, dSub, dMul, dFdiv, dMod, dNeg, dGcd, dMax, dMin, dAbs, dSq, dLen, dEq_int, dNe_int, dIx, oTup, oLst, truD, List.length_cons, List.length_nil, List.map_cons, List.map_nil, List.cons_append, List.nil_append, List.replicate_succ, List.replicate_zero, List.getElem?_cons_zero, List.getElem?_cons_succ, List.set_cons_succ, List.set_cons_zero, Nat.reduceAdd, Nat.reduceSub, Nat.sub_self, if_true, decide_true, decide_false, Bool.not_true, Bool.not_false, Bool.false_eq_true, if_false, reduceCtorEq, dNe_int, i0, i1, z1, z2, z3]
theorem due_second (hr : ¬ (e ≠ e' ∧ 0 < e ∧ 0 < e')) : tAn (tBl (e2 (eIxN 1 (eC (.int 2))) (eIxN 2 (eC (.int 2))) dNe)) (tAn (tBl (e2 (eIxN 1 (eC (.int 2))) (eC (.int 0)) dGt)) (tBl (e2 (eIxN 2 (eC (.int 2))) (eC (.int 0)) dGt))) ⟨[some (.dat (.int w)), some (.dat (.tup [.int p, .int q, .int e, .int s])), some (.dat (.tup [.int p', .int q', .int e', .int s']))], spl0⟩ = some (false, ⟨[some (.dat (.int w)), some (.dat (.tup [.int p, .int q, .int e, .int s])), some (.dat (.tup [.int p', .int q', .int e', .int s']))], spl0⟩) := by
  have i0 : atI [DV.int p, .int q, .int e, .int s] 2 = some (.int e) := rfl
  have i1 : atI [DV.int p', .int q', .int e', .int s'] 2 = some (.int e') := rfl
  by_cases a : e = e'
  · have z1 := beq_t a
    simp only [tAn, tBl, e2, eIxN, FD.peek, eC, dIx, i0, i1, dNe_int, z1, Bool.not_true, List.getElem?_cons_zero, List.getElem?_cons_succ]
  · have z1 := beq_f a
    by_cases b : 0 < e
    · have z2 : decide (0 < e) = true := decide_eq_true b
      have z3 : decide (0 < e') = false := decide_eq_false fun c => hr ⟨a, b, c⟩
      simp only [tAn, tBl, e2, eIxN, FD.peek, eC, dIx, dI, i0, i1, dNe_int, z1, z2, z3, Bool.not_false, List.getElem?_cons_zero, List.getElem?_cons_succ]
    · have z2 : decide (0 < e) = false := decide_eq_false b
      simp only [tAn, tBl, e2, eIxN, FD.peek, eC, dIx, dI, i0, i1, dNe_int, z1, z2, Bool.not_false, List.getElem?_cons_zero, List.getElem?_cons_succ]
theorem due_val (h : w ≠ 3 ∨ (p', q', e', s') ≠ ((0, 0, 0, 1) : Num)) (hr : ¬ (e ≠ e' ∧ 0 < e ∧ 0 < e')) (hw : w = 0 ∨ w = 1 ∨ w = 2 ∨ w = 3) {v n iv : DV} (hn : m_law_negative [(.tup [.int p', .int q', .int e', .int s'])] = some n)
    (h0 : w = 0 → m_law_add [(.tup [.int p, .int q, .int e, .int s]), (.tup [.int p', .int q', .int e', .int s'])] = some v) (h1 : w = 1 → m_law_add [(.tup [.int p, .int q, .int e, .int s]), n] = some v) (h2 : w = 2 → m_law_multiply [(.tup [.int p, .int q, .int e, .int s]), (.tup [.int p', .int q', .int e', .int s'])] = some v) (h3 : w = 3 → m_law_inverse [(.tup [.int p', .int q', .int e', .int s'])] = some iv ∧ m_law_multiply [(.tup [.int p, .int q, .int e, .int s]), iv] = some v) : m_law_due [.int w, (.tup [.int p, .int q, .int e, .int s]), (.tup [.int p', .int q', .int e', .int s'])] = some v := by
  have k1 := due_first h [some (.dat (.int w)), some (.dat (.tup [.int p, .int q, .int e, .int s])), some (.dat (.tup [.int p', .int q', .int e', .int s']))] spl0 rfl rfl
  have k2 := due_second (w := w) (p := p) (q := q) (s := s) (p' := p') (q' := q') (s' := s') hr
  unfold m_law_due b_law_due
  simp only [sSeq, bodyP, List.length_cons, List.length_nil, Nat.reduceAdd, if_true, List.map_cons, List.map_nil, List.replicate_zero, List.append_nil, Nat.sub_self, sIf, k1, k2, sNx]
  clear k1 k2 h hr
  rcases hw with r | r | r | r <;> subst r
  · have c := h0 rfl
    have d1 : decide ((0 : Int) < 2) = true := rfl
    have d2 : ((0 : Int) == 0) = true := rfl
    simp only [bodyP, bodyS, bodyR, sSeq, sIf, sNx, sRt, sRtX, sAsgX, sRs, eX, eJs, eJn, dFmt, sAsg, sDr, sPar, sAug, sSp, sOwn, sApp, lDs, eSp, eS, tBl, tTr, tAn, tOo, tNo, eC, eV, eA, eIf, eAn, eOo, eNo, e1, e2, eIxN, FD.peek, aCons, aNil, gNm, gTp, gLs, gCo, gNi, dI, dAddI, dMulI, dAdd, dSub, dMul, dFdiv, dMod, dNeg, dGcd, dMax, dMin, dAbs, dSq, dLen, dEq_int, dNe_int, dIx, oTup, oLst, truD, List.length_cons, List.length_nil, List.map_cons, List.map_nil, List.cons_append, List.nil_append, List.replicate_succ, List.replicate_zero, List.getElem?_cons_zero, List.getElem?_cons_succ, List.set_cons_succ, List.set_cons_zero, Nat.reduceAdd, Nat.reduceSub, Nat.sub_self, if_true, decide_true, decide_false, Bool.not_true, Bool.not_false, Bool.false_eq_true, if_false, reduceCtorEq, dEq_int, c, d1, d2]
  · have c := h1 rfl
    have d1 : decide ((1 : Int) < 2) = true := rfl
    have d2 : ((1 : Int) == 0) = false := rfl
    simp only [bodyP, bodyS, bodyR, sSeq, sIf, sNx, sRt, sRtX, sAsgX, sRs, eX, eJs, eJn, dFmt, sAsg, sDr, sPar, sAug, sSp, sOwn, sApp, lDs, eSp, eS, tBl, tTr, tAn, tOo, tNo, eC, eV, eA, eIf, eAn, eOo, eNo, e1, e2, eIxN, FD.peek, aCons, aNil, gNm, gTp, gLs, gCo, gNi, dI, dAddI, dMulI, dAdd, dSub, dMul, dFdiv, dMod, dNeg, dGcd, dMax, dMin, dAbs, dSq, dLen, dEq_int, dNe_int, dIx, oTup, oLst, truD, List.length_cons, List.length_nil, List.map_cons, List.map_nil, List.cons_append, List.nil_append, List.replicate_succ, List.replicate_zero, List.getElem?_cons_zero, List.getElem?_cons_succ, List.set_cons_succ, List.set_cons_zero, Nat.reduceAdd, Nat.reduceSub, Nat.sub_self, if_true, decide_true, decide_false, Bool.not_true, Bool.not_false, Bool.false_eq_true, if_false, reduceCtorEq, dEq_int, hn, c, d1, d2]
  · have c := h2 rfl
    have d1 : decide ((2 : Int) < 2) = false := rfl
    have d2 : ((2 : Int) == 2) = true := rfl
    simp only [bodyP, bodyS, bodyR, sSeq, sIf, sNx, sRt, sRtX, sAsgX, sRs, eX, eJs, eJn, dFmt, sAsg, sDr, sPar, sAug, sSp, sOwn, sApp, lDs, eSp, eS, tBl, tTr, tAn, tOo, tNo, eC, eV, eA, eIf, eAn, eOo, eNo, e1, e2, eIxN, FD.peek, aCons, aNil, gNm, gTp, gLs, gCo, gNi, dI, dAddI, dMulI, dAdd, dSub, dMul, dFdiv, dMod, dNeg, dGcd, dMax, dMin, dAbs, dSq, dLen, dEq_int, dNe_int, dIx, oTup, oLst, truD, List.length_cons, List.length_nil, List.map_cons, List.map_nil, List.cons_append, List.nil_append, List.replicate_succ, List.replicate_zero, List.getElem?_cons_zero, List.getElem?_cons_succ, List.set_cons_succ, List.set_cons_zero, Nat.reduceAdd, Nat.reduceSub, Nat.sub_self, if_true, decide_true, decide_false, Bool.not_true, Bool.not_false, Bool.false_eq_true, if_false, reduceCtorEq, dEq_int, c, d1, d2]
  · obtain ⟨ci, c⟩ := h3 rfl
    have d1 : decide ((3 : Int) < 2) = false := rfl
    have d2 : ((3 : Int) == 2) = false := rfl
    simp only [bodyP, bodyS, bodyR, sSeq, sIf, sNx, sRt, sRtX, sAsgX, sRs, eX, eJs, eJn, dFmt, sAsg, sDr, sPar, sAug, sSp, sOwn, sApp, lDs, eSp, eS, tBl, tTr, tAn, tOo, tNo, eC, eV, eA, eIf, eAn, eOo, eNo, e1, e2, eIxN, FD.peek, aCons, aNil, gNm, gTp, gLs, gCo, gNi, dI, dAddI, dMulI, dAdd, dSub, dMul, dFdiv, dMod, dNeg, dGcd, dMax, dMin, dAbs, dSq, dLen, dEq_int, dNe_int, dIx, oTup, oLst, truD, List.length_cons, List.length_nil, List.map_cons, List.map_nil, List.cons_append, List.nil_append, List.replicate_succ, List.replicate_zero, List.getElem?_cons_zero, List.getElem?_cons_succ, List.set_cons_succ, List.set_cons_zero, Nat.reduceAdd, Nat.reduceSub, Nat.sub_self, if_true, decide_true, decide_false, Bool.not_true, Bool.not_false, Bool.false_eq_true, if_false, reduceCtorEq, dEq_int, ci, c, d1, d2]
end
end T3

set_option maxRecDepth 100000
set_option maxHeartbeats 4000000
set_option exponentiation.threshold 13000
namespace T3
open PySem L2 FD
/-! ## both ways agree -/
structure Nsq (d : Int) : Prop where
  one : 1 < d
  sz : d.natAbs < 2 ^ 40
  irr : ∀ p q : Int, p * p = q * q * d → q = 0
theorem nsq_of {n : Nat} (h0 : 1 < n) (h9 : n < 2 ^ 40) (h : ∀ k : Nat, k * k ≠ n) : Nsq (n : Int) := by
  refine ⟨by omega, by omega, fun p q e => ?_⟩
  have e1 : p.natAbs * p.natAbs = q.natAbs * q.natAbs * n := by
    have := congrArg Int.natAbs e
    rw [Int.natAbs_mul, Int.natAbs_mul, Int.natAbs_mul] at this
    simpa using this
  have d1 : q.natAbs ^ 2 ∣ p.natAbs ^ 2 := ⟨n, by rw [Nat.pow_two, Nat.pow_two]; exact e1⟩
  have d2 : q.natAbs ∣ p.natAbs := (Nat.pow_dvd_pow_iff (by decide)).mp d1
  obtain ⟨k, hk⟩ := d2
  by_cases z : q = 0
  · exact z
  · exfalso
    have zp : 0 < q.natAbs * q.natAbs := Nat.mul_pos (by omega) (by omega)
    refine h k (Nat.eq_of_mul_eq_mul_left zp ?_)
    rw [hk] at e1
    rw [← e1]
    exact (Nat.mul_mul_mul_comm _ _ _ _).symm
structure Ok (x : Num) : Prop where
  s0 : 0 < x.2.2.2
  e0 : 0 ≤ x.2.2.1
  eq0 : x.2.1 = 0 → x.2.2.1 = 0
  ne0 : x.2.1 ≠ 0 → 0 < x.2.2.1
  e40 : x.2.2.1.natAbs < 2 ^ 40
  sz : SzN 1000 x
  zero : x.1 = 0 → x.2.1 = 0 → x = (0, 0, 0, 1)
  norm : ¬ (x.1 = 0 ∧ x.2.1 = 0) → x.1 * x.1 - x.2.1 * x.2.1 * x.2.2.1 ≠ 0
theorem Ok.of {d : Int} {x : Num} (hd : Nsq d) (h : Good d x) : Ok x := by
  obtain ⟨p, q, e, s⟩ := x
  obtain ⟨h1, h2, h3, h4⟩ := h
  have := hd.one
  dsimp only at *
  refine ⟨h1, ?_, fun z => by rw [h2, if_pos z], fun z => ?_, ?_, h4, fun a b => ?_, fun n w => ?_⟩
  · show 0 ≤ e
    rw [h2]; split <;> omega
  · show 0 < e
    rw [h2, if_neg z]; omega
  · show e.natAbs < 2 ^ 40
    rw [h2]
    split
    · exact Nat.two_pow_pos _
    · exact hd.sz
  · dsimp only at a b
    rw [h2, if_pos b, a, b, h3 a b]
  · dsimp only at n w
    by_cases z : q = 0
    · rw [z] at w
      simp at w
      exact n ⟨(Int.mul_eq_zero.mp w).elim id id, z⟩
    · rw [h2, if_neg z] at w
      exact z (hd.irr p q (by omega))
theorem Ok.neg {x : Num} (h : Ok x) : Ok (-x.1, -x.2.1, x.2.2.1, x.2.2.2) where
  s0 := h.s0
  e0 := h.e0
  eq0 := fun z => h.eq0 (by dsimp only at z; omega)
  ne0 := fun z => h.ne0 (by dsimp only at z; omega)
  e40 := h.e40
  sz := by
    obtain ⟨a, b, c, d⟩ := h.sz
    exact ⟨neg_lt a, neg_lt b, c, d⟩
  zero := fun a b => by
    dsimp only at a b
    have := h.zero (by omega) (by omega)
    rw [this]
    rfl
  norm := fun n => by
    dsimp only at n ⊢
    have := h.norm (fun z => n ⟨by omega, by omega⟩)
    rw [Int.neg_mul_neg, Int.neg_mul_neg]
    exact this
theorem Ok.okQ {x y : Num} (hx : Ok x) (hy : Ok y) : okQ x y := by
  have a := hx.s0
  have b := hy.s0
  obtain ⟨x1, x2, x3, x4⟩ := hx.sz
  obtain ⟨y1, y2, y3, y4⟩ := hy.sz
  exact ⟨hx.e40, hy.e40, by omega, by omega, ⟨lt_up x1, lt_up x2, lt_up x3, lt_up x4⟩, lt_up y1, lt_up y2, lt_up y3, lt_up y4⟩
theorem root_ne {x y : Num} (hx : Ok x) (hy : Ok y) (h : x.2.1 ≠ 0 ∨ y.2.1 ≠ 0) : rootOf x.2.2.1 y.2.2.1 ≠ 0 := by
  have a := hx.e0
  have b := hy.e0
  unfold rootOf
  rcases h with h | h
  · have := hx.ne0 h
    split <;> omega
  · have := hy.ne0 h
    split <;> omega
theorem addL_eq {x y : Num} (hx : Ok x) (hy : Ok y) : addL x y = addN x y := by
  refine lowL_eq ?_
  by_cases h : x.2.1 ≠ 0 ∨ y.2.1 ≠ 0
  · exact .inr (root_ne hx hy h)
  · left
    have a : x.2.1 = 0 := Classical.byContradiction fun z => h (.inl z)
    have b : y.2.1 = 0 := Classical.byContradiction fun z => h (.inr z)
    rw [a, b]; simp
theorem mulL_eq {x y : Num} (hx : Ok x) (hr : x.2.1 ≠ 0 ∨ y.2.1 ≠ 0 → rootOf x.2.2.1 y.2.2.1 ≠ 0) : mulL x y = mulN x y := by
  refine lowL_eq ?_
  by_cases h : x.2.1 ≠ 0 ∨ y.2.1 ≠ 0
  · exact .inr (hr h)
  · left
    have a : x.2.1 = 0 := Classical.byContradiction fun z => h (.inl z)
    have b : y.2.1 = 0 := Classical.byContradiction fun z => h (.inr z)
    rw [a, b]; simp
theorem low_sz {p q d s : Int} {b : Nat} (hs : s ≠ 0) (h1 : p.natAbs < 2 ^ b) (h2 : q.natAbs < 2 ^ b) (h3 : d.natAbs < 2 ^ b) (h4 : s.natAbs < 2 ^ b) : SzN b (low p q d s) := by
  have hg := sgc_ne (p := p) (q := q) hs
  obtain ⟨d1, d2, d3⟩ := sgc_dvd p q s
  unfold low
  split
  · exact ⟨fdiv_sz hg d1 h1, Nat.two_pow_pos _, Nat.two_pow_pos _, fdiv_sz hg d3 h4⟩
  · exact ⟨fdiv_sz hg d1 h1, fdiv_sz hg d2 h2, h3, fdiv_sz hg d3 h4⟩
theorem rt_sz {a b : Int} (ha : a.natAbs < 2 ^ 40) (hb : b.natAbs < 2 ^ 40) : (rootOf a b).natAbs < 2 ^ 40 := by
  unfold rootOf
  split <;> assumption
theorem alike_sz {z : Num} {b : Nat} (h : SzN b z) (hb : b ≤ 12000 := by decide) : m_law_alike [nm z, nm z] = some (.bl true) := by
  obtain ⟨t, e, ht⟩ := repr_nm (x := z) ⟨lt_up h.1 hb, lt_up h.2.1 hb, lt_up h.2.2.1 hb, lt_up h.2.2.2 hb⟩
  exact alike_of e ht
theorem add_sz {x y : Num} (hx : Ok x) (hy : Ok y) : SzN 2001 (addN x y) := by
  have a := hx.s0
  have b := hy.s0
  obtain ⟨x1, x2, x3, x4⟩ := hx.sz
  obtain ⟨y1, y2, y3, y4⟩ := hy.sz
  exact low_sz (Int.mul_ne_zero (by omega) (by omega)) (add_lt (mul_lt x1 y4) (mul_lt y1 x4)) (add_lt (mul_lt x2 y4) (mul_lt y2 x4)) (lt_up (rt_sz hx.e40 hy.e40)) (lt_up (mul_lt x4 y4))
theorem mul_sz {x y : Num} {b : Nat} (hx : Ok x) (hs : y.2.2.2 ≠ 0) (hy : SzN b y) (hd : y.2.2.1.natAbs < 2 ^ 40) (hb : b ≤ 4000) : SzN 6000 (mulN x y) := by
  have a := hx.s0
  obtain ⟨x1, x2, x3, x4⟩ := hx.sz
  obtain ⟨y1, y2, y3, y4⟩ := hy
  have r := rt_sz hx.e40 hd
  exact low_sz (Int.mul_ne_zero (by omega) hs) (lt_up (add_lt (lt_up (mul_lt x1 y1) (b := 1000 + b + 40) (by omega)) (mul_lt (mul_lt x2 y2) r)) (by omega)) (lt_up (add_lt (mul_lt x1 y2) (lt_up (mul_lt x2 y1) (b := 1000 + b) (by omega))) (by omega)) (lt_up r) (lt_up (mul_lt x4 y4) (by omega))
theorem inv_eq {y : Num} (hy : Ok y) : invL y = invN y := by
  unfold invL invN
  rw [show (0 : Int) - y.2.1 * y.2.2.2 = -y.2.1 * y.2.2.2 by rw [Int.neg_mul]; omega]
  refine lowL_eq ?_
  by_cases z : y.2.1 = 0
  · left; rw [z]; simp
  · right
    have := hy.ne0 z
    omega
theorem inv_d {y : Num} (hy : Ok y) : (invN y).2.2.1 = y.2.2.1 := by
  unfold invN low
  by_cases z : y.2.1 = 0
  · rw [if_pos (by rw [z]; simp)]
    exact (hy.eq0 z).symm
  · rw [if_neg]
    have := hy.s0
    exact Int.mul_ne_zero (by omega) (by omega)
theorem inv_q {y : Num} (hy : Ok y) (hn : y.1 * y.1 - y.2.1 * y.2.1 * y.2.2.1 ≠ 0) : (invN y).2.1 ≠ 0 → y.2.1 ≠ 0 := by
  intro h z
  apply h
  unfold invN low
  rw [if_pos (by rw [z]; simp)]
theorem inv_s {y : Num} (hn : y.1 * y.1 - y.2.1 * y.2.1 * y.2.2.1 ≠ 0) : (invN y).2.2.2 ≠ 0 := by
  have := fdiv_pos (y.1 * y.2.2.2) (-y.2.1 * y.2.2.2) hn
  unfold invN low
  split <;> (dsimp only; omega)
theorem inv_sz {y : Num} (hy : Ok y) (hn : y.1 * y.1 - y.2.1 * y.2.1 * y.2.2.1 ≠ 0) : SzN 2041 (invN y) := by
  obtain ⟨y1, y2, y3, y4⟩ := hy.sz
  exact low_sz hn (lt_up (mul_lt y1 y4)) (lt_up (mul_lt (neg_lt y2) y4)) (lt_up y3) (sub_lt (lt_up (mul_lt y1 y1) (b := 2040)) (mul_lt (mul_lt y2 y2) hy.e40))
theorem clash_iff {x y : Num} (hx : Ok x) (hy : Ok y) : clash x.2.2.1 y.2.2.1 ↔ (x.2.2.1 ≠ y.2.2.1 ∧ 0 < x.2.2.1 ∧ 0 < y.2.2.1) := by
  have := hx.e0
  have := hy.e0
  unfold clash
  constructor
  · rintro ⟨a, b, c⟩; exact ⟨a, by omega, by omega⟩
  · rintro ⟨a, b, c⟩; exact ⟨a, by omega, by omega⟩
end T3

set_option maxRecDepth 100000
set_option maxHeartbeats 4000000
set_option exponentiation.threshold 13000
namespace T3
open PySem L2 FD
theorem times_ok {x z : Num} (h : okQ x z) : m_times [nm x, nm z] = some (if clash x.2.2.1 z.2.2.1 then .er "OtherRoot" else .ok (nm (mulN x z))) := if_pos h
theorem plus_ok {x z : Num} (h : okQ x z) : m_plus [nm x, nm z] = some (if clash x.2.2.1 z.2.2.1 then .er "OtherRoot" else .ok (nm (addN x z))) := if_pos h
theorem mulL_ok {x z : Num} (h : okQ x z) : m_law_multiply [nm x, nm z] = some (nm (mulL x z)) := if_pos h
theorem addL_ok {x z : Num} (h : okQ x z) : m_law_add [nm x, nm z] = some (nm (addL x z)) := if_pos h
theorem minus_def {x y : Num} : m_minus [nm x, nm y] = m_plus [nm x, nm (-y.1, -y.2.1, y.2.2.1, y.2.2.2)] := rfl
theorem over_def {x y : Num} (h0 : ¬ (y.1 = 0 ∧ y.2.1 = 0)) (hn : y.1 * y.1 - y.2.1 * y.2.1 * y.2.2.1 ≠ 0) (hs : SzN 1900 y) (hd : y.2.2.1.natAbs < 2 ^ 40) : m_over [nm x, nm y] = m_times [nm x, nm (invN y)] := by
  show (if y.1 = 0 ∧ y.2.1 = 0 then some (Rz.er "ZeroDivisor") else if y.1 * y.1 - y.2.1 * y.2.1 * y.2.2.1 ≠ 0 ∧ SzN 1900 y ∧ y.2.2.1.natAbs < 2 ^ 40 then m_times [nm x, nm (invN y)] else none) = _
  rw [if_neg h0, if_pos ⟨hn, hs, hd⟩]
theorem over_zero {x : Num} : m_over [nm x, nm (0, 0, 0, 1)] = some (.er "ZeroDivisor") := rfl
theorem invL_ok {y : Num} (hn : y.1 * y.1 - y.2.1 * y.2.1 * y.2.2.1 ≠ 0) (hs : SzN 1900 y) (hd : y.2.2.1.natAbs < 2 ^ 40) : m_law_inverse [nm y] = some (nm (invL y)) := if_pos ⟨hn, hs, hd⟩
theorem neg_def {y : Num} : m_law_negative [nm y] = some (nm (-y.1, -y.2.1, y.2.2.1, y.2.2.2)) := by
  show some (nm (0 - y.1, 0 - y.2.1, y.2.2.1, y.2.2.2)) = _
  rw [Int.zero_sub, Int.zero_sub]
theorem way_ok {x y : Num} (hx : Ok x) (hy : Ok y) {w : Int} (hw : w = 0 ∨ w = 1 ∨ w = 2 ∨ w = 3) : ∃ v, m_law_result [.int w, nm x, nm y] = some v ∧ m_law_due [.int w, nm x, nm y] = some v ∧ m_law_alike [v, v] = some (.bl true) := by
  have ci := clash_iff hx hy
  have q1 := hx.okQ hy
  have hyn := hy.neg
  have q2 := hx.okQ hyn
  by_cases hz : w = 3 ∧ y = (0, 0, 0, 1)
  · obtain ⟨rfl, rfl⟩ := hz
    refine ⟨.str "zero", ?_, due_zero, alike_zero⟩
    exact result_er (c := "ZeroDivisor") (over_zero (x := x)) (by simp) kind_zero
  have hd0 : w ≠ 3 ∨ y ≠ (0, 0, 0, 1) := by
    by_cases a : w = 3
    · exact .inr fun b => hz ⟨a, b⟩
    · exact .inl a
  have n3 : w = 3 → ¬ (y.1 = 0 ∧ y.2.1 = 0) := fun a b => hz ⟨a, hy.zero b.1 b.2⟩
  have sz19 : SzN 1900 y := ⟨lt_up hy.sz.1, lt_up hy.sz.2.1, lt_up hy.sz.2.2.1, lt_up hy.sz.2.2.2⟩
  -- by the inverse
  have ov : w = 3 → m_over [nm x, nm y] = m_times [nm x, nm (invN y)] ∧ okQ x (invN y) ∧ (invN y).2.2.1 = y.2.2.1 := fun a => by
    have hn := hy.norm (n3 a)
    have hs := inv_sz hy hn
    refine ⟨over_def (n3 a) hn sz19 hy.e40, ⟨q1.1, by rw [inv_d hy]; exact hy.e40, q1.2.2.1, inv_s hn, q1.2.2.2.2.1, ⟨lt_up hs.1, lt_up hs.2.1, lt_up hs.2.2.1, lt_up hs.2.2.2⟩⟩, inv_d hy⟩
  by_cases hc : clash x.2.2.1 y.2.2.1
  · refine ⟨.str "root", ?_, due_rest hd0 (ci.mp hc), alike_root⟩
    refine result_er (c := "OtherRoot") ?_ (by simp) kind_root
    unfold way
    rcases hw with r | r | r | r
    · rw [if_pos r, plus_ok q1, if_pos hc]
    · rw [if_neg (by omega), if_pos r, minus_def, plus_ok q2, if_pos hc]
    · rw [if_neg (by omega), if_neg (by omega), if_pos r, times_ok q1, if_pos hc]
    · obtain ⟨o1, o2, o3⟩ := ov r
      rw [if_neg (by omega), if_neg (by omega), if_neg (by omega), o1, times_ok o2, o3, if_pos hc]
  · have hr : ¬ (x.2.2.1 ≠ y.2.2.1 ∧ 0 < x.2.2.1 ∧ 0 < y.2.2.1) := fun z => hc (ci.mpr z)
    rcases hw with r | r | r | r
    · refine ⟨nm (addN x y), result_ok ?_, ?_, alike_sz (add_sz hx hy)⟩
      · unfold way; rw [if_pos r, plus_ok q1, if_neg hc]
      · exact due_val hd0 hr (.inl r) (iv := .non) neg_def (fun _ => by show m_law_add [nm x, nm y] = _; rw [addL_ok q1, addL_eq hx hy]) (fun z => by omega) (fun z => by omega) (fun z => by omega)
    · refine ⟨nm (addN x (-y.1, -y.2.1, y.2.2.1, y.2.2.2)), result_ok ?_, ?_, alike_sz (add_sz hx hyn)⟩
      · unfold way; rw [if_neg (by omega), if_pos r, minus_def, plus_ok q2, if_neg hc]
      · exact due_val hd0 hr (.inr (.inl r)) (iv := .non) neg_def (fun z => by omega) (fun _ => by show m_law_add [nm x, nm _] = _; rw [addL_ok q2, addL_eq hx hyn]) (fun z => by omega) (fun z => by omega)
    · refine ⟨nm (mulN x y), result_ok ?_, ?_, alike_sz (mul_sz hx q1.2.2.2.1 hy.sz hy.e40 (by decide))⟩
      · unfold way; rw [if_neg (by omega), if_neg (by omega), if_pos r, times_ok q1, if_neg hc]
      · exact due_val hd0 hr (.inr (.inr (.inl r))) (iv := .non) neg_def (fun z => by omega) (fun z => by omega) (fun _ => by show m_law_multiply [nm x, nm y] = _; rw [mulL_ok q1, mulL_eq hx (root_ne hx hy)]) (fun z => by omega)
    · obtain ⟨o1, o2, o3⟩ := ov r
      have hn := hy.norm (n3 r)
      have rn : x.2.1 ≠ 0 ∨ (invN y).2.1 ≠ 0 → rootOf x.2.2.1 (invN y).2.2.1 ≠ 0 := fun h => by
        rw [o3]
        exact root_ne hx hy (h.imp id (inv_q hy hn))
      refine ⟨nm (mulN x (invN y)), result_ok ?_, ?_, alike_sz (mul_sz hx (inv_s hn) (inv_sz hy hn) (by rw [o3]; exact hy.e40) (by decide))⟩
      · unfold way; rw [if_neg (by omega), if_neg (by omega), if_neg (by omega), o1, times_ok o2, o3, if_neg hc]
      · exact due_val hd0 hr (.inr (.inr (.inr r))) (iv := nm (invL y)) neg_def (fun z => by omega) (fun z => by omega) (fun z => by omega) (fun _ => ⟨invL_ok hn sz19 hy.e40, by rw [inv_eq hy]; show m_law_multiply [nm x, nm (invN y)] = _; rw [mulL_ok o2, mulL_eq hx rn]⟩)
end T3

set_option maxRecDepth 100000
set_option maxHeartbeats 8000000
set_option exponentiation.threshold 13000
namespace T3
open PySem L2 FD
def law_cmp : SF := (sIf (tNo (tTr (eA (aCons (eA (aCons (eV 10) (aCons (eV 8) (aCons (eV 9) (aNil)))) m_law_result) (aCons (eA (aCons (eV 10) (aCons (eV 8) (aCons (eV 9) (aNil)))) m_law_due) (aNil))) m_law_alike))) (sRt (eC (.bl false))) (sNx))
def law_turn : SF := sSeq (sAsg (eS 1 (aCons (eA (aCons (eC (.int 2)) (aCons (eC (.int 3)) (aCons (eC (.int 5)) (aCons (eC (.int 6)) (aCons (eC (.int 9999999967)) (aNil)))))) oLst) (aNil)) m_law_choice) (gNm 3))
  (sSeq (sAsg (eS 1 (aCons (eA (aCons (eC (.int 2)) (aCons (eC (.int 4)) (aCons (eC (.int 30)) (aCons (e2 (eC (.int 10)) (eC (.int 25)) dPow) (aNil))))) oLst) (aNil)) m_law_choice) (gNm 4))
  (sSeq (sAsg (eIf (tBl (e2 (eV 2) (eC (.int 4)) dNe)) (eS 1 (aCons (eV 3) (aCons (eV 4) (aNil))) m_law_drawn) (eS 1 (aCons (eV 3) (aNil)) m_law_long_number)) (gNm 5))
  (sSeq (sAsg (eA (aCons (eS 1 (aCons (eV 3) (aCons (eV 4) (aNil))) m_law_drawn) (aCons (eV 5) (aCons (eA (aCons (eV 5) (aNil)) m_law_negative) (aCons (eA (aCons (eC (.int 0)) (aCons (eC (.int 0)) (aCons (eC (.int 0)) (aCons (eC (.int 1)) (aNil))))) oTup) (aCons (eS 1 (aCons (eC (.int 7)) (aCons (eC (.int 3)) (aNil))) m_law_drawn) (aNil)))))) oLst) (gNm 6))
  (sSeq (sAsg (eS 1 (aCons (eV 6) (aNil)) m_law_choice) (gNm 7))
  (sSeq (sFr (iVal (eA (aCons (eA (aCons (eV 5) (aCons (eV 7) (aNil))) oTup) (aCons (eA (aCons (eV 7) (aCons (eV 5) (aNil))) oTup) (aNil))) oLst)) (gTp 2 (gCo (gNm 8) (gCo (gNm 9) (gNi)))) (sFr (iRg1 (aCons (eC (.int 4)) (aNil))) (gNm 10) law_cmp))
  (sIf (tNo (tTr (eA (aCons (eA (aCons (eV 5) (aNil)) m_opposite) (aCons (eA (aCons (eV 5) (aNil)) m_law_negative) (aNil))) m_law_alike))) (sRt (eC (.bl false))) (sNx)))))))
def b_law : SF :=
  sSeq (sFr (iRg1 (aCons (eC (.int 12)) (aNil))) (gNm 2) (sSeq (sAsg (eS 1 (aCons (eA (aCons (eC (.int 2)) (aCons (eC (.int 3)) (aCons (eC (.int 5)) (aCons (eC (.int 6)) (aCons (eC (.int 9999999967)) (aNil)))))) oLst) (aNil)) m_law_choice) (gNm 3))
  (sSeq (sAsg (eS 1 (aCons (eA (aCons (eC (.int 2)) (aCons (eC (.int 4)) (aCons (eC (.int 30)) (aCons (e2 (eC (.int 10)) (eC (.int 25)) dPow) (aNil))))) oLst) (aNil)) m_law_choice) (gNm 4))
  (sSeq (sAsg (eIf (tBl (e2 (eV 2) (eC (.int 4)) dNe)) (eS 1 (aCons (eV 3) (aCons (eV 4) (aNil))) m_law_drawn) (eS 1 (aCons (eV 3) (aNil)) m_law_long_number)) (gNm 5))
  (sSeq (sAsg (eA (aCons (eS 1 (aCons (eV 3) (aCons (eV 4) (aNil))) m_law_drawn) (aCons (eV 5) (aCons (eA (aCons (eV 5) (aNil)) m_law_negative) (aCons (eA (aCons (eC (.int 0)) (aCons (eC (.int 0)) (aCons (eC (.int 0)) (aCons (eC (.int 1)) (aNil))))) oTup) (aCons (eS 1 (aCons (eC (.int 7)) (aCons (eC (.int 3)) (aNil))) m_law_drawn) (aNil)))))) oLst) (gNm 6))
  (sSeq (sAsg (eS 1 (aCons (eV 6) (aNil)) m_law_choice) (gNm 7))
  (sSeq (sFr (iVal (eA (aCons (eA (aCons (eV 5) (aCons (eV 7) (aNil))) oTup) (aCons (eA (aCons (eV 7) (aCons (eV 5) (aNil))) oTup) (aNil))) oLst)) (gTp 2 (gCo (gNm 8) (gCo (gNm 9) (gNi)))) (sFr (iRg1 (aCons (eC (.int 4)) (aNil))) (gNm 10) (sIf (tNo (tTr (eA (aCons (eA (aCons (eV 10) (aCons (eV 8) (aCons (eV 9) (aNil)))) m_law_result) (aCons (eA (aCons (eV 10) (aCons (eV 8) (aCons (eV 9) (aNil)))) m_law_due) (aNil))) m_law_alike))) (sRt (eC (.bl false))) (sNx))))
  (sIf (tNo (tTr (eA (aCons (eA (aCons (eV 5) (aNil)) m_opposite) (aCons (eA (aCons (eV 5) (aNil)) m_law_negative) (aNil))) m_law_alike))) (sRt (eC (.bl false))) (sNx)))))))))
  (sRt (eC (.bl true)))
theorem b_law_eq : b_law = sSeq (sFr (iRg1 (aCons (eC (.int 12)) (aNil))) (gNm 2) law_turn) (sRt (eC (.bl true))) := rfl
theorem seq_nx {a b : SF} {s s1 : S} (h : a s = some (.nx s1)) : sSeq a b s = b s1 := by
  unfold sSeq
  rw [h]
theorem pl_le {m n : Nat} {s : Spl} (h : Pl m s) (hm : m ≤ n) : Pl n s := by unfold Pl at *; omega
theorem cmp_ok {x y : Num} (hx : Ok x) (hy : Ok y) {w : Int} (hw : w = 0 ∨ w = 1 ∨ w = 2 ∨ w = 3) (sp : Spl) (a0 a2 a3 a4 a5 a6 a7 : Option SV) :
    law_cmp ⟨[a0, some .spl, a2, a3, a4, a5, a6, a7, some (.dat (nm x)), some (.dat (nm y)), some (.dat (.int w))], sp⟩ = some (.nx ⟨[a0, some .spl, a2, a3, a4, a5, a6, a7, some (.dat (nm x)), some (.dat (nm y)), some (.dat (.int w))], sp⟩) := by
  obtain ⟨v, h1, h2, h3⟩ := way_ok hx hy hw
  clear hw hx hy
  unfold law_cmp
  simp only [bodyP, bodyS, bodyR, sSeq, sIf, sNx, sRt, sRtX, sAsgX, sRs, eX, eJs, eJn, dFmt, sAsg, sDr, sPar, sAug, sSp, sOwn, sApp, lDs, eSp, eS, tBl, tTr, tAn, tOo, tNo, eC, eV, eA, eIf, eAn, eOo, eNo, e1, e2, eIxN, FD.peek, aCons, aNil, gNm, gTp, gLs, gCo, gNi, dI, dAddI, dMulI, dAdd, dSub, dMul, dFdiv, dMod, dNeg, dGcd, dMax, dMin, dAbs, dSq, dLen, dEq_int, dNe_int, dIx, oTup, oLst, truD, List.length_cons, List.length_nil, List.map_cons, List.map_nil, List.cons_append, List.nil_append, List.replicate_succ, List.replicate_zero, List.getElem?_cons_zero, List.getElem?_cons_succ, List.set_cons_succ, List.set_cons_zero, Nat.reduceAdd, Nat.reduceSub, Nat.sub_self, if_true, decide_true, decide_false, Bool.not_true, Bool.not_false, Bool.false_eq_true, if_false, reduceCtorEq, h1, h2, h3]
theorem cmps_ok {x y : Num} (hx : Ok x) (hy : Ok y) (sp : Spl) (a0 a2 a3 a4 a5 a6 a7 a10 : Option SV) :
    sFr (iRg1 (aCons (eC (.int 4)) (aNil))) (gNm 10) law_cmp ⟨[a0, some .spl, a2, a3, a4, a5, a6, a7, some (.dat (nm x)), some (.dat (nm y)), a10], sp⟩ = some (.nx ⟨[a0, some .spl, a2, a3, a4, a5, a6, a7, some (.dat (nm x)), some (.dat (nm y)), some (.dat (.int 3))], sp⟩) := by
  have hr : inR 4 = true := rfl
  have rg : rngD 0 (Int.toNat 4) = [.int 0, .int 1, .int 2, .int 3] := rfl
  have c0 := cmp_ok hx hy (.inl rfl) sp a0 a2 a3 a4 a5 a6 a7
  have c1 := cmp_ok hx hy (.inr (.inl rfl)) sp a0 a2 a3 a4 a5 a6 a7
  have c2 := cmp_ok hx hy (.inr (.inr (.inl rfl))) sp a0 a2 a3 a4 a5 a6 a7
  have c3 := cmp_ok hx hy (.inr (.inr (.inr rfl))) sp a0 a2 a3 a4 a5 a6 a7
  clear hx hy
  simp only [sFr, iRg1, aCons, aNil, eC, hr, rg, if_true, frN, gNm, List.set_cons_succ, List.set_cons_zero, c0, c1, c2, c3]
theorem zero_ok : Ok (0, 0, 0, 1) where
  s0 := Int.one_pos
  e0 := Int.le_refl 0
  eq0 := fun _ => rfl
  ne0 := fun h => absurd rfl h
  e40 := Nat.two_pow_pos _
  sz := ⟨Nat.two_pow_pos _, Nat.two_pow_pos _, Nat.two_pow_pos _, Nat.one_lt_two_pow (by decide)⟩
  zero := fun _ _ => rfl
  norm := fun h => absurd ⟨rfl, rfl⟩ h
theorem nsq_small {n : Nat} (h0 : 1 < n) (h9 : n < 9) (h : ∀ k : Fin 3, k.val * k.val ≠ n) : Nsq (n : Int) := nsq_of h0 (Nat.lt_trans h9 (by decide)) fun k hk => by
  by_cases z : k < 3
  · exact h ⟨k, z⟩ hk
  · have := Nat.mul_le_mul (show 3 ≤ k by omega) (show 3 ≤ k by omega)
    omega
theorem nsq_big : Nsq 9999999967 := nsq_of (n := 9999999967) (by decide) (by decide) fun k hk => by
  by_cases z : k ≤ 99999
  · have := Nat.mul_le_mul z z
    omega
  · have := Nat.mul_le_mul (show 100000 ≤ k by omega) (show 100000 ≤ k by omega)
    omega
theorem nsq7 : Nsq 7 := nsq_small (n := 7) (by decide) (by decide) (by decide)
theorem turn_ok (n : Nat) (hn : n ≤ 5000) (sp : Spl) (hp : Pl n sp) (t : Int) (a0 a3 a4 a5 a6 a7 a8 a9 a10 : Option SV) :
    ∃ b3 b4 b5 b6 b7 b8 b9 b10 sp', law_turn ⟨[a0, some .spl, some (.dat (.int t)), a3, a4, a5, a6, a7, a8, a9, a10], sp⟩ = some (.nx ⟨[a0, some .spl, some (.dat (.int t)), b3, b4, b5, b6, b7, b8, b9, b10], sp'⟩) ∧ Pl (n + 80) sp' := by
  obtain ⟨v, c1, hv⟩ := choice_at [.int 2, .int 3, .int 5, .int 6, .int 9999999967] sp n hp (by omega) (by simp) (by simp)
  have c1' : m_law_choice [.lst [.int 2, .int 3, .int 5, .int 6, .int 9999999967]] sp = some (v, upS sp 5) := c1
  clear c1
  obtain ⟨d, rfl, hd⟩ : ∃ d : Int, v = .int d ∧ Nsq d := by
    simp only [List.mem_cons, List.not_mem_nil, or_false] at hv
    rcases hv with h | h | h | h | h
    · exact ⟨2, h, nsq_small (n := 2) (by decide) (by decide) (by decide)⟩
    · exact ⟨3, h, nsq_small (n := 3) (by decide) (by decide) (by decide)⟩
    · exact ⟨5, h, nsq_small (n := 5) (by decide) (by decide) (by decide)⟩
    · exact ⟨6, h, nsq_small (n := 6) (by decide) (by decide) (by decide)⟩
    · exact ⟨_, h, nsq_big⟩
  clear hv
  have p1 := pl_up (b := 5) hp
  generalize upS sp 5 = sp1 at *
  obtain ⟨v, c2, hv⟩ := choice_at [.int 2, .int 4, .int 30, .int (10 ^ 25)] sp1 _ p1 (by omega) (by simp) (by simp)
  have c2' : m_law_choice [.lst [.int 2, .int 4, .int 30, .int (10 ^ (Int.toNat 25))]] sp1 = some (v, upS sp1 4) := c2
  clear c2
  obtain ⟨size, rfl, z1, z2⟩ : ∃ z : Int, v = .int z ∧ 0 < z ∧ z ≤ 10 ^ 26 := by
    simp only [List.mem_cons, List.not_mem_nil, or_false] at hv
    rcases hv with h | h | h | h
    · exact ⟨_, h, by decide, by decide⟩
    · exact ⟨_, h, by decide, by decide⟩
    · exact ⟨_, h, by decide, by decide⟩
    · exact ⟨_, h, by decide, by decide⟩
  clear hv
  have p2 := pl_up (b := 4) p1
  generalize upS sp1 4 = sp2 at *
  have hd0 : d ≠ 0 := by have := hd.one; omega
  obtain ⟨x, sp3, c3, gx, p3⟩ : ∃ x sp3, eIf (tBl (e2 (eV 2) (eC (.int 4)) dNe)) (eS 1 (aCons (eV 3) (aCons (eV 4) (aNil))) m_law_drawn) (eS 1 (aCons (eV 3) (aNil)) m_law_long_number) ⟨[a0, some .spl, some (.dat (.int t)), some (.dat (.int d)), some (.dat (.int size)), a5, a6, a7, a8, a9, a10], sp2⟩ = some (nm x, ⟨[a0, some .spl, some (.dat (.int t)), some (.dat (.int d)), some (.dat (.int size)), a5, a6, a7, a8, a9, a10], sp3⟩) ∧ Good d x ∧ Pl (n + 62) sp3 := by
    by_cases ht : t = 4
    · have ht' := beq_t ht
      obtain ⟨x, s3, e, g, p⟩ := long_number_ok p2 (by omega) hd0 hd.sz
      exact ⟨x, s3, by simp only [eIf, tBl, e2, eV, eC, eS, aCons, aNil, dNe_int, ht', Bool.not_true, List.getElem?_cons_zero, List.getElem?_cons_succ, e], g, pl_le p (by omega)⟩
    · have ht' := beq_f ht
      obtain ⟨x, s3, e, g, p⟩ := drawn_ok p2 (by omega) hd0 hd.sz z1 z2
      exact ⟨x, s3, by simp only [eIf, tBl, e2, eV, eC, eS, aCons, aNil, dNe_int, ht', Bool.not_false, List.getElem?_cons_zero, List.getElem?_cons_succ, e], g, pl_le p (by omega)⟩
  have ox := Ok.of hd gx
  obtain ⟨y1, sp4, c4, g4, p4⟩ := drawn_ok (d := d) (size := size) p3 (by omega) hd0 hd.sz z1 z2
  have o4 := Ok.of hd g4
  obtain ⟨y5, sp5, c5, g5, p5⟩ := drawn_ok (d := 7) (size := 3) p4 (by omega) (by decide) nsq7.sz (by decide) (by decide)
  have o5 := Ok.of nsq7 g5
  have cn : m_law_negative [nm x] = some (nm (-x.1, -x.2.1, x.2.2.1, x.2.2.2)) := neg_def
  have co : m_opposite [nm x] = some (nm (-x.1, -x.2.1, x.2.2.1, x.2.2.2)) := rfl
  have ca : m_law_alike [nm (-x.1, -x.2.1, x.2.2.1, x.2.2.2), nm (-x.1, -x.2.1, x.2.2.1, x.2.2.2)] = some (.bl true) := alike_sz (b := 1000) ox.neg.sz
  obtain ⟨v, c6, hv⟩ := choice_at [nm y1, nm x, nm (-x.1, -x.2.1, x.2.2.1, x.2.2.2), .tup [.int 0, .int 0, .int 0, .int 1], nm y5] sp5 _ p5 (by omega) (by simp) (by simp)
  have c6' : m_law_choice [.lst [nm y1, nm x, nm (-x.1, -x.2.1, x.2.2.1, x.2.2.2), .tup [.int 0, .int 0, .int 0, .int 1], nm y5]] sp5 = some (v, upS sp5 5) := c6
  clear c6
  obtain ⟨y, rfl, oy⟩ : ∃ y : Num, v = nm y ∧ Ok y := by
    simp only [List.mem_cons, List.not_mem_nil, or_false] at hv
    rcases hv with h | h | h | h | h
    · exact ⟨_, h, o4⟩
    · exact ⟨_, h, ox⟩
    · exact ⟨_, h, ox.neg⟩
    · exact ⟨(0, 0, 0, 1), h, zero_ok⟩
    · exact ⟨_, h, o5⟩
  clear hv
  have p6 := pl_up (b := 5) p5
  generalize upS sp5 5 = sp6 at *
  have hpow : decide (0 ≤ (25 : Int) ∧ (25 : Int) ≤ 1000000 ∧ (10 : Int).natAbs < 2 ^ 64) = true := rfl
  have k5 : (5 : Nat) ≤ sizeLine := by decide
  have k4 : (4 : Nat) ≤ sizeLine := by decide
  have k2 : (2 : Nat) ≤ sizeLine := by decide
  have e1' := fun a10 => cmps_ok ox oy sp6 a0 (some (.dat (.int t))) (some (.dat (.int d))) (some (.dat (.int size))) (some (.dat (nm x))) (some (.dat (.lst [nm y1, nm x, nm (-x.1, -x.2.1, x.2.2.1, x.2.2.2), .tup [.int 0, .int 0, .int 0, .int 1], nm y5]))) (some (.dat (nm y))) a10
  have e2' := fun a10 => cmps_ok oy ox sp6 a0 (some (.dat (.int t))) (some (.dat (.int d))) (some (.dat (.int size))) (some (.dat (nm x))) (some (.dat (.lst [nm y1, nm x, nm (-x.1, -x.2.1, x.2.2.1, x.2.2.2), .tup [.int 0, .int 0, .int 0, .int 1], nm y5]))) (some (.dat (nm y))) a10
  clear ox o4 o5 oy gx g4 g5 z1 z2 hd hd0 hp p1 p2 p3 p4 p5
  refine ⟨some (.dat (.int d)), some (.dat (.int size)), some (.dat (nm x)), some (.dat (.lst [nm y1, nm x, nm (-x.1, -x.2.1, x.2.2.1, x.2.2.2), .tup [.int 0, .int 0, .int 0, .int 1], nm y5])), some (.dat (nm y)), some (.dat (nm y)), some (.dat (nm x)), some (.dat (.int 3)), sp6, ?_, pl_le p6 (by omega)⟩
  unfold law_turn
  refine (seq_nx (s1 := ⟨[a0, some .spl, some (.dat (.int t)), some (.dat (.int d)), a4, a5, a6, a7, a8, a9, a10], sp1⟩) (by simp only [bodyP, bodyS, bodyR, sSeq, sIf, sNx, sRt, sRtX, sAsgX, sRs, eX, eJs, eJn, dFmt, sAsg, sDr, sPar, sAug, sSp, sOwn, sApp, lDs, eSp, eS, tBl, tTr, tAn, tOo, tNo, eC, eV, eA, eIf, eAn, eOo, eNo, e1, e2, eIxN, FD.peek, aCons, aNil, gNm, gTp, gLs, gCo, gNi, dI, dAddI, dMulI, dAdd, dSub, dMul, dFdiv, dMod, dNeg, dGcd, dMax, dMin, dAbs, dSq, dLen, dEq_int, dNe_int, dIx, oTup, oLst, truD, List.length_cons, List.length_nil, List.map_cons, List.map_nil, List.cons_append, List.nil_append, List.replicate_succ, List.replicate_zero, List.getElem?_cons_zero, List.getElem?_cons_succ, List.set_cons_succ, List.set_cons_zero, Nat.reduceAdd, Nat.reduceSub, Nat.sub_self, if_true, decide_true, decide_false, Bool.not_true, Bool.not_false, Bool.false_eq_true, if_false, reduceCtorEq, c1', k5])).trans ?_
  refine (seq_nx (s1 := ⟨[a0, some .spl, some (.dat (.int t)), some (.dat (.int d)), some (.dat (.int size)), a5, a6, a7, a8, a9, a10], sp2⟩) (by simp only [bodyP, bodyS, bodyR, sSeq, sIf, sNx, sRt, sRtX, sAsgX, sRs, eX, eJs, eJn, dFmt, sAsg, sDr, sPar, sAug, sSp, sOwn, sApp, lDs, eSp, eS, tBl, tTr, tAn, tOo, tNo, eC, eV, eA, eIf, eAn, eOo, eNo, e1, e2, eIxN, FD.peek, aCons, aNil, gNm, gTp, gLs, gCo, gNi, dI, dAddI, dMulI, dAdd, dSub, dMul, dFdiv, dMod, dNeg, dGcd, dMax, dMin, dAbs, dSq, dLen, dEq_int, dNe_int, dIx, oTup, oLst, truD, List.length_cons, List.length_nil, List.map_cons, List.map_nil, List.cons_append, List.nil_append, List.replicate_succ, List.replicate_zero, List.getElem?_cons_zero, List.getElem?_cons_succ, List.set_cons_succ, List.set_cons_zero, Nat.reduceAdd, Nat.reduceSub, Nat.sub_self, if_true, decide_true, decide_false, Bool.not_true, Bool.not_false, Bool.false_eq_true, if_false, reduceCtorEq, dPow, hpow, c2', k4])).trans ?_
  refine (seq_nx (s1 := ⟨[a0, some .spl, some (.dat (.int t)), some (.dat (.int d)), some (.dat (.int size)), some (.dat (nm x)), a6, a7, a8, a9, a10], sp3⟩) (by simp only [sAsg, c3, gNm, List.set_cons_succ, List.set_cons_zero])).trans ?_
  refine (seq_nx (s1 := ⟨[a0, some .spl, some (.dat (.int t)), some (.dat (.int d)), some (.dat (.int size)), some (.dat (nm x)), some (.dat (.lst [nm y1, nm x, nm (-x.1, -x.2.1, x.2.2.1, x.2.2.2), .tup [.int 0, .int 0, .int 0, .int 1], nm y5])), a7, a8, a9, a10], sp5⟩) (by simp only [bodyP, bodyS, bodyR, sSeq, sIf, sNx, sRt, sRtX, sAsgX, sRs, eX, eJs, eJn, dFmt, sAsg, sDr, sPar, sAug, sSp, sOwn, sApp, lDs, eSp, eS, tBl, tTr, tAn, tOo, tNo, eC, eV, eA, eIf, eAn, eOo, eNo, e1, e2, eIxN, FD.peek, aCons, aNil, gNm, gTp, gLs, gCo, gNi, dI, dAddI, dMulI, dAdd, dSub, dMul, dFdiv, dMod, dNeg, dGcd, dMax, dMin, dAbs, dSq, dLen, dEq_int, dNe_int, dIx, oTup, oLst, truD, List.length_cons, List.length_nil, List.map_cons, List.map_nil, List.cons_append, List.nil_append, List.replicate_succ, List.replicate_zero, List.getElem?_cons_zero, List.getElem?_cons_succ, List.set_cons_succ, List.set_cons_zero, Nat.reduceAdd, Nat.reduceSub, Nat.sub_self, if_true, decide_true, decide_false, Bool.not_true, Bool.not_false, Bool.false_eq_true, if_false, reduceCtorEq, c4, c5, cn, k4, k5])).trans ?_
  refine (seq_nx (s1 := ⟨[a0, some .spl, some (.dat (.int t)), some (.dat (.int d)), some (.dat (.int size)), some (.dat (nm x)), some (.dat (.lst [nm y1, nm x, nm (-x.1, -x.2.1, x.2.2.1, x.2.2.2), .tup [.int 0, .int 0, .int 0, .int 1], nm y5])), some (.dat (nm y)), a8, a9, a10], sp6⟩) (by simp only [bodyP, bodyS, bodyR, sSeq, sIf, sNx, sRt, sRtX, sAsgX, sRs, eX, eJs, eJn, dFmt, sAsg, sDr, sPar, sAug, sSp, sOwn, sApp, lDs, eSp, eS, tBl, tTr, tAn, tOo, tNo, eC, eV, eA, eIf, eAn, eOo, eNo, e1, e2, eIxN, FD.peek, aCons, aNil, gNm, gTp, gLs, gCo, gNi, dI, dAddI, dMulI, dAdd, dSub, dMul, dFdiv, dMod, dNeg, dGcd, dMax, dMin, dAbs, dSq, dLen, dEq_int, dNe_int, dIx, oTup, oLst, truD, List.length_cons, List.length_nil, List.map_cons, List.map_nil, List.cons_append, List.nil_append, List.replicate_succ, List.replicate_zero, List.getElem?_cons_zero, List.getElem?_cons_succ, List.set_cons_succ, List.set_cons_zero, Nat.reduceAdd, Nat.reduceSub, Nat.sub_self, if_true, decide_true, decide_false, Bool.not_true, Bool.not_false, Bool.false_eq_true, if_false, reduceCtorEq, c6'])).trans ?_
  refine (seq_nx (s1 := ⟨[a0, some .spl, some (.dat (.int t)), some (.dat (.int d)), some (.dat (.int size)), some (.dat (nm x)), some (.dat (.lst [nm y1, nm x, nm (-x.1, -x.2.1, x.2.2.1, x.2.2.2), .tup [.int 0, .int 0, .int 0, .int 1], nm y5])), some (.dat (nm y)), some (.dat (nm y)), some (.dat (nm x)), some (.dat (.int 3))], sp6⟩) ?_).trans ?_
  · generalize sFr (iRg1 (aCons (eC (.int 4)) (aNil))) (gNm 10) law_cmp = IN at e1' e2' ⊢
    unfold sFr
    simp only [iVal, eA, aCons, aNil, eV, oTup, oLst, List.length_cons, List.length_nil, Nat.reduceAdd, k2, if_true, List.getElem?_cons_zero, List.getElem?_cons_succ, frN, gTp, gCo, gNm, gNi, List.set_cons_succ, List.set_cons_zero]
    rw [e1' a10]
    simp only [List.set_cons_succ, List.set_cons_zero]
    rw [e2' (some (.dat (.int 3)))]
  · simp only [bodyP, bodyS, bodyR, sSeq, sIf, sNx, sRt, sRtX, sAsgX, sRs, eX, eJs, eJn, dFmt, sAsg, sDr, sPar, sAug, sSp, sOwn, sApp, lDs, eSp, eS, tBl, tTr, tAn, tOo, tNo, eC, eV, eA, eIf, eAn, eOo, eNo, e1, e2, eIxN, FD.peek, aCons, aNil, gNm, gTp, gLs, gCo, gNi, dI, dAddI, dMulI, dAdd, dSub, dMul, dFdiv, dMod, dNeg, dGcd, dMax, dMin, dAbs, dSq, dLen, dEq_int, dNe_int, dIx, oTup, oLst, truD, List.length_cons, List.length_nil, List.map_cons, List.map_nil, List.cons_append, List.nil_append, List.replicate_succ, List.replicate_zero, List.getElem?_cons_zero, List.getElem?_cons_succ, List.set_cons_succ, List.set_cons_zero, Nat.reduceAdd, Nat.reduceSub, Nat.sub_self, if_true, decide_true, decide_false, Bool.not_true, Bool.not_false, Bool.false_eq_true, if_false, reduceCtorEq, co, cn, ca]
theorem turns_ok : ∀ (m : Nat) (i : Nat) (n : Nat) (sp : Spl) (a2 a3 a4 a5 a6 a7 a8 a9 a10 : Option SV) (a0 : Option SV), n + 80 * m ≤ 5000 → Pl n sp →
    ∃ s', frN ((List.range' i m).map fun (k : Nat) => .int (0 + (k : Int))) (gNm 2) law_turn ⟨[a0, some .spl, a2, a3, a4, a5, a6, a7, a8, a9, a10], sp⟩ = some (.nx s')
  | 0, i, n, sp, a2, a3, a4, a5, a6, a7, a8, a9, a10, a0, _, _ => ⟨_, rfl⟩
  | m + 1, i, n, sp, a2, a3, a4, a5, a6, a7, a8, a9, a10, a0, hn, hp => by
    obtain ⟨b3, b4, b5, b6, b7, b8, b9, b10, sp', h, p⟩ := turn_ok n (by omega) sp hp (0 + (i : Int)) a0 a3 a4 a5 a6 a7 a8 a9 a10
    obtain ⟨s', h'⟩ := turns_ok m (i + 1) (n + 80) sp' (some (.dat (.int (0 + (i : Int))))) b3 b4 b5 b6 b7 b8 b9 b10 a0 (by omega) p
    refine ⟨s', ?_⟩
    rw [List.range'_succ, List.map_cons]
    simp only [frN, gNm, List.set_cons_succ, List.set_cons_zero, h, h']
theorem law_ok (ns : List Int) (h : ns.length ≤ 63) : ∃ nums s', sf ns = some nums ∧ b_law ⟨some (.dat (.scr ns)) :: some .spl :: List.replicate (11 - 2) none, ⟨nums, 0, 0, 0⟩⟩ = some (.rt (.bl true) s') := by
  have h12 : inR 12 = true := rfl
  have hr : rngD 0 (Int.toNat 12) = (List.range' 0 12).map fun (k : Nat) => .int (0 + (k : Int)) := rfl
  obtain ⟨s', e⟩ := turns_ok 12 0 0 ⟨sfN ns, 0, 0, 0⟩ none none none none none none none none none (some (.dat (.scr ns))) (by decide) (Nat.le_refl 0)
  refine ⟨sfN ns, s', if_pos h, ?_⟩
  rw [b_law_eq]
  show sSeq _ _ ⟨[some (.dat (.scr ns)), some .spl, none, none, none, none, none, none, none, none, none], _⟩ = _
  simp only [sSeq, sFr, iRg1, aCons, aNil, eC, h12, if_true, hr, e, sRt]
end T3

set_option maxRecDepth 100000
set_option maxHeartbeats 0
namespace T3
open PySem PySem.Spec PyProof.Rows L2 FD
def topS (i : Nat) : Stmt := PySem.Challenge.pw_twospeeds_k03_arithmetic.main.body.getD i (.Pass ⟨0, 0, 0, 0⟩)
abbrev st_lowest : Stmt := topS 15
theorem sc_lowest : FnScope ["p", "q", "d", "s", "common"] ["p", "q", "d", "s"] (defScope st_lowest) := ⟨rfl, rfl, rfl, by decide +kernel, rfl, by decide +kernel, by decide +kernel⟩
abbrev st_plus : Stmt := topS 16
theorem sc_plus : FnScope ["first", "second", "d", "p", "q", "_", "s", "other_p", "other_q", "other_s"] ["first", "second"] (defScope st_plus) := ⟨rfl, rfl, rfl, by decide +kernel, rfl, by decide +kernel, by decide +kernel⟩
abbrev st_minus : Stmt := topS 17
theorem sc_minus : FnScope ["first", "second"] ["first", "second"] (defScope st_minus) := ⟨rfl, rfl, rfl, by decide +kernel, rfl, by decide +kernel, by decide +kernel⟩
abbrev st_times : Stmt := topS 18
theorem sc_times : FnScope ["first", "second", "d", "p", "q", "_", "s", "other_p", "other_q", "other_s"] ["first", "second"] (defScope st_times) := ⟨rfl, rfl, rfl, by decide +kernel, rfl, by decide +kernel, by decide +kernel⟩
abbrev st_over : Stmt := topS 19
theorem sc_over : FnScope ["first", "second", "p", "q", "d", "s"] ["first", "second"] (defScope st_over) := ⟨rfl, rfl, rfl, by decide +kernel, rfl, by decide +kernel, by decide +kernel⟩
abbrev st_opposite : Stmt := topS 20
theorem sc_opposite : FnScope ["one", "p", "q", "d", "s"] ["one"] (defScope st_opposite) := ⟨rfl, rfl, rfl, by decide +kernel, rfl, by decide +kernel, by decide +kernel⟩
abbrev st_common_root : Stmt := topS 21
theorem sc_common_root : FnScope ["first", "second", "d", "other_d"] ["first", "second"] (defScope st_common_root) := ⟨rfl, rfl, rfl, by decide +kernel, rfl, by decide +kernel, by decide +kernel⟩
abbrev st_law_stirred : Stmt := topS 23
theorem sc_law_stirred : FnScope ["cell", "place", "modulus", "value", "turn"] ["cell", "place"] (defScope st_law_stirred) := ⟨rfl, rfl, rfl, by decide +kernel, rfl, by decide +kernel, by decide +kernel⟩
abbrev st_law_spool_of : Stmt := topS 24
theorem sc_law_spool_of : FnScope ["script", "cell", "numbers", "place"] ["script"] (defScope st_law_spool_of) := ⟨rfl, rfl, rfl, by decide +kernel, rfl, by decide +kernel, by decide +kernel⟩
abbrev st_law_upto : Stmt := topS 25
theorem sc_law_upto : FnScope ["spool", "bound", "numbers", "place", "cell", "found"] ["spool", "bound"] (defScope st_law_upto) := ⟨rfl, rfl, rfl, by decide +kernel, rfl, by decide +kernel, by decide +kernel⟩
abbrev st_law_choice : Stmt := topS 26
theorem sc_law_choice : FnScope ["spool", "items"] ["spool", "items"] (defScope st_law_choice) := ⟨rfl, rfl, rfl, by decide +kernel, rfl, by decide +kernel, by decide +kernel⟩
abbrev st_law_alike : Stmt := topS 27
theorem sc_law_alike : FnScope ["one", "other"] ["one", "other"] (defScope st_law_alike) := ⟨rfl, rfl, rfl, by decide +kernel, rfl, by decide +kernel, by decide +kernel⟩
abbrev st_law_common : Stmt := topS 28
theorem sc_law_common : FnScope ["one", "other"] ["one", "other"] (defScope st_law_common) := ⟨rfl, rfl, rfl, by decide +kernel, rfl, by decide +kernel, by decide +kernel⟩
abbrev st_law_square_root : Stmt := topS 29
theorem sc_law_square_root : FnScope ["value", "guess", "factor", "better"] ["value"] (defScope st_law_square_root) := ⟨rfl, rfl, rfl, by decide +kernel, rfl, by decide +kernel, by decide +kernel⟩
abbrev st_law_lowest : Stmt := topS 30
theorem sc_law_lowest : FnScope ["p", "q", "d", "s", "divisor"] ["p", "q", "d", "s"] (defScope st_law_lowest) := ⟨rfl, rfl, rfl, by decide +kernel, rfl, by decide +kernel, by decide +kernel⟩
abbrev st_law_add : Stmt := topS 31
theorem sc_law_add : FnScope ["one", "other", "p", "q"] ["one", "other"] (defScope st_law_add) := ⟨rfl, rfl, rfl, by decide +kernel, rfl, by decide +kernel, by decide +kernel⟩
abbrev st_law_negative : Stmt := topS 32
theorem sc_law_negative : FnScope ["one"] ["one"] (defScope st_law_negative) := ⟨rfl, rfl, rfl, by decide +kernel, rfl, by decide +kernel, by decide +kernel⟩
abbrev st_law_multiply : Stmt := topS 33
theorem sc_law_multiply : FnScope ["one", "other", "d", "p"] ["one", "other"] (defScope st_law_multiply) := ⟨rfl, rfl, rfl, by decide +kernel, rfl, by decide +kernel, by decide +kernel⟩
abbrev st_law_inverse : Stmt := topS 34
theorem sc_law_inverse : FnScope ["one", "p", "q", "d", "s"] ["one"] (defScope st_law_inverse) := ⟨rfl, rfl, rfl, by decide +kernel, rfl, by decide +kernel, by decide +kernel⟩
abbrev st_law_scaled : Stmt := topS 35
theorem sc_law_scaled : FnScope ["one", "places", "p", "q", "d", "s", "ten", "turn", "part"] ["one", "places"] (defScope st_law_scaled) := ⟨rfl, rfl, rfl, by decide +kernel, rfl, by decide +kernel, by decide +kernel⟩
abbrev st_law_sign_of : Stmt := topS 36
theorem sc_law_sign_of : FnScope ["one", "places", "value"] ["one"] (defScope st_law_sign_of) := ⟨rfl, rfl, rfl, by decide +kernel, rfl, by decide +kernel, by decide +kernel⟩
abbrev st_law_whole_part : Stmt := topS 37
theorem sc_law_whole_part : FnScope ["one", "found"] ["one"] (defScope st_law_whole_part) := ⟨rfl, rfl, rfl, by decide +kernel, rfl, by decide +kernel, by decide +kernel⟩
abbrev st_law_drawn : Stmt := topS 38
theorem sc_law_drawn : FnScope ["spool", "d", "size", "p", "q", "s"] ["spool", "d", "size"] (defScope st_law_drawn) := ⟨rfl, rfl, rfl, by decide +kernel, rfl, by decide +kernel, by decide +kernel⟩
abbrev st_law_drawn_ratio : Stmt := topS 39
theorem sc_law_drawn_ratio : FnScope ["spool", "d", "found"] ["spool"] (defScope st_law_drawn_ratio) := ⟨rfl, rfl, rfl, by decide +kernel, rfl, by decide +kernel, by decide +kernel⟩
abbrev st_law_rooted_ratio : Stmt := topS 40
theorem sc_law_rooted_ratio : FnScope ["spool", "found", "some"] ["spool"] (defScope st_law_rooted_ratio) := ⟨rfl, rfl, rfl, by decide +kernel, rfl, by decide +kernel, by decide +kernel⟩
abbrev st_law_error_kind : Stmt := topS 41
theorem sc_law_error_kind : FnScope ["error", "found", "words"] ["error"] (defScope st_law_error_kind) := ⟨rfl, rfl, rfl, by decide +kernel, rfl, by decide +kernel, by decide +kernel⟩
abbrev st_law_result : Stmt := topS 42
theorem sc_law_result : FnScope ["way", "one", "other", "answer", "caught", "error"] ["way", "one", "other"] (defScope st_law_result) := ⟨rfl, rfl, rfl, by decide +kernel, rfl, by decide +kernel, by decide +kernel⟩
abbrev st_law_due : Stmt := topS 43
theorem sc_law_due : FnScope ["way", "one", "other"] ["way", "one", "other"] (defScope st_law_due) := ⟨rfl, rfl, rfl, by decide +kernel, rfl, by decide +kernel, by decide +kernel⟩
abbrev st_law_long : Stmt := topS 44
theorem sc_law_long : FnScope ["spool", "found", "part"] ["spool"] (defScope st_law_long) := ⟨rfl, rfl, rfl, by decide +kernel, rfl, by decide +kernel, by decide +kernel⟩
abbrev st_law_long_number : Stmt := topS 45
theorem sc_law_long_number : FnScope ["spool", "d", "p", "q", "part"] ["spool", "d"] (defScope st_law_long_number) := ⟨rfl, rfl, rfl, by decide +kernel, rfl, by decide +kernel, by decide +kernel⟩
abbrev st_law : Stmt := topS 46
theorem sc_law : FnScope ["script", "spool", "turn", "d", "size", "one", "some", "other", "first", "second", "way"] ["script"] (defScope st_law) := ⟨rfl, rfl, rfl, by decide +kernel, rfl, by decide +kernel, by decide +kernel⟩
section
variable {P : Program} {w : World} {K : PySem.W.Frag} {mg : Str → Option Value} {base : Heap} {f : Addr} {fd : FuncData}
theorem ok0_lowest (F : FunD K "lowest" "lowest" (defArgs st_lowest) (defBody st_lowest) (defScope st_lowest) [] [] f fd) (m_gcd : mg "gcd" = some (.builtin "math.gcd")) : FnG P w K mg base CX0 1 f fd ["p", "q", "d", "s"] (spP K (bodyP 4 5 b_lowest)) :=
  fn_pure (k := 0) F sc_lowest fun C cdv A outer s H E hsp hr =>
    fs_cons (fs_set 4 (fe_gcd m_gcd (fa_cons (fv 0) (fa_cons (fv 1) (fa_cons (fv 3) (fa_nil))))) sc_lowest.nd)
    (fs_cons (fs_if (ft_lt (fv 3) (fe_int)) (fs_one (fs_set 4 (fe_neg (fv 4)) sc_lowest.nd)) (fs_nil))
    (fs_cons (fs_if (ft_eq hr.units (fv 1) (fe_int)) (fs_one (fs_ret (fe_tup (fa_cons (fe_fdiv (fv 0) (fv 4)) (fa_cons (fe_int) (fa_cons (fe_int) (fa_cons (fe_fdiv (fv 3) (fv 4)) (fa_nil)))))))) (fs_nil))
    (fs_one (fs_ret (fe_tup (fa_cons (fe_fdiv (fv 0) (fv 4)) (fa_cons (fe_fdiv (fv 1) (fv 4)) (fa_cons (fv 2) (fa_cons (fe_fdiv (fv 3) (fv 4)) (fa_nil))))))))))
theorem ok0_plus (F : FunD K "plus" "plus" (defArgs st_plus) (defBody st_plus) (defScope st_plus) [] [] f fd) (D_lowest : DefOk P w K mg base 1 "lowest" ["p", "q", "d", "s"] (spP K m_lowest)) (D_common_root : DefR P w K mg base 1 "common_root" ["first", "second"] (spR K m_common_root)) : FnG P w K mg base (L2.CX P w) 2 f fd ["first", "second"] (spR K (bodyR 2 10 b_plus)) :=
  fn_raise (k := 1) F sc_plus fun C cdv A outer s H E hsp tk hr =>
    fs_cons (fs_setX 2 (fx_def D_common_root tk hr (by decide) (fa_cons (fv 0) (fa_cons (fv 1) (fa_nil)))) sc_plus.nd)
    (fs_cons (fs_asg (fv 0) (fg_tup rfl (fgs_cons (fg_name 3 sc_plus.nd) (fgs_cons (fg_name 4 sc_plus.nd) (fgs_cons (fg_name 5 sc_plus.nd) (fgs_cons (fg_name 6 sc_plus.nd) (fgs_nil)))))))
    (fs_cons (fs_asg (fv 1) (fg_tup rfl (fgs_cons (fg_name 7 sc_plus.nd) (fgs_cons (fg_name 8 sc_plus.nd) (fgs_cons (fg_name 5 sc_plus.nd) (fgs_cons (fg_name 9 sc_plus.nd) (fgs_nil)))))))
    (fs_one (fs_ret (fe_def D_lowest hr (by decide) (fa_cons (fe_add (fe_mul (fv 3) (fv 9)) (fe_mul (fv 7) (fv 6))) (fa_cons (fe_add (fe_mul (fv 4) (fv 9)) (fe_mul (fv 8) (fv 6))) (fa_cons (fv 2) (fa_cons (fe_mul (fv 6) (fv 9)) (fa_nil))))))))))
theorem ok0_minus (F : FunD K "minus" "minus" (defArgs st_minus) (defBody st_minus) (defScope st_minus) [] [] f fd) (D_opposite : DefOk P w K mg base 1 "opposite" ["one"] (spP K m_opposite)) (D_plus : DefR P w K mg base 2 "plus" ["first", "second"] (spR K m_plus)) : FnG P w K mg base (L2.CX P w) 3 f fd ["first", "second"] (spR K (bodyR 2 2 b_minus)) :=
  fn_raise (k := 2) F sc_minus fun C cdv A outer s H E hsp tk hr =>
    fs_one (fs_retX (fx_def D_plus tk hr (by decide) (fa_cons (fv 0) (fa_cons (fe_def D_opposite hr (by decide) (fa_cons (fv 1) (fa_nil))) (fa_nil)))))
theorem ok0_times (F : FunD K "times" "times" (defArgs st_times) (defBody st_times) (defScope st_times) [] [] f fd) (D_lowest : DefOk P w K mg base 1 "lowest" ["p", "q", "d", "s"] (spP K m_lowest)) (D_common_root : DefR P w K mg base 1 "common_root" ["first", "second"] (spR K m_common_root)) : FnG P w K mg base (L2.CX P w) 2 f fd ["first", "second"] (spR K (bodyR 2 10 b_times)) :=
  fn_raise (k := 1) F sc_times fun C cdv A outer s H E hsp tk hr =>
    fs_cons (fs_setX 2 (fx_def D_common_root tk hr (by decide) (fa_cons (fv 0) (fa_cons (fv 1) (fa_nil)))) sc_times.nd)
    (fs_cons (fs_asg (fv 0) (fg_tup rfl (fgs_cons (fg_name 3 sc_times.nd) (fgs_cons (fg_name 4 sc_times.nd) (fgs_cons (fg_name 5 sc_times.nd) (fgs_cons (fg_name 6 sc_times.nd) (fgs_nil)))))))
    (fs_cons (fs_asg (fv 1) (fg_tup rfl (fgs_cons (fg_name 7 sc_times.nd) (fgs_cons (fg_name 8 sc_times.nd) (fgs_cons (fg_name 5 sc_times.nd) (fgs_cons (fg_name 9 sc_times.nd) (fgs_nil)))))))
    (fs_one (fs_ret (fe_def D_lowest hr (by decide) (fa_cons (fe_add (fe_mul (fv 3) (fv 7)) (fe_mul (fe_mul (fv 4) (fv 8)) (fv 2))) (fa_cons (fe_add (fe_mul (fv 3) (fv 8)) (fe_mul (fv 4) (fv 7))) (fa_cons (fv 2) (fa_cons (fe_mul (fv 6) (fv 9)) (fa_nil))))))))))
theorem ok0_over (F : FunD K "over" "over" (defArgs st_over) (defBody st_over) (defScope st_over) [] [] f fd) (D_lowest : DefOk P w K mg base 1 "lowest" ["p", "q", "d", "s"] (spP K m_lowest)) (D_times : DefR P w K mg base 2 "times" ["first", "second"] (spR K m_times)) (R_ZeroDivisor : mg "ZeroDivisor" = some (.ref (He.ga K "ZeroDivisor")) ∧ (He.Fa.exc "ZeroDivisor").ok K = true) : FnG P w K mg base (L2.CX P w) 3 f fd ["first", "second"] (spR K (bodyR 2 6 b_over)) :=
  fn_raise (k := 2) F sc_over fun C cdv A outer s H E hsp tk hr =>
    have R_ZeroDivisor : RzF (cxOf (L2.CX P w) P w K mg base ["first", "second", "p", "q", "d", "s"] "over" (defScope st_over) f cdv A outer s H E) "ZeroDivisor" := ⟨R_ZeroDivisor.1, R_ZeroDivisor.2⟩
    fs_cons (fs_asg (fv 1) (fg_tup rfl (fgs_cons (fg_name 2 sc_over.nd) (fgs_cons (fg_name 3 sc_over.nd) (fgs_cons (fg_name 4 sc_over.nd) (fgs_cons (fg_name 5 sc_over.nd) (fgs_nil)))))))
    (fs_cons (fs_if ((fw_and (ft_eq hr.units (fv 2) (fe_int)) (fw_and1 (ft_eq hr.units (fv 3) (fe_int)))).ft) (fs_one (fs_raise rfl R_ZeroDivisor tk (fe_str))) (fs_nil))
    (fs_one (fs_retX (fx_def D_times tk hr (by decide) (fa_cons (fv 0) (fa_cons (fe_def D_lowest hr (by decide) (fa_cons (fe_mul (fv 2) (fv 5)) (fa_cons (fe_mul (fe_neg (fv 3)) (fv 5)) (fa_cons (fv 4) (fa_cons (fe_sub (fe_mul (fv 2) (fv 2)) (fe_mul (fe_mul (fv 3) (fv 3)) (fv 4))) (fa_nil)))))) (fa_nil)))))))
theorem ok0_opposite (F : FunD K "opposite" "opposite" (defArgs st_opposite) (defBody st_opposite) (defScope st_opposite) [] [] f fd)  : FnG P w K mg base CX0 1 f fd ["one"] (spP K (bodyP 1 5 b_opposite)) :=
  fn_pure (k := 0) F sc_opposite fun C cdv A outer s H E hsp hr =>
    fs_cons (fs_asg (fv 0) (fg_tup rfl (fgs_cons (fg_name 1 sc_opposite.nd) (fgs_cons (fg_name 2 sc_opposite.nd) (fgs_cons (fg_name 3 sc_opposite.nd) (fgs_cons (fg_name 4 sc_opposite.nd) (fgs_nil)))))))
    (fs_one (fs_ret (fe_tup (fa_cons (fe_neg (fv 1)) (fa_cons (fe_neg (fv 2)) (fa_cons (fv 3) (fa_cons (fv 4) (fa_nil))))))))
theorem ok0_common_root (F : FunD K "common_root" "common_root" (defArgs st_common_root) (defBody st_common_root) (defScope st_common_root) [] [] f fd) (R_OtherRoot : mg "OtherRoot" = some (.ref (He.ga K "OtherRoot")) ∧ (He.Fa.exc "OtherRoot").ok K = true) (m_max : mg "max" = none) : FnG P w K mg base (L2.CX P w) 1 f fd ["first", "second"] (spR K (bodyR 2 4 b_common_root)) :=
  fn_raise (k := 0) F sc_common_root fun C cdv A outer s H E hsp tk hr =>
    have R_OtherRoot : RzF (cxOf (L2.CX P w) P w K mg base ["first", "second", "d", "other_d"] "common_root" (defScope st_common_root) f cdv A outer s H E) "OtherRoot" := ⟨R_OtherRoot.1, R_OtherRoot.2⟩
    fs_cons (fs_set 2 (fe_ixn 0 (fe_int)) sc_common_root.nd)
    (fs_cons (fs_set 3 (fe_ixn 1 (fe_int)) sc_common_root.nd)
    (fs_cons (fs_if ((fw_and (ft_ne hr.units (fv 2) (fv 3)) (fw_and (ft_ne hr.units (fv 2) (fe_int)) (fw_and1 (ft_ne hr.units (fv 3) (fe_int))))).ft) (fs_one (fs_raise rfl R_OtherRoot tk (fe_js (fj_cons (fe_str) (fj_cons (fe_fmt (fv 2)) (fj_cons (fe_str) (fj_cons (fe_fmt (fv 3)) (fj_nil)))))))) (fs_nil))
    (fs_one (fs_ret (fe_max rfl m_max (fa_cons (fv 2) (fa_cons (fv 3) (fa_nil))))))))
theorem ok0_law_stirred (F : FunD K "_law_stirred" "_law_stirred" (defArgs st_law_stirred) (defBody st_law_stirred) (defScope st_law_stirred) [] [] f fd) (m_range : mg "range" = none) : FnG P w K mg base CX0 1 f fd ["cell", "place"] (spP K (bodyP 2 5 b_law_stirred)) :=
  fn_pure (k := 0) F sc_law_stirred fun C cdv A outer s H E hsp hr =>
    fs_cons (fs_set 2 (fe_int) sc_law_stirred.nd)
    (fs_cons (fs_set 3 (fe_mod (fe_add (fe_add (fe_mul (fv 0) (fe_int)) (fe_mul (fv 1) (fe_int))) (fe_int)) (fv 2)) sc_law_stirred.nd)
    (fs_cons (fs_for PassesOwn.never rfl (fi_range1 m_range (fa_cons (fe_int) (fa_nil))) (fg_name 4 sc_law_stirred.nd) (fs_one (fs_set 3 (fe_mod (fe_add (fe_add (fe_add (fe_mul (fv 3) (fv 3)) (fe_mul (fe_int) (fv 3))) (fe_mul (fe_int) (fv 4))) (fv 1)) (fv 2)) sc_law_stirred.nd)))
    (fs_one (fs_ret (fe_add (fe_mul (fv 3) (fv 2)) (fe_mod (fe_add (fe_mul (fv 3) (fe_int)) (fv 1)) (fv 2)))))))
theorem ok0_law_spool_of (F : FunD K "_law_spool_of" "_law_spool_of" (defArgs st_law_spool_of) (defBody st_law_spool_of) (defScope st_law_spool_of) [] [] f fd) (m_abs : mg "abs" = none) (m_enumerate : mg "enumerate" = none) : FnG P w K mg base CX0 1 f fd ["script"] (spN K (bodyN 1 4 b1_law_spool_of b2_law_spool_of b3_law_spool_of)) :=
  fn_new (k := 0) F sc_law_spool_of rfl fun C cdv A outer s H E hr =>
    ⟨fs_lco 2 1 rfl sc_law_spool_of.nd (blkOk_by (N := ["script", "cell", "numbers", "place"]) (sc := defScope st_law_spool_of) (by decide +kernel)) (fi_list (fe_sln 0 (fo_none) (fo_some (fe_int)))) (fun _ _ _ _ _ => pg_name (i := 1) sc_law_spool_of.nd rfl (Or.inl rfl)) (fun _ _ _ _ _ _ => fe_abs m_abs (fa_cons (fv 1) (fa_nil))),
    fs_for PassesOwn.never rfl (fi_enum m_enumerate (fe_sln 0 (fo_some (fe_int)) (fo_some (fe_int)))) (fg_tup rfl (fgs_cons (fg_name 3 sc_law_spool_of.nd) (fgs_cons (fg_name 1 sc_law_spool_of.nd) (fgs_nil)))) (fs_one (fs_put 2 (fe_add (fe_ixn 2 (fe_mod (fv 3) (fe_int))) (fe_abs m_abs (fa_cons (fv 1) (fa_nil)))) (fe_mod (fv 3) (fe_int)))),
    fl_lst (fa_cons (fv 2) (fa_cons (fe_int) (fa_cons (fe_int) (fa_cons (fe_int) (fa_nil)))))⟩
theorem ok0_law_upto (F : FunD K "_law_upto" "_law_upto" (defArgs st_law_upto) (defBody st_law_upto) (defScope st_law_upto) [] [] f fd) (D_law_stirred : DefOk P w K mg base 1 "_law_stirred" ["cell", "place"] (spP K m_law_stirred)) (m_len : mg "len" = none) : FnG P w K mg base CX0 2 f fd ["spool", "bound"] (spS K (bodyS 2 6 b_law_upto)) :=
  fn_spool (k := 1) F sc_law_upto fun C cdv A outer s H E hr =>
    fs_cons (fs_if (ft_lt (fe_sp 0) (fv 1)) (fs_cons (fs_par 2 3 (fa_cons (fe_sp 0) (fa_cons (fe_sp 0) (fa_nil))) rfl sc_law_upto.nd)
    (fs_cons (fs_set 4 (fe_if (ft_ne hr.units (fv 2) (fe_lst (fa_nil))) (fe_ixn 2 (fe_mod (fv 3) (fe_len m_len (fa_cons (fv 2) (fa_nil))))) (fe_int)) sc_law_upto.nd)
    (fs_cons (fs_if ((fw_or (ft_ge (fv 3) (fe_len m_len (fa_cons (fv 2) (fa_nil)))) (fw_or1 (ft_lt (fv 4) (fe_pow (fe_int) (fe_int))))).ft) (fs_one (fs_set 4 (fe_def D_law_stirred hr (by decide) (fa_cons (fe_mod (fv 4) (fe_int)) (fa_cons (fv 3) (fa_nil)))) sc_law_upto.nd)) (fs_nil))
    (fs_cons (fs_sp 0 (fe_add (fv 3) (fe_int)))
    (fs_cons (fs_sp 0 (fv 4))
    (fs_one (fs_sp 0 (fv 4)))))))) (fs_nil))
    (fs_cons (fs_set 5 (fe_mod (fe_sp 0) (fv 1)) sc_law_upto.nd)
    (fs_cons (fs_sp 0 (fe_fdiv (fe_sp 0) (fv 1)))
    (fs_cons (fs_sp 0 (fe_fdiv (fe_sp 0) (fv 1)))
    (fs_one (fs_ret (fv 5))))))
theorem ok0_law_choice (F : FunD K "_law_choice" "_law_choice" (defArgs st_law_choice) (defBody st_law_choice) (defScope st_law_choice) [] [] f fd) (D_law_upto : DefOk P w K mg base 2 "_law_upto" ["spool", "bound"] (spS K m_law_upto)) (m_len : mg "len" = none) : FnG P w K mg base CX0 3 f fd ["spool", "items"] (spS K (bodyS 2 2 b_law_choice)) :=
  fn_spool (k := 2) F sc_law_choice fun C cdv A outer s H E hr =>
    fs_one (fs_ret (fe_ixn 1 (fe_defS 0 D_law_upto hr (by decide) (fa_cons (fe_len m_len (fa_cons (fv 1) (fa_nil))) (fa_nil)))))
theorem ok0_law_alike (F : FunD K "_law_alike" "_law_alike" (defArgs st_law_alike) (defBody st_law_alike) (defScope st_law_alike) [] [] f fd) (xdig : digB K = true) (m_repr : mg "repr" = none) : FnG P w K mg base CX0 1 f fd ["one", "other"] (spP K (bodyP 2 2 b_law_alike)) :=
  fn_pure (k := 0) F sc_law_alike fun C cdv A outer s H E hsp hr =>
    fs_one (fs_ret (fe_eq hr.units (fe_reprW hr m_repr xdig (fa_cons (fv 0) (fa_nil))) (fe_reprW hr m_repr xdig (fa_cons (fv 1) (fa_nil)))))
theorem ok0_law_common (F : FunD K "_law_common" "_law_common" (defArgs st_law_common) (defBody st_law_common) (defScope st_law_common) [] [] f fd) (m_abs : mg "abs" = none) : FnG P w K mg base CX0 1 f fd ["one", "other"] (spP K (bodyP 2 2 b_law_common)) :=
  fn_pure (k := 0) F sc_law_common fun C cdv A outer s H E hsp hr =>
    fs_cons (fs_while (fun s => (slI s 1).natAbs) PassesOwn.never (ft_ne hr.units (fv 1) (fe_int)) (fs_one (fs_par 0 1 (fa_cons (fv 1) (fa_cons (fe_mod (fv 0) (fv 1)) (fa_nil))) rfl sc_law_common.nd)))
    (fs_one (fs_ret (fe_abs m_abs (fa_cons (fv 0) (fa_nil)))))
theorem ok0_law_lowest (F : FunD K "_law_lowest" "_law_lowest" (defArgs st_law_lowest) (defBody st_law_lowest) (defScope st_law_lowest) [] [] f fd) (D_law_common : DefOk P w K mg base 1 "_law_common" ["one", "other"] (spP K m_law_common)) : FnG P w K mg base CX0 2 f fd ["p", "q", "d", "s"] (spP K (bodyP 4 5 b_law_lowest)) :=
  fn_pure (k := 1) F sc_law_lowest fun C cdv A outer s H E hsp hr =>
    fs_cons (fs_if ((fw_or (ft_eq hr.units (fv 1) (fe_int)) (fw_or1 (ft_eq hr.units (fv 2) (fe_int)))).ft) (fs_one (fs_asg (fe_tup (fa_cons (fe_int) (fa_cons (fe_int) (fa_nil)))) (fg_tup rfl (fgs_cons (fg_name 1 sc_law_lowest.nd) (fgs_cons (fg_name 2 sc_law_lowest.nd) (fgs_nil)))))) (fs_nil))
    (fs_cons (fs_set 4 (fe_def D_law_common hr (by decide) (fa_cons (fe_def D_law_common hr (by decide) (fa_cons (fv 0) (fa_cons (fv 1) (fa_nil)))) (fa_cons (fv 3) (fa_nil)))) sc_law_lowest.nd)
    (fs_cons (fs_set 4 (fe_if (ft_gt (fv 3) (fe_int)) (fv 4) (fe_sub (fe_int) (fv 4))) sc_law_lowest.nd)
    (fs_one (fs_ret (fe_tup (fa_cons (fe_fdiv (fv 0) (fv 4)) (fa_cons (fe_fdiv (fv 1) (fv 4)) (fa_cons (fv 2) (fa_cons (fe_fdiv (fv 3) (fv 4)) (fa_nil))))))))))
theorem ok0_law_add (F : FunD K "_law_add" "_law_add" (defArgs st_law_add) (defBody st_law_add) (defScope st_law_add) [] [] f fd) (D_law_lowest : DefOk P w K mg base 2 "_law_lowest" ["p", "q", "d", "s"] (spP K m_law_lowest)) (m_max : mg "max" = none) : FnG P w K mg base CX0 3 f fd ["one", "other"] (spP K (bodyP 2 4 b_law_add)) :=
  fn_pure (k := 2) F sc_law_add fun C cdv A outer s H E hsp hr =>
    fs_cons (fs_set 2 (fe_add (fe_mul (fe_ixn 0 (fe_int)) (fe_ixn 1 (fe_int))) (fe_mul (fe_ixn 1 (fe_int)) (fe_ixn 0 (fe_int)))) sc_law_add.nd)
    (fs_cons (fs_set 3 (fe_add (fe_mul (fe_ixn 0 (fe_int)) (fe_ixn 1 (fe_int))) (fe_mul (fe_ixn 1 (fe_int)) (fe_ixn 0 (fe_int)))) sc_law_add.nd)
    (fs_one (fs_ret (fe_def D_law_lowest hr (by decide) (fa_cons (fv 2) (fa_cons (fv 3) (fa_cons (fe_max rfl m_max (fa_cons (fe_ixn 0 (fe_int)) (fa_cons (fe_ixn 1 (fe_int)) (fa_nil)))) (fa_cons (fe_mul (fe_ixn 0 (fe_int)) (fe_ixn 1 (fe_int))) (fa_nil)))))))))
theorem ok0_law_negative (F : FunD K "_law_negative" "_law_negative" (defArgs st_law_negative) (defBody st_law_negative) (defScope st_law_negative) [] [] f fd)  : FnG P w K mg base CX0 1 f fd ["one"] (spP K (bodyP 1 1 b_law_negative)) :=
  fn_pure (k := 0) F sc_law_negative fun C cdv A outer s H E hsp hr =>
    fs_one (fs_ret (fe_tup (fa_cons (fe_sub (fe_int) (fe_ixn 0 (fe_int))) (fa_cons (fe_sub (fe_int) (fe_ixn 0 (fe_int))) (fa_cons (fe_ixn 0 (fe_int)) (fa_cons (fe_ixn 0 (fe_int)) (fa_nil)))))))
theorem ok0_law_multiply (F : FunD K "_law_multiply" "_law_multiply" (defArgs st_law_multiply) (defBody st_law_multiply) (defScope st_law_multiply) [] [] f fd) (D_law_lowest : DefOk P w K mg base 2 "_law_lowest" ["p", "q", "d", "s"] (spP K m_law_lowest)) (m_max : mg "max" = none) : FnG P w K mg base CX0 3 f fd ["one", "other"] (spP K (bodyP 2 4 b_law_multiply)) :=
  fn_pure (k := 2) F sc_law_multiply fun C cdv A outer s H E hsp hr =>
    fs_cons (fs_set 2 (fe_max rfl m_max (fa_cons (fe_ixn 0 (fe_int)) (fa_cons (fe_ixn 1 (fe_int)) (fa_nil)))) sc_law_multiply.nd)
    (fs_cons (fs_set 3 (fe_add (fe_mul (fe_ixn 0 (fe_int)) (fe_ixn 1 (fe_int))) (fe_mul (fe_mul (fe_ixn 0 (fe_int)) (fe_ixn 1 (fe_int))) (fv 2))) sc_law_multiply.nd)
    (fs_one (fs_ret (fe_def D_law_lowest hr (by decide) (fa_cons (fv 3) (fa_cons (fe_add (fe_mul (fe_ixn 0 (fe_int)) (fe_ixn 1 (fe_int))) (fe_mul (fe_ixn 0 (fe_int)) (fe_ixn 1 (fe_int)))) (fa_cons (fv 2) (fa_cons (fe_mul (fe_ixn 0 (fe_int)) (fe_ixn 1 (fe_int))) (fa_nil)))))))))
theorem ok0_law_inverse (F : FunD K "_law_inverse" "_law_inverse" (defArgs st_law_inverse) (defBody st_law_inverse) (defScope st_law_inverse) [] [] f fd) (D_law_lowest : DefOk P w K mg base 2 "_law_lowest" ["p", "q", "d", "s"] (spP K m_law_lowest)) : FnG P w K mg base CX0 3 f fd ["one"] (spP K (bodyP 1 5 b_law_inverse)) :=
  fn_pure (k := 2) F sc_law_inverse fun C cdv A outer s H E hsp hr =>
    fs_cons (fs_asg (fv 0) (fg_tup rfl (fgs_cons (fg_name 1 sc_law_inverse.nd) (fgs_cons (fg_name 2 sc_law_inverse.nd) (fgs_cons (fg_name 3 sc_law_inverse.nd) (fgs_cons (fg_name 4 sc_law_inverse.nd) (fgs_nil)))))))
    (fs_one (fs_ret (fe_def D_law_lowest hr (by decide) (fa_cons (fe_mul (fv 1) (fv 4)) (fa_cons (fe_sub (fe_int) (fe_mul (fv 2) (fv 4))) (fa_cons (fv 3) (fa_cons (fe_sub (fe_mul (fv 1) (fv 1)) (fe_mul (fe_mul (fv 2) (fv 2)) (fv 3))) (fa_nil))))))))
theorem ok0_law_drawn (F : FunD K "_law_drawn" "_law_drawn" (defArgs st_law_drawn) (defBody st_law_drawn) (defScope st_law_drawn) [] [] f fd) (D_law_lowest : DefOk P w K mg base 2 "_law_lowest" ["p", "q", "d", "s"] (spP K m_law_lowest)) (D_law_choice : DefOk P w K mg base 3 "_law_choice" ["spool", "items"] (spS K m_law_choice)) (D_law_upto : DefOk P w K mg base 2 "_law_upto" ["spool", "bound"] (spS K m_law_upto)) : FnG P w K mg base CX0 4 f fd ["spool", "d", "size"] (spS K (bodyS 3 6 b_law_drawn)) :=
  fn_spool (k := 3) F sc_law_drawn fun C cdv A outer s H E hr =>
    fs_cons (fs_par 3 4 (fa_cons (fe_sub (fe_defS 0 D_law_upto hr (by decide) (fa_cons (fe_add (fe_mul (fe_int) (fv 2)) (fe_int)) (fa_nil))) (fv 2)) (fa_cons (fe_sub (fe_defS 0 D_law_upto hr (by decide) (fa_cons (fe_add (fe_mul (fe_int) (fv 2)) (fe_int)) (fa_nil))) (fv 2)) (fa_nil))) rfl sc_law_drawn.nd)
    (fs_cons (fs_set 5 (fe_add (fe_int) (fe_defS 0 D_law_upto hr (by decide) (fa_cons (fv 2) (fa_nil)))) sc_law_drawn.nd)
    (fs_one (fs_ret (fe_def D_law_lowest hr (by decide) (fa_cons (fv 3) (fa_cons (fe_defS 0 D_law_choice hr (by decide) (fa_cons (fe_lst (fa_cons (fe_int) (fa_cons (fv 4) (fa_cons (fv 4) (fa_nil))))) (fa_nil))) (fa_cons (fv 1) (fa_cons (fv 5) (fa_nil)))))))))
theorem ok0_law_error_kind (F : FunD K "_law_error_kind" "_law_error_kind" (defArgs st_law_error_kind) (defBody st_law_error_kind) (defScope st_law_error_kind) [] [] f fd) (x_ValueError : mg "ValueError" = none ∧ ∀ k ∈ ([("ZeroDivisor", true), ("OtherRoot", true)] : List (Str × Bool)), excB k.1 K = true ∧ isaT k.1 "ValueError" k.2 K = true) (x_InvalidCommand : mg "InvalidCommand" = some (.ref (He.ga K "InvalidCommand")) ∧ ∀ k ∈ ([("ZeroDivisor", false), ("OtherRoot", false)] : List (Str × Bool)), excB k.1 K = true ∧ isaB k.1 "InvalidCommand" k.2 K = true) (x_NoMark : mg "NoMark" = some (.ref (He.ga K "NoMark")) ∧ ∀ k ∈ ([("ZeroDivisor", false), ("OtherRoot", false)] : List (Str × Bool)), excB k.1 K = true ∧ isaB k.1 "NoMark" k.2 K = true) (x_NotReached : mg "NotReached" = some (.ref (He.ga K "NotReached")) ∧ ∀ k ∈ ([("ZeroDivisor", false), ("OtherRoot", false)] : List (Str × Bool)), excB k.1 K = true ∧ isaB k.1 "NotReached" k.2 K = true) (x_Incompatible : mg "Incompatible" = some (.ref (He.ga K "Incompatible")) ∧ ∀ k ∈ ([("ZeroDivisor", false), ("OtherRoot", false)] : List (Str × Bool)), excB k.1 K = true ∧ isaB k.1 "Incompatible" k.2 K = true) (x_OutOfRange : mg "OutOfRange" = some (.ref (He.ga K "OutOfRange")) ∧ ∀ k ∈ ([("ZeroDivisor", false), ("OtherRoot", false)] : List (Str × Bool)), excB k.1 K = true ∧ isaB k.1 "OutOfRange" k.2 K = true) (x_NoVariable : mg "NoVariable" = some (.ref (He.ga K "NoVariable")) ∧ ∀ k ∈ ([("ZeroDivisor", false), ("OtherRoot", false)] : List (Str × Bool)), excB k.1 K = true ∧ isaB k.1 "NoVariable" k.2 K = true) (x_OtherRoot : mg "OtherRoot" = some (.ref (He.ga K "OtherRoot")) ∧ ∀ k ∈ ([("ZeroDivisor", false), ("OtherRoot", true)] : List (Str × Bool)), excB k.1 K = true ∧ isaB k.1 "OtherRoot" k.2 K = true) (x_ZeroDivisor : mg "ZeroDivisor" = some (.ref (He.ga K "ZeroDivisor")) ∧ ∀ k ∈ ([("ZeroDivisor", true), ("OtherRoot", false)] : List (Str × Bool)), excB k.1 K = true ∧ isaB k.1 "ZeroDivisor" k.2 K = true) (x_InvalidNumber : mg "InvalidNumber" = some (.ref (He.ga K "InvalidNumber")) ∧ ∀ k ∈ ([("ZeroDivisor", false), ("OtherRoot", false)] : List (Str × Bool)), excB k.1 K = true ∧ isaB k.1 "InvalidNumber" k.2 K = true) (x_TooMany : mg "TooMany" = some (.ref (He.ga K "TooMany")) ∧ ∀ k ∈ ([("ZeroDivisor", false), ("OtherRoot", false)] : List (Str × Bool)), excB k.1 K = true ∧ isaB k.1 "TooMany" k.2 K = true) (x_SyntaxProblem : mg "SyntaxProblem" = some (.ref (He.ga K "SyntaxProblem")) ∧ ∀ k ∈ ([("ZeroDivisor", false), ("OtherRoot", false)] : List (Str × Bool)), excB k.1 K = true ∧ isaB k.1 "SyntaxProblem" k.2 K = true) (m_isinstance : mg "isinstance" = none) : FnG P w K mg base CX0 1 f fd ["error"] (spP K (bodyP 1 3 b_law_error_kind)) :=
  fn_pure (k := 0) F sc_law_error_kind fun C cdv A outer s H E hsp hr =>
    fs_cons (fs_set 1 (fe_lst (fa_cons (fe_isC (tab := [("ZeroDivisor", false), ("OtherRoot", false)]) m_isinstance x_SyntaxProblem.1 x_SyntaxProblem.2 (fv 0)) (fa_cons (fe_isC (tab := [("ZeroDivisor", false), ("OtherRoot", false)]) m_isinstance x_TooMany.1 x_TooMany.2 (fv 0)) (fa_cons (fe_isC (tab := [("ZeroDivisor", false), ("OtherRoot", false)]) m_isinstance x_InvalidNumber.1 x_InvalidNumber.2 (fv 0)) (fa_nil))))) sc_law_error_kind.nd)
    (fs_cons (fs_set 1 (fe_add (fv 1) (fe_lst (fa_cons (fe_isC (tab := [("ZeroDivisor", true), ("OtherRoot", false)]) m_isinstance x_ZeroDivisor.1 x_ZeroDivisor.2 (fv 0)) (fa_cons (fe_isC (tab := [("ZeroDivisor", false), ("OtherRoot", true)]) m_isinstance x_OtherRoot.1 x_OtherRoot.2 (fv 0)) (fa_cons (fe_isC (tab := [("ZeroDivisor", false), ("OtherRoot", false)]) m_isinstance x_NoVariable.1 x_NoVariable.2 (fv 0)) (fa_nil)))))) sc_law_error_kind.nd)
    (fs_cons (fs_set 1 (fe_add (fv 1) (fe_lst (fa_cons (fe_isC (tab := [("ZeroDivisor", false), ("OtherRoot", false)]) m_isinstance x_OutOfRange.1 x_OutOfRange.2 (fv 0)) (fa_cons (fe_isC (tab := [("ZeroDivisor", false), ("OtherRoot", false)]) m_isinstance x_Incompatible.1 x_Incompatible.2 (fv 0)) (fa_cons (fe_isC (tab := [("ZeroDivisor", false), ("OtherRoot", false)]) m_isinstance x_NotReached.1 x_NotReached.2 (fv 0)) (fa_nil)))))) sc_law_error_kind.nd)
    (fs_cons (fs_set 1 (fe_add (fv 1) (fe_lst (fa_cons (fe_isC (tab := [("ZeroDivisor", false), ("OtherRoot", false)]) m_isinstance x_NoMark.1 x_NoMark.2 (fv 0)) (fa_cons (fe_isC (tab := [("ZeroDivisor", false), ("OtherRoot", false)]) m_isinstance x_InvalidCommand.1 x_InvalidCommand.2 (fv 0)) (fa_nil))))) sc_law_error_kind.nd)
    (fs_cons (fs_if ((fw_or (ft_ne hr.units (fe_bcount hr (fv 1)) (fe_int)) (fw_or1 (ft_not (ft_tr (fe_isT (tab := [("ZeroDivisor", true), ("OtherRoot", true)]) m_isinstance x_ValueError.1 (by decide +kernel) x_ValueError.2 (fv 0)))))).ft) (fs_one (fs_ret (fe_str))) (fs_nil))
    (fs_cons (fs_set 2 (fe_lst (fa_cons (fe_str) (fa_cons (fe_str) (fa_cons (fe_str) (fa_cons (fe_str) (fa_cons (fe_str) (fa_cons (fe_str) (fa_cons (fe_str) (fa_cons (fe_str) (fa_cons (fe_str) (fa_cons (fe_str) (fa_cons (fe_str) (fa_nil))))))))))))) sc_law_error_kind.nd)
    (fs_one (fs_ret (fe_ixn 2 (fe_bindex hr (fv 1))))))))))
theorem ok0_law_result (F : FunD K "_law_result" "_law_result" (defArgs st_law_result) (defBody st_law_result) (defScope st_law_result) [] [] f fd) (D_law_error_kind : DefOk P w K mg base 1 "_law_error_kind" ["error"] (spP K m_law_error_kind)) (D_plus : DefR P w K mg base 2 "plus" ["first", "second"] (spR K m_plus)) (D_minus : DefR P w K mg base 3 "minus" ["first", "second"] (spR K m_minus)) (D_times : DefR P w K mg base 2 "times" ["first", "second"] (spR K m_times)) (D_over : DefR P w K mg base 3 "over" ["first", "second"] (spR K m_over)) (t_TwoSpeedsError : mg "TwoSpeedsError" = some (.ref (He.ga K "TwoSpeedsError")) ∧ ∀ c ∈ (["ZeroDivisor", "OtherRoot"] : List Str), (He.Fa.exm c "TwoSpeedsError" true).ok K = true) : FnG P w K mg base CX0 4 f fd ["way", "one", "other"] (spP K (bodyP 3 6 b_law_result)) :=
  fn_pure (k := 3) F sc_law_result fun C cdv A outer s H E hsp hr =>
    fs_cons (fs_asg (fe_tup (fa_cons (fe_non) (fa_cons (fe_non) (fa_nil)))) (fg_tup rfl (fgs_cons (fg_name 3 sc_law_result.nd) (fgs_cons (fg_name 4 sc_law_result.nd) (fgs_nil)))))
    (fs_cons (fs_try (kinds := ["ZeroDivisor", "OtherRoot"]) 5 4 rfl rfl rfl sc_law_result.nd ⟨rfl, by decide, .inl t_TwoSpeedsError.1⟩ t_TwoSpeedsError.2 (fun C pn xe tk po => fs_one (fs_if (ft_eq hr.units (fv 0) (fe_int)) (fs_one (fs_setX 3 (fx_def D_plus tk hr (by decide) (fa_cons (fv 1) (fa_cons (fv 2) (fa_nil)))) sc_law_result.nd)) (fs_one (fs_if (ft_eq hr.units (fv 0) (fe_int)) (fs_one (fs_setX 3 (fx_def D_minus tk hr (by decide) (fa_cons (fv 1) (fa_cons (fv 2) (fa_nil)))) sc_law_result.nd)) (fs_one (fs_if (ft_eq hr.units (fv 0) (fe_int)) (fs_one (fs_setX 3 (fx_def D_times tk hr (by decide) (fa_cons (fv 1) (fa_cons (fv 2) (fa_nil)))) sc_law_result.nd)) (fs_one (fs_setX 3 (fx_def D_over tk hr (by decide) (fa_cons (fv 1) (fa_cons (fv 2) (fa_nil)))) sc_law_result.nd)))))))))
    (fs_one (fs_ret (fe_if (ft_isN (fv 4) (fe_non)) (fv 3) (fe_def D_law_error_kind hr (by decide) (fa_cons (fv 4) (fa_nil)))))))
theorem ok0_law_due (F : FunD K "_law_due" "_law_due" (defArgs st_law_due) (defBody st_law_due) (defScope st_law_due) [] [] f fd) (D_law_multiply : DefOk P w K mg base 3 "_law_multiply" ["one", "other"] (spP K m_law_multiply)) (D_law_inverse : DefOk P w K mg base 3 "_law_inverse" ["one"] (spP K m_law_inverse)) (D_law_add : DefOk P w K mg base 3 "_law_add" ["one", "other"] (spP K m_law_add)) (D_law_negative : DefOk P w K mg base 1 "_law_negative" ["one"] (spP K m_law_negative)) : FnG P w K mg base CX0 4 f fd ["way", "one", "other"] (spP K (bodyP 3 3 b_law_due)) :=
  fn_pure (k := 3) F sc_law_due fun C cdv A outer s H E hsp hr =>
    fs_cons (fs_if ((fw_and (ft_eq hr.units (fv 0) (fe_int)) (fw_and1 (ft_eq hr.units (fv 2) (fe_tup (fa_cons (fe_int) (fa_cons (fe_int) (fa_cons (fe_int) (fa_cons (fe_int) (fa_nil))))))))).ft) (fs_one (fs_ret (fe_str))) (fs_nil))
    (fs_cons (fs_if ((fw_and (ft_ne hr.units (fe_ixn 1 (fe_int)) (fe_ixn 2 (fe_int))) (fw_and (ft_gt (fe_ixn 1 (fe_int)) (fe_int)) (fw_and1 (ft_gt (fe_ixn 2 (fe_int)) (fe_int))))).ft) (fs_one (fs_ret (fe_str))) (fs_nil))
    (fs_cons (fs_if (ft_lt (fv 0) (fe_int)) (fs_one (fs_ret (fe_def D_law_add hr (by decide) (fa_cons (fv 1) (fa_cons (fe_if (ft_eq hr.units (fv 0) (fe_int)) (fv 2) (fe_def D_law_negative hr (by decide) (fa_cons (fv 2) (fa_nil)))) (fa_nil)))))) (fs_nil))
    (fs_one (fs_ret (fe_def D_law_multiply hr (by decide) (fa_cons (fv 1) (fa_cons (fe_if (ft_eq hr.units (fv 0) (fe_int)) (fv 2) (fe_def D_law_inverse hr (by decide) (fa_cons (fv 2) (fa_nil)))) (fa_nil))))))))
theorem ok0_law_long (F : FunD K "_law_long" "_law_long" (defArgs st_law_long) (defBody st_law_long) (defScope st_law_long) [] [] f fd) (D_law_upto : DefOk P w K mg base 2 "_law_upto" ["spool", "bound"] (spS K m_law_upto)) (m_range : mg "range" = none) : FnG P w K mg base CX0 3 f fd ["spool"] (spS K (bodyS 1 3 b_law_long)) :=
  fn_spool (k := 2) F sc_law_long fun C cdv A outer s H E hr =>
    fs_cons (fs_set 1 (fe_add (fe_int) (fe_defS 0 D_law_upto hr (by decide) (fa_cons (fe_int) (fa_nil)))) sc_law_long.nd)
    (fs_cons (fs_for PassesOwn.never rfl (fi_range1 m_range (fa_cons (fe_add (fe_int) (fe_defS 0 D_law_upto hr (by decide) (fa_cons (fe_int) (fa_nil)))) (fa_nil))) (fg_name 2 sc_law_long.nd) (fs_one (fs_set 1 (fe_add (fe_mul (fv 1) (fe_pow (fe_int) (fe_int))) (fe_defS 0 D_law_upto hr (by decide) (fa_cons (fe_pow (fe_int) (fe_int)) (fa_nil)))) sc_law_long.nd)))
    (fs_one (fs_ret (fv 1))))
theorem ok0_law_long_number (F : FunD K "_law_long_number" "_law_long_number" (defArgs st_law_long_number) (defBody st_law_long_number) (defScope st_law_long_number) [] [] f fd) (D_law_lowest : DefOk P w K mg base 2 "_law_lowest" ["p", "q", "d", "s"] (spP K m_law_lowest)) (D_law_choice : DefOk P w K mg base 3 "_law_choice" ["spool", "items"] (spS K m_law_choice)) (D_law_long : DefOk P w K mg base 3 "_law_long" ["spool"] (spS K m_law_long)) (m_range : mg "range" = none) : FnG P w K mg base CX0 4 f fd ["spool", "d"] (spS K (bodyS 2 5 b_law_long_number)) :=
  fn_spool (k := 3) F sc_law_long_number fun C cdv A outer s H E hr =>
    fs_cons (fs_asg (fe_fl (fl_lc 4 rfl sc_law_long_number.nd (blkOk_by (N := ["spool", "d", "p", "q", "part"]) (sc := defScope st_law_long_number) (by decide +kernel)) (fi_range1 m_range (fa_cons (fe_int) (fa_nil))) (fun _ _ _ _ _ => pg_name (i := 4) sc_law_long_number.nd rfl (Or.inl rfl)) (fun _ _ _ _ _ _ => fe_mul (fe_defS 0 D_law_choice hr (by decide) (fa_cons (fe_lst (fa_cons (fe_int) (fa_cons (fe_sub (fe_int) (fe_int)) (fa_nil)))) (fa_nil))) (fe_defS 0 D_law_long hr (by decide) (fa_nil))))) (fg_lst rfl (fgs_cons (fg_name 2 sc_law_long_number.nd) (fgs_cons (fg_name 3 sc_law_long_number.nd) (fgs_nil)))))
    (fs_one (fs_ret (fe_def D_law_lowest hr (by decide) (fa_cons (fv 2) (fa_cons (fv 3) (fa_cons (fv 1) (fa_cons (fe_defS 0 D_law_choice hr (by decide) (fa_cons (fe_lst (fa_cons (fe_int) (fa_cons (fe_defS 0 D_law_long hr (by decide) (fa_nil)) (fa_nil)))) (fa_nil))) (fa_nil))))))))

theorem ok_law (F : FunD K "law" "law" (defArgs st_law) (defBody st_law) (defScope st_law) [] [] f fd) (D_law_alike : DefOk P w K mg base 1 "_law_alike" ["one", "other"] (spP K m_law_alike)) (D_law_negative : DefOk P w K mg base 1 "_law_negative" ["one"] (spP K m_law_negative)) (D_opposite : DefOk P w K mg base 1 "opposite" ["one"] (spP K m_opposite)) (D_law_due : DefOk P w K mg base 4 "_law_due" ["way", "one", "other"] (spP K m_law_due)) (D_law_result : DefOk P w K mg base 4 "_law_result" ["way", "one", "other"] (spP K m_law_result)) (D_law_choice : DefOk P w K mg base 3 "_law_choice" ["spool", "items"] (spS K m_law_choice)) (D_law_drawn : DefOk P w K mg base 4 "_law_drawn" ["spool", "d", "size"] (spS K m_law_drawn)) (D_law_long_number : DefOk P w K mg base 4 "_law_long_number" ["spool", "d"] (spS K m_law_long_number)) (D_law_spool_of : DefOk P w K mg base 1 "_law_spool_of" ["script"] (spN K mN_law_spool_of)) (m_range : mg "range" = none) : FnG P w K mg base CX0 5 f fd ["script"] (spLaw K) := by
  obtain ⟨fa1, fd1, F1, hm1, hk1, hb1⟩ := D_law_spool_of
  exact fn_law (k := 4) sf F sc_law rfl
    (fun C cdv A outer s H E hr => ps_set sc_law.nd rfl (Or.inl rfl) (pe_callG (F1.mono (by decide)) hr rfl hm1 hk1 hb1 .nil pass0 (pa_cons (pe_var rfl (Or.inl rfl) (by decide) (by decide)) pa_nil rfl) (by decide) rfl rfl) rfl (.inl rfl))
    (fun C cdv A outer s H E hr => fs_cons (fs_for PassesOwn.never rfl (fi_range1 m_range (fa_cons (fe_int) (fa_nil))) (fg_name 2 sc_law.nd) (fs_cons (fs_set 3 (fe_defS 1 D_law_choice hr (by decide) (fa_cons (fe_lst (fa_cons (fe_int) (fa_cons (fe_int) (fa_cons (fe_int) (fa_cons (fe_int) (fa_cons (fe_int) (fa_nil))))))) (fa_nil))) sc_law.nd)
    (fs_cons (fs_set 4 (fe_defS 1 D_law_choice hr (by decide) (fa_cons (fe_lst (fa_cons (fe_int) (fa_cons (fe_int) (fa_cons (fe_int) (fa_cons (fe_pow (fe_int) (fe_int)) (fa_nil)))))) (fa_nil))) sc_law.nd)
    (fs_cons (fs_set 5 (fe_if (ft_ne hr.units (fv 2) (fe_int)) (fe_defS 1 D_law_drawn hr (by decide) (fa_cons (fv 3) (fa_cons (fv 4) (fa_nil)))) (fe_defS 1 D_law_long_number hr (by decide) (fa_cons (fv 3) (fa_nil)))) sc_law.nd)
    (fs_cons (fs_set 6 (fe_lst (fa_cons (fe_defS 1 D_law_drawn hr (by decide) (fa_cons (fv 3) (fa_cons (fv 4) (fa_nil)))) (fa_cons (fv 5) (fa_cons (fe_def D_law_negative hr (by decide) (fa_cons (fv 5) (fa_nil))) (fa_cons (fe_tup (fa_cons (fe_int) (fa_cons (fe_int) (fa_cons (fe_int) (fa_cons (fe_int) (fa_nil)))))) (fa_cons (fe_defS 1 D_law_drawn hr (by decide) (fa_cons (fe_int) (fa_cons (fe_int) (fa_nil)))) (fa_nil))))))) sc_law.nd)
    (fs_cons (fs_set 7 (fe_defS 1 D_law_choice hr (by decide) (fa_cons (fv 6) (fa_nil))) sc_law.nd)
    (fs_cons (fs_for PassesOwn.never rfl (fi_list (fe_lst (fa_cons (fe_tup (fa_cons (fv 5) (fa_cons (fv 7) (fa_nil)))) (fa_cons (fe_tup (fa_cons (fv 7) (fa_cons (fv 5) (fa_nil)))) (fa_nil))))) (fg_tup rfl (fgs_cons (fg_name 8 sc_law.nd) (fgs_cons (fg_name 9 sc_law.nd) (fgs_nil)))) (fs_one (fs_for PassesOwn.never rfl (fi_range1 m_range (fa_cons (fe_int) (fa_nil))) (fg_name 10 sc_law.nd) (fs_one (fs_if (ft_not (ft_tr (fe_def D_law_alike hr (by decide) (fa_cons (fe_def D_law_result hr (by decide) (fa_cons (fv 10) (fa_cons (fv 8) (fa_cons (fv 9) (fa_nil))))) (fa_cons (fe_def D_law_due hr (by decide) (fa_cons (fv 10) (fa_cons (fv 8) (fa_cons (fv 9) (fa_nil))))) (fa_nil)))))) (fs_one (fs_ret (fe_bl))) (fs_nil))))))
    (fs_one (fs_if (ft_not (ft_tr (fe_def D_law_alike hr (by decide) (fa_cons (fe_def D_opposite hr (by decide) (fa_cons (fv 5) (fa_nil))) (fa_cons (fe_def D_law_negative hr (by decide) (fa_cons (fv 5) (fa_nil))) (fa_nil)))))) (fs_one (fs_ret (fe_bl))) (fs_nil))))))))))
    (fs_one (fs_ret (fe_bl)))) (by decide) law_ok
end
def d_lowest : He.DefD := ⟨("lowest", none), "lowest", "lowest", defArgs st_lowest, defBody st_lowest, defScope st_lowest, [], []⟩
def d_plus : He.DefD := ⟨("plus", none), "plus", "plus", defArgs st_plus, defBody st_plus, defScope st_plus, [], []⟩
def d_minus : He.DefD := ⟨("minus", none), "minus", "minus", defArgs st_minus, defBody st_minus, defScope st_minus, [], []⟩
def d_times : He.DefD := ⟨("times", none), "times", "times", defArgs st_times, defBody st_times, defScope st_times, [], []⟩
def d_over : He.DefD := ⟨("over", none), "over", "over", defArgs st_over, defBody st_over, defScope st_over, [], []⟩
def d_opposite : He.DefD := ⟨("opposite", none), "opposite", "opposite", defArgs st_opposite, defBody st_opposite, defScope st_opposite, [], []⟩
def d_common_root : He.DefD := ⟨("common_root", none), "common_root", "common_root", defArgs st_common_root, defBody st_common_root, defScope st_common_root, [], []⟩
def d_law_stirred : He.DefD := ⟨("_law_stirred", none), "_law_stirred", "_law_stirred", defArgs st_law_stirred, defBody st_law_stirred, defScope st_law_stirred, [], []⟩
def d_law_spool_of : He.DefD := ⟨("_law_spool_of", none), "_law_spool_of", "_law_spool_of", defArgs st_law_spool_of, defBody st_law_spool_of, defScope st_law_spool_of, [], []⟩
def d_law_upto : He.DefD := ⟨("_law_upto", none), "_law_upto", "_law_upto", defArgs st_law_upto, defBody st_law_upto, defScope st_law_upto, [], []⟩
def d_law_choice : He.DefD := ⟨("_law_choice", none), "_law_choice", "_law_choice", defArgs st_law_choice, defBody st_law_choice, defScope st_law_choice, [], []⟩
def d_law_alike : He.DefD := ⟨("_law_alike", none), "_law_alike", "_law_alike", defArgs st_law_alike, defBody st_law_alike, defScope st_law_alike, [], []⟩
def d_law_common : He.DefD := ⟨("_law_common", none), "_law_common", "_law_common", defArgs st_law_common, defBody st_law_common, defScope st_law_common, [], []⟩
def d_law_square_root : He.DefD := ⟨("_law_square_root", none), "_law_square_root", "_law_square_root", defArgs st_law_square_root, defBody st_law_square_root, defScope st_law_square_root, [], []⟩
def d_law_lowest : He.DefD := ⟨("_law_lowest", none), "_law_lowest", "_law_lowest", defArgs st_law_lowest, defBody st_law_lowest, defScope st_law_lowest, [], []⟩
def d_law_add : He.DefD := ⟨("_law_add", none), "_law_add", "_law_add", defArgs st_law_add, defBody st_law_add, defScope st_law_add, [], []⟩
def d_law_negative : He.DefD := ⟨("_law_negative", none), "_law_negative", "_law_negative", defArgs st_law_negative, defBody st_law_negative, defScope st_law_negative, [], []⟩
def d_law_multiply : He.DefD := ⟨("_law_multiply", none), "_law_multiply", "_law_multiply", defArgs st_law_multiply, defBody st_law_multiply, defScope st_law_multiply, [], []⟩
def d_law_inverse : He.DefD := ⟨("_law_inverse", none), "_law_inverse", "_law_inverse", defArgs st_law_inverse, defBody st_law_inverse, defScope st_law_inverse, [], []⟩
def d_law_scaled : He.DefD := ⟨("_law_scaled", none), "_law_scaled", "_law_scaled", defArgs st_law_scaled, defBody st_law_scaled, defScope st_law_scaled, [], []⟩
def d_law_sign_of : He.DefD := ⟨("_law_sign_of", none), "_law_sign_of", "_law_sign_of", defArgs st_law_sign_of, defBody st_law_sign_of, defScope st_law_sign_of, [], []⟩
def d_law_whole_part : He.DefD := ⟨("_law_whole_part", none), "_law_whole_part", "_law_whole_part", defArgs st_law_whole_part, defBody st_law_whole_part, defScope st_law_whole_part, [], []⟩
def d_law_drawn : He.DefD := ⟨("_law_drawn", none), "_law_drawn", "_law_drawn", defArgs st_law_drawn, defBody st_law_drawn, defScope st_law_drawn, [], []⟩
def d_law_drawn_ratio : He.DefD := ⟨("_law_drawn_ratio", none), "_law_drawn_ratio", "_law_drawn_ratio", defArgs st_law_drawn_ratio, defBody st_law_drawn_ratio, defScope st_law_drawn_ratio, [], []⟩
def d_law_rooted_ratio : He.DefD := ⟨("_law_rooted_ratio", none), "_law_rooted_ratio", "_law_rooted_ratio", defArgs st_law_rooted_ratio, defBody st_law_rooted_ratio, defScope st_law_rooted_ratio, [], []⟩
def d_law_error_kind : He.DefD := ⟨("_law_error_kind", none), "_law_error_kind", "_law_error_kind", defArgs st_law_error_kind, defBody st_law_error_kind, defScope st_law_error_kind, [], []⟩
def d_law_result : He.DefD := ⟨("_law_result", none), "_law_result", "_law_result", defArgs st_law_result, defBody st_law_result, defScope st_law_result, [], []⟩
def d_law_due : He.DefD := ⟨("_law_due", none), "_law_due", "_law_due", defArgs st_law_due, defBody st_law_due, defScope st_law_due, [], []⟩
def d_law_long : He.DefD := ⟨("_law_long", none), "_law_long", "_law_long", defArgs st_law_long, defBody st_law_long, defScope st_law_long, [], []⟩
def d_law_long_number : He.DefD := ⟨("_law_long_number", none), "_law_long_number", "_law_long_number", defArgs st_law_long_number, defBody st_law_long_number, defScope st_law_long_number, [], []⟩
def d_law : He.DefD := ⟨("law", none), "law", "law", defArgs st_law, defBody st_law, defScope st_law, [], []⟩
def fnL : List He.DefD := ([d_lowest, d_plus, d_minus, d_times, d_over, d_opposite, d_common_root, d_law_stirred, d_law_spool_of, d_law_upto, d_law_choice, d_law_alike, d_law_common, d_law_square_root, d_law_lowest, d_law_add, d_law_negative, d_law_multiply, d_law_inverse, d_law_scaled, d_law_sign_of, d_law_whole_part, d_law_drawn, d_law_drawn_ratio, d_law_rooted_ratio, d_law_error_kind, d_law_result, d_law_due, d_law_long, d_law_long_number, d_law] : List He.DefD)
def faL : List He.Fa := ([.glo "lowest", .glo "plus", .glo "minus", .glo "times", .glo "over", .glo "opposite", .glo "common_root", .glo "_law_stirred", .glo "_law_spool_of", .glo "_law_upto", .glo "_law_choice", .glo "_law_alike", .glo "_law_common", .glo "_law_square_root", .glo "_law_lowest", .glo "_law_add", .glo "_law_negative", .glo "_law_multiply", .glo "_law_inverse", .glo "_law_scaled", .glo "_law_sign_of", .glo "_law_whole_part", .glo "_law_drawn", .glo "_law_drawn_ratio", .glo "_law_rooted_ratio", .glo "_law_error_kind", .glo "_law_result", .glo "_law_due", .glo "_law_long", .glo "_law_long_number", .glo "law", .free "max", .free "range", .free "abs", .free "enumerate"] : List He.Fa) ++ ([.free "len", .free "repr", .free "isinstance", .free "ValueError", .glo "ZeroDivisor", .glo "OtherRoot", .glo "TwoSpeedsError", .glo "InvalidCommand", .glo "NoMark", .glo "NotReached", .glo "Incompatible", .glo "OutOfRange", .glo "NoVariable", .glo "InvalidNumber", .glo "TooMany", .glo "SyntaxProblem", .exc "ZeroDivisor", .exc "OtherRoot", .exm "ZeroDivisor" "TwoSpeedsError" true, .exm "OtherRoot" "TwoSpeedsError" true] : List He.Fa)
def exB (K : PySem.W.Frag) : Bool := (bltB "gcd" "math.gcd" K) && (digB K) && (excB "ZeroDivisor" K) && (excB "OtherRoot" K) && (isaT "ZeroDivisor" "ValueError" true K) && (isaT "OtherRoot" "ValueError" true K) && (isaB "ZeroDivisor" "InvalidCommand" false K) && (isaB "OtherRoot" "InvalidCommand" false K) && (isaB "ZeroDivisor" "NoMark" false K) && (isaB "OtherRoot" "NoMark" false K) && (isaB "ZeroDivisor" "NotReached" false K) && (isaB "OtherRoot" "NotReached" false K) && (isaB "ZeroDivisor" "Incompatible" false K) && (isaB "OtherRoot" "Incompatible" false K) && (isaB "ZeroDivisor" "OutOfRange" false K) && (isaB "OtherRoot" "OutOfRange" false K) && (isaB "ZeroDivisor" "NoVariable" false K) && (isaB "OtherRoot" "NoVariable" false K) && (isaB "ZeroDivisor" "OtherRoot" false K) && (isaB "OtherRoot" "OtherRoot" true K) && (isaB "ZeroDivisor" "ZeroDivisor" true K) && (isaB "OtherRoot" "ZeroDivisor" false K) && (isaB "ZeroDivisor" "InvalidNumber" false K) && (isaB "OtherRoot" "InvalidNumber" false K) && (isaB "ZeroDivisor" "TooMany" false K) && (isaB "OtherRoot" "TooMany" false K) && (isaB "ZeroDivisor" "SyntaxProblem" false K) && (isaB "OtherRoot" "SyntaxProblem" false K)
abbrev Rw : PySem.W.OpenRow := PySem.W.OpenLaw.row PySem.Challenge.rw_twospeeds_k03_arithmetic
abbrev hk : PySem.W.Hook := hookX 4 faL fnL exB
def loose : List PySem.Str := ([("TwoSpeedsError" : PySem.Str), ("SyntaxProblem" : PySem.Str), ("TooMany" : PySem.Str), ("InvalidNumber" : PySem.Str), ("ZeroDivisor" : PySem.Str), ("OtherRoot" : PySem.Str), ("NoVariable" : PySem.Str), ("OutOfRange" : PySem.Str), ("Incompatible" : PySem.Str), ("NotReached" : PySem.Str), ("NoMark" : PySem.Str), ("InvalidCommand" : PySem.Str), ("lowest" : PySem.Str), ("plus" : PySem.Str), ("minus" : PySem.Str), ("times" : PySem.Str), ("over" : PySem.Str), ("opposite" : PySem.Str), ("common_root" : PySem.Str), ("_law_stirred" : PySem.Str), ("_law_spool_of" : PySem.Str), ("_law_upto" : PySem.Str), ("_law_choice" : PySem.Str), ("_law_alike" : PySem.Str), ("_law_common" : PySem.Str), ("_law_square_root" : PySem.Str), ("_law_lowest" : PySem.Str), ("_law_add" : PySem.Str), ("_law_negative" : PySem.Str), ("_law_multiply" : PySem.Str), ("_law_inverse" : PySem.Str), ("_law_scaled" : PySem.Str), ("_law_sign_of" : PySem.Str), ("_law_whole_part" : PySem.Str), ("_law_drawn" : PySem.Str)] : List PySem.Str) ++ ([("_law_drawn_ratio" : PySem.Str), ("_law_rooted_ratio" : PySem.Str), ("_law_error_kind" : PySem.Str), ("_law_result" : PySem.Str), ("_law_due" : PySem.Str), ("_law_long" : PySem.Str), ("_law_long_number" : PySem.Str)] : List PySem.Str)
theorem run (w : World) : HandSHeadRun.RunEqI Rw (PySem.W.view Rw.prog [0, 46]) hk (obT 4 faL fnL exB) 8000 loose w := by
  unfold HandSHeadRun.RunEqI
  kernel_rfl
theorem facts {P : Program} {w : World} {K : PySem.W.Frag} {h : Heap} {mg : Str → Option Value} {f : Addr} (X : K.In h) (G : h.Ns mainGlobals mg) (hfa : mg ("law" : Str) = some (.ref f)) (c : He.SaysD faL fnL K) (cx : exB K = true) :
    ∃ fd : FuncData, (∀ (s : Shared) (v : Value), BindsTo s fd ⟨[v], []⟩ [("script", v)]) ∧ ∀ base : Heap, K.In base → base.Ns mainGlobals mg → FnG P w K mg base CX0 5 f fd ["script"] (spLaw K) := by
  have c0 := c
  obtain ⟨fd_lowest, F_lowest⟩ := c.def_ 0 (d := d_lowest) rfl
  have g_lowest := He.glo_ok X G (c.fact 0 (f := .glo "lowest") rfl)
  obtain ⟨fd_plus, F_plus⟩ := c.def_ 1 (d := d_plus) rfl
  have g_plus := He.glo_ok X G (c.fact 1 (f := .glo "plus") rfl)
  obtain ⟨fd_minus, F_minus⟩ := c.def_ 2 (d := d_minus) rfl
  have g_minus := He.glo_ok X G (c.fact 2 (f := .glo "minus") rfl)
  obtain ⟨fd_times, F_times⟩ := c.def_ 3 (d := d_times) rfl
  have g_times := He.glo_ok X G (c.fact 3 (f := .glo "times") rfl)
  obtain ⟨fd_over, F_over⟩ := c.def_ 4 (d := d_over) rfl
  have g_over := He.glo_ok X G (c.fact 4 (f := .glo "over") rfl)
  obtain ⟨fd_opposite, F_opposite⟩ := c.def_ 5 (d := d_opposite) rfl
  have g_opposite := He.glo_ok X G (c.fact 5 (f := .glo "opposite") rfl)
  obtain ⟨fd_common_root, F_common_root⟩ := c.def_ 6 (d := d_common_root) rfl
  have g_common_root := He.glo_ok X G (c.fact 6 (f := .glo "common_root") rfl)
  obtain ⟨fd_law_stirred, F_law_stirred⟩ := c.def_ 7 (d := d_law_stirred) rfl
  have g_law_stirred := He.glo_ok X G (c.fact 7 (f := .glo "_law_stirred") rfl)
  obtain ⟨fd_law_spool_of, F_law_spool_of⟩ := c.def_ 8 (d := d_law_spool_of) rfl
  have g_law_spool_of := He.glo_ok X G (c.fact 8 (f := .glo "_law_spool_of") rfl)
  obtain ⟨fd_law_upto, F_law_upto⟩ := c.def_ 9 (d := d_law_upto) rfl
  have g_law_upto := He.glo_ok X G (c.fact 9 (f := .glo "_law_upto") rfl)
  obtain ⟨fd_law_choice, F_law_choice⟩ := c.def_ 10 (d := d_law_choice) rfl
  have g_law_choice := He.glo_ok X G (c.fact 10 (f := .glo "_law_choice") rfl)
  obtain ⟨fd_law_alike, F_law_alike⟩ := c.def_ 11 (d := d_law_alike) rfl
  have g_law_alike := He.glo_ok X G (c.fact 11 (f := .glo "_law_alike") rfl)
  obtain ⟨fd_law_common, F_law_common⟩ := c.def_ 12 (d := d_law_common) rfl
  have g_law_common := He.glo_ok X G (c.fact 12 (f := .glo "_law_common") rfl)
  obtain ⟨fd_law_square_root, F_law_square_root⟩ := c.def_ 13 (d := d_law_square_root) rfl
  have g_law_square_root := He.glo_ok X G (c.fact 13 (f := .glo "_law_square_root") rfl)
  obtain ⟨fd_law_lowest, F_law_lowest⟩ := c.def_ 14 (d := d_law_lowest) rfl
  have g_law_lowest := He.glo_ok X G (c.fact 14 (f := .glo "_law_lowest") rfl)
  obtain ⟨fd_law_add, F_law_add⟩ := c.def_ 15 (d := d_law_add) rfl
  have g_law_add := He.glo_ok X G (c.fact 15 (f := .glo "_law_add") rfl)
  obtain ⟨fd_law_negative, F_law_negative⟩ := c.def_ 16 (d := d_law_negative) rfl
  have g_law_negative := He.glo_ok X G (c.fact 16 (f := .glo "_law_negative") rfl)
  obtain ⟨fd_law_multiply, F_law_multiply⟩ := c.def_ 17 (d := d_law_multiply) rfl
  have g_law_multiply := He.glo_ok X G (c.fact 17 (f := .glo "_law_multiply") rfl)
  obtain ⟨fd_law_inverse, F_law_inverse⟩ := c.def_ 18 (d := d_law_inverse) rfl
  have g_law_inverse := He.glo_ok X G (c.fact 18 (f := .glo "_law_inverse") rfl)
  obtain ⟨fd_law_scaled, F_law_scaled⟩ := c.def_ 19 (d := d_law_scaled) rfl
  have g_law_scaled := He.glo_ok X G (c.fact 19 (f := .glo "_law_scaled") rfl)
  obtain ⟨fd_law_sign_of, F_law_sign_of⟩ := c.def_ 20 (d := d_law_sign_of) rfl
  have g_law_sign_of := He.glo_ok X G (c.fact 20 (f := .glo "_law_sign_of") rfl)
  obtain ⟨fd_law_whole_part, F_law_whole_part⟩ := c.def_ 21 (d := d_law_whole_part) rfl
  have g_law_whole_part := He.glo_ok X G (c.fact 21 (f := .glo "_law_whole_part") rfl)
  obtain ⟨fd_law_drawn, F_law_drawn⟩ := c.def_ 22 (d := d_law_drawn) rfl
  have g_law_drawn := He.glo_ok X G (c.fact 22 (f := .glo "_law_drawn") rfl)
  obtain ⟨fd_law_drawn_ratio, F_law_drawn_ratio⟩ := c.def_ 23 (d := d_law_drawn_ratio) rfl
  have g_law_drawn_ratio := He.glo_ok X G (c.fact 23 (f := .glo "_law_drawn_ratio") rfl)
  obtain ⟨fd_law_rooted_ratio, F_law_rooted_ratio⟩ := c.def_ 24 (d := d_law_rooted_ratio) rfl
  have g_law_rooted_ratio := He.glo_ok X G (c.fact 24 (f := .glo "_law_rooted_ratio") rfl)
  obtain ⟨fd_law_error_kind, F_law_error_kind⟩ := c.def_ 25 (d := d_law_error_kind) rfl
  have g_law_error_kind := He.glo_ok X G (c.fact 25 (f := .glo "_law_error_kind") rfl)
  obtain ⟨fd_law_result, F_law_result⟩ := c.def_ 26 (d := d_law_result) rfl
  have g_law_result := He.glo_ok X G (c.fact 26 (f := .glo "_law_result") rfl)
  obtain ⟨fd_law_due, F_law_due⟩ := c.def_ 27 (d := d_law_due) rfl
  have g_law_due := He.glo_ok X G (c.fact 27 (f := .glo "_law_due") rfl)
  obtain ⟨fd_law_long, F_law_long⟩ := c.def_ 28 (d := d_law_long) rfl
  have g_law_long := He.glo_ok X G (c.fact 28 (f := .glo "_law_long") rfl)
  obtain ⟨fd_law_long_number, F_law_long_number⟩ := c.def_ 29 (d := d_law_long_number) rfl
  have g_law_long_number := He.glo_ok X G (c.fact 29 (f := .glo "_law_long_number") rfl)
  obtain ⟨fd_law, F_law⟩ := c.def_ 30 (d := d_law) rfl
  have g_law := He.glo_ok X G (c.fact 30 (f := .glo "law") rfl)
  have m_max := He.free_ok X G (c.fact 31 (f := .free "max") rfl)
  have m_range := He.free_ok X G (c.fact 32 (f := .free "range") rfl)
  have m_abs := He.free_ok X G (c.fact 33 (f := .free "abs") rfl)
  have m_enumerate := He.free_ok X G (c.fact 34 (f := .free "enumerate") rfl)
  have m_len := He.free_ok X G (c.fact 35 (f := .free "len") rfl)
  have m_repr := He.free_ok X G (c.fact 36 (f := .free "repr") rfl)
  have m_isinstance := He.free_ok X G (c.fact 37 (f := .free "isinstance") rfl)
  have m_ValueError := He.free_ok X G (c.fact 38 (f := .free "ValueError") rfl)
  have gl_ZeroDivisor := He.glo_ok X G (c.fact 39 (f := .glo "ZeroDivisor") rfl)
  have gl_OtherRoot := He.glo_ok X G (c.fact 40 (f := .glo "OtherRoot") rfl)
  have gl_TwoSpeedsError := He.glo_ok X G (c.fact 41 (f := .glo "TwoSpeedsError") rfl)
  have gl_InvalidCommand := He.glo_ok X G (c.fact 42 (f := .glo "InvalidCommand") rfl)
  have gl_NoMark := He.glo_ok X G (c.fact 43 (f := .glo "NoMark") rfl)
  have gl_NotReached := He.glo_ok X G (c.fact 44 (f := .glo "NotReached") rfl)
  have gl_Incompatible := He.glo_ok X G (c.fact 45 (f := .glo "Incompatible") rfl)
  have gl_OutOfRange := He.glo_ok X G (c.fact 46 (f := .glo "OutOfRange") rfl)
  have gl_NoVariable := He.glo_ok X G (c.fact 47 (f := .glo "NoVariable") rfl)
  have gl_InvalidNumber := He.glo_ok X G (c.fact 48 (f := .glo "InvalidNumber") rfl)
  have gl_TooMany := He.glo_ok X G (c.fact 49 (f := .glo "TooMany") rfl)
  have gl_SyntaxProblem := He.glo_ok X G (c.fact 50 (f := .glo "SyntaxProblem") rfl)
  have R_ZeroDivisor : mg "ZeroDivisor" = some (.ref (He.ga K "ZeroDivisor")) ∧ (He.Fa.exc "ZeroDivisor").ok K = true := ⟨gl_ZeroDivisor, c.fact 51 (f := .exc "ZeroDivisor") rfl⟩
  have R_OtherRoot : mg "OtherRoot" = some (.ref (He.ga K "OtherRoot")) ∧ (He.Fa.exc "OtherRoot").ok K = true := ⟨gl_OtherRoot, c.fact 52 (f := .exc "OtherRoot") rfl⟩
  have t_TwoSpeedsError : mg "TwoSpeedsError" = some (.ref (He.ga K "TwoSpeedsError")) ∧ ∀ c ∈ (["ZeroDivisor", "OtherRoot"] : List Str), (He.Fa.exm c "TwoSpeedsError" true).ok K = true := ⟨gl_TwoSpeedsError, (by
    intro c hc
    simp only [List.mem_cons, List.not_mem_nil, or_false] at hc
    rcases hc with rfl | rfl
    · exact c0.fact 53 (f := .exm "ZeroDivisor" "TwoSpeedsError" true) rfl
    · exact c0.fact 54 (f := .exm "OtherRoot" "TwoSpeedsError" true) rfl)⟩
  unfold exB at cx
  simp only [Bool.and_eq_true] at cx
  obtain ⟨⟨⟨⟨⟨⟨⟨⟨⟨⟨⟨⟨⟨⟨⟨⟨⟨⟨⟨⟨⟨⟨⟨⟨⟨⟨⟨x0, x1⟩, x2⟩, x3⟩, x4⟩, x5⟩, x6⟩, x7⟩, x8⟩, x9⟩, x10⟩, x11⟩, x12⟩, x13⟩, x14⟩, x15⟩, x16⟩, x17⟩, x18⟩, x19⟩, x20⟩, x21⟩, x22⟩, x23⟩, x24⟩, x25⟩, x26⟩, x27⟩ := cx
  have m_gcd := blt_ok X G x0
  have xdig := x1
  have x_ValueError : mg "ValueError" = none ∧ ∀ k ∈ ([("ZeroDivisor", true), ("OtherRoot", true)] : List (Str × Bool)), excB k.1 K = true ∧ isaT k.1 "ValueError" k.2 K = true := ⟨m_ValueError, (by
    intro c hc
    simp only [List.mem_cons, List.not_mem_nil, or_false] at hc
    rcases hc with rfl | rfl
    · exact ⟨x2, x4⟩
    · exact ⟨x3, x5⟩)⟩
  have x_InvalidCommand : mg "InvalidCommand" = some (.ref (He.ga K "InvalidCommand")) ∧ ∀ k ∈ ([("ZeroDivisor", false), ("OtherRoot", false)] : List (Str × Bool)), excB k.1 K = true ∧ isaB k.1 "InvalidCommand" k.2 K = true := ⟨gl_InvalidCommand, (by
    intro c hc
    simp only [List.mem_cons, List.not_mem_nil, or_false] at hc
    rcases hc with rfl | rfl
    · exact ⟨x2, x6⟩
    · exact ⟨x3, x7⟩)⟩
  have x_NoMark : mg "NoMark" = some (.ref (He.ga K "NoMark")) ∧ ∀ k ∈ ([("ZeroDivisor", false), ("OtherRoot", false)] : List (Str × Bool)), excB k.1 K = true ∧ isaB k.1 "NoMark" k.2 K = true := ⟨gl_NoMark, (by
    intro c hc
    simp only [List.mem_cons, List.not_mem_nil, or_false] at hc
    rcases hc with rfl | rfl
    · exact ⟨x2, x8⟩
    · exact ⟨x3, x9⟩)⟩
  have x_NotReached : mg "NotReached" = some (.ref (He.ga K "NotReached")) ∧ ∀ k ∈ ([("ZeroDivisor", false), ("OtherRoot", false)] : List (Str × Bool)), excB k.1 K = true ∧ isaB k.1 "NotReached" k.2 K = true := ⟨gl_NotReached, (by
    intro c hc
    simp only [List.mem_cons, List.not_mem_nil, or_false] at hc
    rcases hc with rfl | rfl
    · exact ⟨x2, x10⟩
    · exact ⟨x3, x11⟩)⟩
  have x_Incompatible : mg "Incompatible" = some (.ref (He.ga K "Incompatible")) ∧ ∀ k ∈ ([("ZeroDivisor", false), ("OtherRoot", false)] : List (Str × Bool)), excB k.1 K = true ∧ isaB k.1 "Incompatible" k.2 K = true := ⟨gl_Incompatible, (by
    intro c hc
    simp only [List.mem_cons, List.not_mem_nil, or_false] at hc
    rcases hc with rfl | rfl
    · exact ⟨x2, x12⟩
    · exact ⟨x3, x13⟩)⟩
  have x_OutOfRange : mg "OutOfRange" = some (.ref (He.ga K "OutOfRange")) ∧ ∀ k ∈ ([("ZeroDivisor", false), ("OtherRoot", false)] : List (Str × Bool)), excB k.1 K = true ∧ isaB k.1 "OutOfRange" k.2 K = true := ⟨gl_OutOfRange, (by
    intro c hc
    simp only [List.mem_cons, List.not_mem_nil, or_false] at hc
    rcases hc with rfl | rfl
    · exact ⟨x2, x14⟩
    · exact ⟨x3, x15⟩)⟩
  have x_NoVariable : mg "NoVariable" = some (.ref (He.ga K "NoVariable")) ∧ ∀ k ∈ ([("ZeroDivisor", false), ("OtherRoot", false)] : List (Str × Bool)), excB k.1 K = true ∧ isaB k.1 "NoVariable" k.2 K = true := ⟨gl_NoVariable, (by
    intro c hc
    simp only [List.mem_cons, List.not_mem_nil, or_false] at hc
    rcases hc with rfl | rfl
    · exact ⟨x2, x16⟩
    · exact ⟨x3, x17⟩)⟩
  have x_OtherRoot : mg "OtherRoot" = some (.ref (He.ga K "OtherRoot")) ∧ ∀ k ∈ ([("ZeroDivisor", false), ("OtherRoot", true)] : List (Str × Bool)), excB k.1 K = true ∧ isaB k.1 "OtherRoot" k.2 K = true := ⟨gl_OtherRoot, (by
    intro c hc
    simp only [List.mem_cons, List.not_mem_nil, or_false] at hc
    rcases hc with rfl | rfl
    · exact ⟨x2, x18⟩
    · exact ⟨x3, x19⟩)⟩
  have x_ZeroDivisor : mg "ZeroDivisor" = some (.ref (He.ga K "ZeroDivisor")) ∧ ∀ k ∈ ([("ZeroDivisor", true), ("OtherRoot", false)] : List (Str × Bool)), excB k.1 K = true ∧ isaB k.1 "ZeroDivisor" k.2 K = true := ⟨gl_ZeroDivisor, (by
    intro c hc
    simp only [List.mem_cons, List.not_mem_nil, or_false] at hc
    rcases hc with rfl | rfl
    · exact ⟨x2, x20⟩
    · exact ⟨x3, x21⟩)⟩
  have x_InvalidNumber : mg "InvalidNumber" = some (.ref (He.ga K "InvalidNumber")) ∧ ∀ k ∈ ([("ZeroDivisor", false), ("OtherRoot", false)] : List (Str × Bool)), excB k.1 K = true ∧ isaB k.1 "InvalidNumber" k.2 K = true := ⟨gl_InvalidNumber, (by
    intro c hc
    simp only [List.mem_cons, List.not_mem_nil, or_false] at hc
    rcases hc with rfl | rfl
    · exact ⟨x2, x22⟩
    · exact ⟨x3, x23⟩)⟩
  have x_TooMany : mg "TooMany" = some (.ref (He.ga K "TooMany")) ∧ ∀ k ∈ ([("ZeroDivisor", false), ("OtherRoot", false)] : List (Str × Bool)), excB k.1 K = true ∧ isaB k.1 "TooMany" k.2 K = true := ⟨gl_TooMany, (by
    intro c hc
    simp only [List.mem_cons, List.not_mem_nil, or_false] at hc
    rcases hc with rfl | rfl
    · exact ⟨x2, x24⟩
    · exact ⟨x3, x25⟩)⟩
  have x_SyntaxProblem : mg "SyntaxProblem" = some (.ref (He.ga K "SyntaxProblem")) ∧ ∀ k ∈ ([("ZeroDivisor", false), ("OtherRoot", false)] : List (Str × Bool)), excB k.1 K = true ∧ isaB k.1 "SyntaxProblem" k.2 K = true := ⟨gl_SyntaxProblem, (by
    intro c hc
    simp only [List.mem_cons, List.not_mem_nil, or_false] at hc
    rcases hc with rfl | rfl
    · exact ⟨x2, x26⟩
    · exact ⟨x3, x27⟩)⟩
  have e := hfa.symm.trans g_law
  cases e
  have b := L2.FunD.bindsA (ps := ["script"]) F_law fun _ _ _ _ _ _ us hl => match us, hl with | [_], _ => rfl
  refine ⟨fd_law, fun s v => b s [v] rfl, fun base _ _ => ?_⟩
  have D_lowest : DefOk P w K mg base 1 "lowest" ["p", "q", "d", "s"] (spP K m_lowest) := def_ok (st := st_lowest) F_lowest g_lowest (FD.FnG.toP (ok0_lowest F_lowest m_gcd) t_lowest) fun _ _ _ _ _ _ us hl => match us, hl with | [_, _, _, _], _ => rfl
  have D_opposite : DefOk P w K mg base 1 "opposite" ["one"] (spP K m_opposite) := def_ok (st := st_opposite) F_opposite g_opposite (FD.FnG.toP (ok0_opposite F_opposite ) t_opposite) fun _ _ _ _ _ _ us hl => match us, hl with | [_], _ => rfl
  have D_common_root : DefR P w K mg base 1 "common_root" ["first", "second"] (spR K m_common_root) := defR_ok (st := st_common_root) F_common_root g_common_root (FnG.toR (ok0_common_root F_common_root R_OtherRoot m_max) t_common_root) fun _ _ _ _ _ _ us hl => match us, hl with | [_, _], _ => rfl
  have D_law_stirred : DefOk P w K mg base 1 "_law_stirred" ["cell", "place"] (spP K m_law_stirred) := def_ok (st := st_law_stirred) F_law_stirred g_law_stirred (FD.FnG.toP (ok0_law_stirred F_law_stirred m_range) t_law_stirred) fun _ _ _ _ _ _ us hl => match us, hl with | [_, _], _ => rfl
  have D_law_spool_of : DefOk P w K mg base 1 "_law_spool_of" ["script"] (spN K mN_law_spool_of) := def_ok (st := st_law_spool_of) F_law_spool_of g_law_spool_of ((ok0_law_spool_of F_law_spool_of m_abs m_enumerate).imp t_law_spool_of) fun _ _ _ _ _ _ us hl => match us, hl with | [_], _ => rfl
  have D_law_alike : DefOk P w K mg base 1 "_law_alike" ["one", "other"] (spP K m_law_alike) := def_ok (st := st_law_alike) F_law_alike g_law_alike (FD.FnG.toP (ok0_law_alike F_law_alike xdig m_repr) t_law_alike) fun _ _ _ _ _ _ us hl => match us, hl with | [_, _], _ => rfl
  have D_law_common : DefOk P w K mg base 1 "_law_common" ["one", "other"] (spP K m_law_common) := def_ok (st := st_law_common) F_law_common g_law_common (FD.FnG.toP (ok0_law_common F_law_common m_abs) t_law_common) fun _ _ _ _ _ _ us hl => match us, hl with | [_, _], _ => rfl
  have D_law_negative : DefOk P w K mg base 1 "_law_negative" ["one"] (spP K m_law_negative) := def_ok (st := st_law_negative) F_law_negative g_law_negative (FD.FnG.toP (ok0_law_negative F_law_negative ) t_law_negative) fun _ _ _ _ _ _ us hl => match us, hl with | [_], _ => rfl
  have D_law_error_kind : DefOk P w K mg base 1 "_law_error_kind" ["error"] (spP K m_law_error_kind) := def_ok (st := st_law_error_kind) F_law_error_kind g_law_error_kind (FD.FnG.toP (ok0_law_error_kind F_law_error_kind x_ValueError x_InvalidCommand x_NoMark x_NotReached x_Incompatible x_OutOfRange x_NoVariable x_OtherRoot x_ZeroDivisor x_InvalidNumber x_TooMany x_SyntaxProblem m_isinstance) t_law_error_kind) fun _ _ _ _ _ _ us hl => match us, hl with | [_], _ => rfl
  have D_plus : DefR P w K mg base 2 "plus" ["first", "second"] (spR K m_plus) := defR_ok (st := st_plus) F_plus g_plus (FnG.toR (ok0_plus F_plus D_lowest D_common_root) t_plus) fun _ _ _ _ _ _ us hl => match us, hl with | [_, _], _ => rfl
  have D_times : DefR P w K mg base 2 "times" ["first", "second"] (spR K m_times) := defR_ok (st := st_times) F_times g_times (FnG.toR (ok0_times F_times D_lowest D_common_root) t_times) fun _ _ _ _ _ _ us hl => match us, hl with | [_, _], _ => rfl
  have D_law_upto : DefOk P w K mg base 2 "_law_upto" ["spool", "bound"] (spS K m_law_upto) := def_ok (st := st_law_upto) F_law_upto g_law_upto (FD.FnG.toS (ok0_law_upto F_law_upto D_law_stirred m_len) t_law_upto) fun _ _ _ _ _ _ us hl => match us, hl with | [_, _], _ => rfl
  have D_law_lowest : DefOk P w K mg base 2 "_law_lowest" ["p", "q", "d", "s"] (spP K m_law_lowest) := def_ok (st := st_law_lowest) F_law_lowest g_law_lowest (FD.FnG.toP (ok0_law_lowest F_law_lowest D_law_common) t_law_lowest) fun _ _ _ _ _ _ us hl => match us, hl with | [_, _, _, _], _ => rfl
  have D_minus : DefR P w K mg base 3 "minus" ["first", "second"] (spR K m_minus) := defR_ok (st := st_minus) F_minus g_minus (FnG.toR (ok0_minus F_minus D_opposite D_plus) t_minus) fun _ _ _ _ _ _ us hl => match us, hl with | [_, _], _ => rfl
  have D_over : DefR P w K mg base 3 "over" ["first", "second"] (spR K m_over) := defR_ok (st := st_over) F_over g_over (FnG.toR (ok0_over F_over D_lowest D_times R_ZeroDivisor) t_over) fun _ _ _ _ _ _ us hl => match us, hl with | [_, _], _ => rfl
  have D_law_choice : DefOk P w K mg base 3 "_law_choice" ["spool", "items"] (spS K m_law_choice) := def_ok (st := st_law_choice) F_law_choice g_law_choice (FD.FnG.toS (ok0_law_choice F_law_choice D_law_upto m_len) t_law_choice) fun _ _ _ _ _ _ us hl => match us, hl with | [_, _], _ => rfl
  have D_law_add : DefOk P w K mg base 3 "_law_add" ["one", "other"] (spP K m_law_add) := def_ok (st := st_law_add) F_law_add g_law_add (FD.FnG.toP (ok0_law_add F_law_add D_law_lowest m_max) t_law_add) fun _ _ _ _ _ _ us hl => match us, hl with | [_, _], _ => rfl
  have D_law_multiply : DefOk P w K mg base 3 "_law_multiply" ["one", "other"] (spP K m_law_multiply) := def_ok (st := st_law_multiply) F_law_multiply g_law_multiply (FD.FnG.toP (ok0_law_multiply F_law_multiply D_law_lowest m_max) t_law_multiply) fun _ _ _ _ _ _ us hl => match us, hl with | [_, _], _ => rfl
  have D_law_inverse : DefOk P w K mg base 3 "_law_inverse" ["one"] (spP K m_law_inverse) := def_ok (st := st_law_inverse) F_law_inverse g_law_inverse (FD.FnG.toP (ok0_law_inverse F_law_inverse D_law_lowest) t_law_inverse) fun _ _ _ _ _ _ us hl => match us, hl with | [_], _ => rfl
  have D_law_long : DefOk P w K mg base 3 "_law_long" ["spool"] (spS K m_law_long) := def_ok (st := st_law_long) F_law_long g_law_long (FD.FnG.toS (ok0_law_long F_law_long D_law_upto m_range) t_law_long) fun _ _ _ _ _ _ us hl => match us, hl with | [_], _ => rfl
  have D_law_drawn : DefOk P w K mg base 4 "_law_drawn" ["spool", "d", "size"] (spS K m_law_drawn) := def_ok (st := st_law_drawn) F_law_drawn g_law_drawn (FD.FnG.toS (ok0_law_drawn F_law_drawn D_law_lowest D_law_choice D_law_upto) t_law_drawn) fun _ _ _ _ _ _ us hl => match us, hl with | [_, _, _], _ => rfl
  have D_law_result : DefOk P w K mg base 4 "_law_result" ["way", "one", "other"] (spP K m_law_result) := def_ok (st := st_law_result) F_law_result g_law_result (FD.FnG.toP (ok0_law_result F_law_result D_law_error_kind D_plus D_minus D_times D_over t_TwoSpeedsError) t_law_result) fun _ _ _ _ _ _ us hl => match us, hl with | [_, _, _], _ => rfl
  have D_law_due : DefOk P w K mg base 4 "_law_due" ["way", "one", "other"] (spP K m_law_due) := def_ok (st := st_law_due) F_law_due g_law_due (FD.FnG.toP (ok0_law_due F_law_due D_law_multiply D_law_inverse D_law_add D_law_negative) t_law_due) fun _ _ _ _ _ _ us hl => match us, hl with | [_, _, _], _ => rfl
  have D_law_long_number : DefOk P w K mg base 4 "_law_long_number" ["spool", "d"] (spS K m_law_long_number) := def_ok (st := st_law_long_number) F_law_long_number g_law_long_number (FD.FnG.toS (ok0_law_long_number F_law_long_number D_law_lowest D_law_choice D_law_long m_range) t_law_long_number) fun _ _ _ _ _ _ us hl => match us, hl with | [_, _], _ => rfl
  exact ok_law F_law D_law_alike D_law_negative D_opposite D_law_due D_law_result D_law_choice D_law_drawn D_law_long_number D_law_spool_of m_range
end T3
open PySem PySem.W PySem.Calls PyProof.Rows
set_option maxRecDepth 100000 in
set_option maxHeartbeats 0 in
theorem PySem.Challenge.cw_twospeeds_k03_arithmetic_holds : PySem.Challenge.rw_twospeeds_k03_arithmetic.Holds := by
  w_on; o_law
  refine HandSHeadRun.head_imp (r := OpenLaw.row PySem.Challenge.rw_twospeeds_k03_arithmetic) (q := view (OpenLaw.row PySem.Challenge.rw_twospeeds_k03_arithmetic).prog [0, 46]) (H := T3.hk) (ob := FD.obT 4 T3.faL T3.fnL T3.exB) (M := 8000) (loose := T3.loose) (d := HandSHeadRun.topDef (OpenLaw.row PySem.Challenge.rw_twospeeds_k03_arithmetic).prog 46) (kwd := []) (FD.obT_eq 4 T3.faL T3.fnL T3.exB)
    T3.run (by kernel_rfl) (by kernel_rfl) (by kernel_rfl) (by rfl) (by first | assumption | decide +kernel) (by decide +kernel) ⟨rfl, rfl, rfl, rfl, rfl, by decide +kernel⟩ ?hw ?hc
  case hw => w_witness2
  case hc =>
    refine FD.walkG (l := PySem.Challenge.rw_twospeeds_k03_arithmetic) (n := 63) (k := 5) (x := "script") (CX := L2.CX0) rfl (by decide) (by kernel_rfl) ⟨⟨rfl, by decide, by decide⟩, rfl⟩ ?F (fun _ _ _ _ z => z)
    intro w mg fa h Y G hmg0
    obtain ⟨K, KX, c, cx⟩ := Y
    have hmg : mg ("law" : PySem.Str) = some (.ref fa) := by
      have e : (HandSHeadRun.topDef (OpenLaw.row PySem.Challenge.rw_twospeeds_k03_arithmetic).prog 46).name = ("law" : PySem.Str) := by kernel_rfl
      rw [← e]
      exact hmg0
    obtain ⟨fd, hb, hF⟩ := T3.facts (P := (PySem.Challenge.rw_twospeeds_k03_arithmetic).prog) (w := w) KX G hmg c cx
    exact ⟨K, fd, FD.spLaw K, KX, hb, fun H a ns hl _ hS => ⟨a, ns, rfl, hS, hl, fun _ => rfl⟩, hF⟩
