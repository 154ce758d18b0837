import PyProof.Rows.All
import HandS.ForMost
import HandS.ForExc
import HandS.Wide
import HandS.Gcd
import HandS.Defaults
import HandS.RaiseMore
import HandS.TupMul
import HandS.Style
import HandS.Steps
import KE.KMathG
import KE.KStateDown
import HandS.Head0
import HandS.Head1
import HandS.Head2
import HandS.Head3
import HandS.HeadEnd
import HandS.HeadHook1
import HandS.HeadHook2
import Flt.RightSqrt
import PySem.Challenge.RW_twospeeds_k05_whole_field_of_numbers
set_option Elab.async false
set_option linter.all false
set_option maxRecDepth 100000
namespace FD
open PySem PySem.Spec PyProof.Rows L2
abbrev St := L2.St

/-! ## values as data -/
inductive DV where
  | non | bl (b : Bool) | int (i : Int) | str (x : Str) | tup (ds : List DV) | lst (ds : List DV) | scr (ns : List Int) | raw (v : V)

mutual
/-- the value v is the datum d in the heap G -/
def Rp (K : PySem.W.Frag) (G : Hp) (v : V) : DV → Prop
  | .non => v = .non
  | .bl b => v = .bl b
  | .int i => v = .int i
  | .str x => v = .str x
  | .tup ds => ∃ a vs, v = .ref a ∧ SqT K G a vs ∧ RpL K G vs ds
  | .lst ds => ∃ a vs, v = .ref a ∧ G a = some (.lst vs) ∧ RpL K G vs ds
  | .scr ns => ∃ a, v = .ref a ∧ SqL K G a (ns.map V.int)
  | .raw u => v = u
def RpL (K : PySem.W.Frag) (G : Hp) (vs : List V) : List DV → Prop
  | [] => vs = []
  | d :: ds => ∃ v r, vs = v :: r ∧ Rp K G v d ∧ RpL K G r ds
end

theorem Same.tup {K : PySem.W.Frag} {H H' : Hp} {a : Addr} {xs : List V} (e : Same H H') (h : SqT K H a xs) : SqT K H' a xs := by
  rcases h with (h | ⟨o, h⟩) | h
  · exact .inl (.inl (e _ _ h))
  · exact .inl (.inr ⟨o, e _ _ h⟩)
  · exact .inr h
section
variable {K : PySem.W.Frag} {G G' H : Hp}
mutual
theorem Rp.mono (e : Same G G') : ∀ (d : DV) (v : V), Rp K G v d → Rp K G' v d
  | .non, _, h => h
  | .bl _, _, h => h
  | .int _, _, h => h
  | .str _, _, h => h
  | .tup ds, _, h => by
    obtain ⟨a, vs, e1, h1, h2⟩ := h
    exact ⟨a, vs, e1, Same.tup e h1, RpL.mono e ds vs h2⟩
  | .lst ds, _, h => by
    obtain ⟨a, vs, e1, h1, h2⟩ := h
    exact ⟨a, vs, e1, e _ _ h1, RpL.mono e ds vs h2⟩
  | .scr _, _, h => by
    obtain ⟨a, e1, h1⟩ := h
    exact ⟨a, e1, e.seq h1⟩
  | .raw _, _, h => h
theorem RpL.mono (e : Same G G') : ∀ (ds : List DV) (vs : List V), RpL K G vs ds → RpL K G' vs ds
  | [], _, h => h
  | d :: ds, _, h => by
    obtain ⟨v, r, e1, h1, h2⟩ := h
    exact ⟨v, r, e1, Rp.mono e d v h1, RpL.mono e ds r h2⟩
end
theorem RpL.length : ∀ {ds : List DV} {vs : List V}, RpL K G vs ds → vs.length = ds.length
  | [], _, h => by
    have h' : _ = [] := h
    rw [h']; rfl
  | d :: ds, _, h => by
    obtain ⟨v, r, e1, _, h2⟩ := h
    rw [e1, List.length_cons, List.length_cons, RpL.length h2]
theorem RpL.get : ∀ {ds : List DV} {vs : List V} {i : Nat} {d : DV}, RpL K G vs ds → ds[i]? = some d → ∃ v, vs[i]? = some v ∧ Rp K G v d
  | [], _, i, d, _, e => by simp at e
  | d :: ds, _, 0, d', h, e => by
    obtain ⟨v, r, e1, h1, h2⟩ := h
    simp at e
    subst e e1
    exact ⟨v, rfl, h1⟩
  | d :: ds, _, i + 1, d', h, e => by
    obtain ⟨v, r, e1, h1, h2⟩ := h
    subst e1
    obtain ⟨w, q1, q2⟩ := RpL.get (i := i) h2 (by simpa using e)
    exact ⟨w, by simpa using q1, q2⟩
theorem RpL.get' : ∀ {ds : List DV} {vs : List V} {i : Nat} {v : V}, RpL K G vs ds → vs[i]? = some v → ∃ d, ds[i]? = some d ∧ Rp K G v d := fun {ds vs i v} h e => by
  have hl := h.length
  have hi : i < vs.length := (List.getElem?_eq_some_iff.mp e).1
  have hd : ds[i]? = some ds[i] := List.getElem?_eq_getElem (by omega)
  obtain ⟨w, q1, q2⟩ := h.get hd
  rw [e] at q1
  cases q1
  exact ⟨_, hd, q2⟩
theorem RpL.append : ∀ {ds es : List DV} {vs us : List V}, RpL K G vs ds → RpL K G us es → RpL K G (vs ++ us) (ds ++ es)
  | [], _, _, _, h, h' => by
    have e : _ = [] := h
    subst e
    exact h'
  | d :: ds, es, _, us, h, h' => by
    obtain ⟨v, r, e1, h1, h2⟩ := h
    subst e1
    exact ⟨v, r ++ us, rfl, h1, RpL.append h2 h'⟩
theorem RpL.one {v : V} {d : DV} (h : Rp K G v d) : RpL K G [v] [d] := ⟨v, [], rfl, h, rfl⟩
theorem RpL.take : ∀ {ds : List DV} {vs : List V} (n : Nat), RpL K G vs ds → RpL K G (vs.take n) (ds.take n)
  | [], _, n, h => by
    have e : _ = [] := h
    subst e
    simp
    rfl
  | d :: ds, _, 0, h => rfl
  | d :: ds, _, n + 1, h => by
    obtain ⟨v, r, e1, h1, h2⟩ := h
    subst e1
    exact ⟨v, r.take n, rfl, h1, RpL.take n h2⟩
theorem RpL.drop : ∀ {ds : List DV} {vs : List V} (n : Nat), RpL K G vs ds → RpL K G (vs.drop n) (ds.drop n)
  | [], _, n, h => by
    have e : _ = [] := h
    subst e
    simp
    rfl
  | d :: ds, _, 0, h => h
  | d :: ds, _, n + 1, h => by
    obtain ⟨v, r, e1, h1, h2⟩ := h
    subst e1
    exact RpL.drop n h2
theorem RpL.set : ∀ {ds : List DV} {vs : List V} (i : Nat) {v : V} {d : DV}, RpL K G vs ds → Rp K G v d → RpL K G (vs.set i v) (ds.set i d)
  | [], _, n, v, d, h, _ => by
    have e : _ = [] := h
    subst e
    simp
    rfl
  | d :: ds, _, 0, w, e, h, q => by
    obtain ⟨v, r, e1, h1, h2⟩ := h
    subst e1
    exact ⟨w, r, rfl, q, h2⟩
  | d :: ds, _, n + 1, w, e, h, q => by
    obtain ⟨v, r, e1, h1, h2⟩ := h
    subst e1
    exact ⟨v, _, rfl, h1, RpL.set n h2 q⟩
theorem RpL.ints : ∀ (ns : List Int), RpL K G (ns.map V.int) (ns.map DV.int)
  | [] => rfl
  | n :: ns => ⟨_, _, rfl, rfl, RpL.ints ns⟩
theorem RpL.ints' : ∀ {ns : List Int} {vs : List V}, RpL K G vs (ns.map DV.int) → vs = ns.map V.int
  | [], vs, h => h
  | n :: ns, vs, h => by
    obtain ⟨v, r, e1, h1, h2⟩ := h
    have q : v = .int n := h1
    rw [e1, q, RpL.ints' h2]
    rfl
end

/-! ## the state: the frame's slots, the spool -/
inductive SV where
  | dat (d : DV) | own (ds : List DV) | spl
structure Spl where
  nums : List Int
  place : Int
  cell : Int
  size : Int
structure S where
  sl : List (Option SV)
  sp : Spl
/-- the entry: ghost heap, heap, the spool's address -/
structure Cn where
  G0 : Hp
  H0 : Hp
  sp : Option Addr

def SpOk (K : PySem.W.Frag) (G H : Hp) (sp : Option Addr) (s : Spl) : Prop :=
  match sp with
  | none => True
  | some a => G a = none ∧ ∃ nb, H a = some (.lst [.ref nb, .int s.place, .int s.cell, .int s.size]) ∧ Rp K G (.ref nb) (.lst (s.nums.map DV.int))
def SlOk (K : PySem.W.Frag) (C : Cn) (G H : Hp) (o : Option V) : Option SV → Prop
  | none => True
  | some (.dat d) => ∃ v, o = some v ∧ Rp K G v d
  | some (.own ds) => ∃ a vs, o = some (.ref a) ∧ H a = some (.lst vs) ∧ RpL K G vs ds ∧ G a = none ∧ C.H0 a = none ∧ C.sp ≠ some a
  | some .spl => ∃ a, C.sp = some a ∧ o = some (.ref a)

structure Ab (K : PySem.W.Frag) (C : Cn) (G H : Hp) (σ : List (Option V)) (s : S) : Prop where
  gh : Same G H
  fr : ∀ b o, C.H0 b = some o → C.sp ≠ some b → H b = some o
  g0 : Same C.G0 G
  gn : ∀ b, C.H0 b ≠ none → G b = C.G0 b
  len : σ.length = s.sl.length
  sl : ∀ (i : Nat) v x, σ[i]? = some v → s.sl[i]? = some x → SlOk K C G H v x
  dis : ∀ (i j : Nat) a ds es, i ≠ j → s.sl[i]? = some (some (.own ds)) → s.sl[j]? = some (some (.own es)) → σ[i]? = some (some (.ref a)) → σ[j]? ≠ some (some (.ref a))
  spk : SpOk K G H C.sp s.sp

section
variable {K : PySem.W.Frag} {C : Cn} {G H G' H' : Hp} {σ : List (Option V)} {s : S}
theorem Ab.h0 (A : Ab K C G H σ s) {b : Addr} (h : C.H0 b ≠ none) : H b ≠ none := by
  by_cases e : C.sp = some b
  · have q := A.spk
    unfold SpOk at q
    rw [e] at q
    obtain ⟨_, nb, q1, _⟩ := q
    rw [q1]
    exact fun z => nomatch z
  · cases z : C.H0 b with
    | none => exact absurd z h
    | some o => rw [A.fr b o z e]; exact fun z => nomatch z
theorem Ab.slot (A : Ab K C G H σ s) {i : Nat} {x : Option SV} (h : s.sl[i]? = some x) : ∃ v, σ[i]? = some v ∧ SlOk K C G H v x := by
  have hi : i < s.sl.length := (List.getElem?_eq_some_iff.mp h).1
  have hi' : i < σ.length := by rw [A.len]; exact hi
  have hs : σ[i]? = some σ[i] := List.getElem?_eq_getElem hi'
  exact ⟨_, hs, A.sl i _ x hs h⟩
/-- the heaps grow: what was tracked stays (but the spool, which stays as said), the ghost grows by new things -/
structure Fw (G H G' H' : Hp) (sp : Option Addr) : Prop where
  g : Same G G'
  gh : Same G' H'
  h : ∀ b o, H b = some o → sp ≠ some b → H' b = some o
  n : ∀ b, H b ≠ none → G' b = G b
theorem SlOk.fw {v : Option V} {x : Option SV} (F : Fw G H G' H' C.sp) (h : SlOk K C G H v x) : SlOk K C G' H' v x := by
  match x, h with
  | none, h => trivial
  | some (.dat d), h =>
    obtain ⟨v, e, r⟩ := h
    exact ⟨v, e, Rp.mono F.g d v r⟩
  | some (.own ds), h =>
    obtain ⟨a, vs, e, h1, h2, h3, h4, h5⟩ := h
    exact ⟨a, vs, e, F.h _ _ h1 h5, RpL.mono F.g ds vs h2, by rw [F.n a (by rw [h1]; exact fun z => nomatch z)]; exact h3, h4, h5⟩
  | some .spl, h => exact h
theorem Ab.fw (A : Ab K C G H σ s) (F : Fw G H G' H' C.sp) {sp' : Spl} (k : SpOk K G' H' C.sp sp') : Ab K C G' H' σ { s with sp := sp' } where
  gh := F.gh
  fr := fun b o e n => F.h b o (A.fr b o e n) n
  g0 := A.g0.trans F.g
  gn := fun b e => by rw [F.n b (A.h0 e), A.gn b e]
  len := A.len
  sl := fun i v x e1 e2 => (A.sl i v x e1 e2).fw F
  dis := A.dis
  spk := k
/-- the same where the spool's cell stays too -/
theorem Fw.none_any (F : Fw G H G' H' none) (sp : Option Addr) : Fw G H G' H' sp := ⟨F.g, F.gh, fun b o e _ => F.h b o e (fun z => nomatch z), F.n⟩
theorem SpOk.fw {sp : Option Addr} {t : Spl} (F : Fw G H G' H' none) (k : SpOk K G H sp t) : SpOk K G' H' sp t := by
  unfold SpOk at *
  cases sp with
  | none => trivial
  | some a =>
    obtain ⟨h1, nb, h2, h3⟩ := k
    exact ⟨by rw [F.n a (by rw [h2]; exact fun z => nomatch z)]; exact h1, nb, F.h _ _ h2 (fun z => nomatch z), Rp.mono F.g _ _ h3⟩
theorem Ab.fw0 (A : Ab K C G H σ s) (F : Fw G H G' H' none) : Ab K C G' H' σ s := A.fw (F.none_any _) (A.spk.fw F)
/-- a new object that joins the data -/
theorem Fw.add (A : Same G H) {p : Addr} {o : HO} (hp : H p = none) : Fw G H (upd G p o) (upd H p o) none where
  g := fun b u e => by rw [upd_ne (fun z => by rw [z] at e; rw [A _ _ e] at hp; cases hp)]; exact e
  gh := fun b u e => by
    by_cases z : b = p
    · rw [z, upd_same] at e ⊢
      exact e
    · rw [upd_ne z] at e ⊢
      exact A _ _ e
  h := fun b u e _ => by rw [upd_ne (fun z => by rw [z, hp] at e; cases e)]; exact e
  n := fun b e => upd_ne (fun z => e (by rw [z]; exact hp))
/-- a new object that is left outside -/
theorem Fw.lay (A : Same G H) {p : Addr} {o : HO} (hp : H p = none) : Fw G H G (upd H p o) none where
  g := Same.refl G
  gh := fun b u e => by rw [upd_ne (fun z => by rw [z] at e; rw [A _ _ e] at hp; cases hp)]; exact A _ _ e
  h := fun b u e _ => by rw [upd_ne (fun z => by rw [z, hp] at e; cases e)]; exact e
  n := fun b e => rfl
theorem Fw.refl (A : Same G H) : Fw G H G H none := ⟨Same.refl _, A, fun _ _ e _ => e, fun _ _ => rfl⟩
/-- an owned list joins the data -/
theorem Ab.freeze (A : Ab K C G H σ s) {i : Nat} {ds : List DV} (h : s.sl[i]? = some (some (.own ds))) :
    ∃ a vs, σ[i]? = some (some (.ref a)) ∧ Ab K C (upd G a (.lst vs)) H σ { s with sl := s.sl.set i (some (.dat (.lst ds))) } ∧ Rp K (upd G a (.lst vs)) (.ref a) (.lst ds) ∧ Same G (upd G a (.lst vs)) := by
  obtain ⟨v, e1, a, vs, e2, h1, h2, h3, h4, h5⟩ := A.slot h
  subst e2
  have sg : Same G (upd G a (.lst vs)) := fun b u e => by rw [upd_ne (fun z => by rw [z, h3] at e; cases e)]; exact e
  have rp : Rp K (upd G a (.lst vs)) (.ref a) (.lst ds) := ⟨a, vs, rfl, upd_same, RpL.mono sg ds vs h2⟩
  have hi : i < s.sl.length := (List.getElem?_eq_some_iff.mp h).1
  refine ⟨a, vs, e1, ⟨fun b u e => ?_, A.fr, A.g0.trans sg, fun b e => ?_, by rw [List.length_set]; exact A.len, fun j v x q1 q2 => ?_, fun j k b es fs n q1 q2 q3 => ?_, ?_⟩, rp, sg⟩
  · by_cases z : b = a
    · rw [z, upd_same] at e
      rw [z, ← e]
      exact h1
    · rw [upd_ne z] at e
      exact A.gh _ _ e
  · rw [upd_ne (fun z => e (by rw [z]; exact h4)), A.gn b e]
  · rw [List.getElem?_set] at q2
    by_cases z : i = j
    · subst z
      rw [if_pos rfl, if_pos hi] at q2
      cases q2
      rw [e1] at q1
      cases q1
      exact ⟨_, rfl, rp⟩
    · rw [if_neg z] at q2
      have r := A.sl j v x q1 q2
      match x, r with
      | none, _ => trivial
      | some (.dat d), ⟨w, e, r⟩ => exact ⟨w, e, Rp.mono sg d w r⟩
      | some (.own es), ⟨b, us, e, r1, r2, r3, r4, r5⟩ =>
        subst e
        have nb : b ≠ a := fun zz => A.dis i j a ds es z h q2 e1 (by rw [q1, zz])
        exact ⟨b, us, rfl, r1, RpL.mono sg es us r2, by rw [upd_ne nb]; exact r3, r4, r5⟩
      | some .spl, r => exact r
  · have nj : ∀ {k : Nat} {es : List DV}, (s.sl.set i (some (.dat (.lst ds))))[k]? = some (some (.own es)) → s.sl[k]? = some (some (.own es)) := fun {k es} q => by
      rw [List.getElem?_set] at q
      by_cases z : i = k
      · rw [if_pos z] at q
        split at q
        · cases q
        · cases q
      · rw [if_neg z] at q
        exact q
    exact A.dis j k b es fs n (nj q1) (nj q2) q3
  · have k := A.spk
    unfold SpOk at *
    cases z : C.sp with
    | none => rw [z] at k; trivial
    | some c =>
      rw [z] at k
      obtain ⟨k1, nb, k2, k3⟩ := k
      exact ⟨by rw [upd_ne (fun e => h5 (by rw [z, e]))]; exact k1, nb, k2, Rp.mono sg _ _ k3⟩
/-- a slot is set to a datum -/
theorem Ab.set_dat (A : Ab K C G H σ s) {i : Nat} {v : V} {d : DV} (r : Rp K G v d) : Ab K C G H (σ.set i (some v)) { s with sl := s.sl.set i (some (.dat d)) } where
  gh := A.gh
  fr := A.fr
  g0 := A.g0
  gn := A.gn
  len := by rw [List.length_set, List.length_set]; exact A.len
  sl := fun j w x q1 q2 => by
    rw [List.getElem?_set] at q1 q2
    by_cases z : i = j
    · rw [if_pos z] at q1 q2
      split at q1
      · split at q2
        · cases q1
          cases q2
          exact ⟨v, rfl, r⟩
        · cases q2
      · cases q1
    · rw [if_neg z] at q1 q2
      exact A.sl j w x q1 q2
  dis := fun j k a ds es n q1 q2 q3 => by
    rw [List.getElem?_set] at q1 q2 q3
    rw [List.getElem?_set]
    by_cases z1 : i = j
    · rw [if_pos z1] at q1
      split at q1 <;> cases q1
    · by_cases z2 : i = k
      · rw [if_pos z2] at q2
        split at q2 <;> cases q2
      · rw [if_neg z1] at q1 q3
        rw [if_neg z2] at q2 ⊢
        exact A.dis j k a ds es n q1 q2 q3
  spk := A.spk
/-- a slot is set to a new list of the frame's own -/
theorem Ab.set_own (A : Ab K C G H σ s) {i : Nat} {p : Addr} {vs : List V} {ds : List DV} (hp : H p = some (.lst vs)) (r : RpL K G vs ds) (hg : G p = none) (h0 : C.H0 p = none) (hs : C.sp ≠ some p)
    (no : ∀ (j : Nat) es, s.sl[j]? = some (some (.own es)) → σ[j]? ≠ some (some (.ref p))) : Ab K C G H (σ.set i (some (.ref p))) { s with sl := s.sl.set i (some (.own ds)) } where
  gh := A.gh
  fr := A.fr
  g0 := A.g0
  gn := A.gn
  len := by rw [List.length_set, List.length_set]; exact A.len
  sl := fun j w x q1 q2 => by
    rw [List.getElem?_set] at q1 q2
    by_cases z : i = j
    · rw [if_pos z] at q1 q2
      split at q1
      · split at q2
        · cases q1
          cases q2
          exact ⟨p, vs, rfl, hp, r, hg, h0, hs⟩
        · cases q2
      · cases q1
    · rw [if_neg z] at q1 q2
      exact A.sl j w x q1 q2
  dis := fun j k a fs es n q1 q2 q3 => by
    rw [List.getElem?_set] at q1 q2 q3
    rw [List.getElem?_set]
    by_cases z1 : i = j
    · have z2 : i ≠ k := fun z => n (z1.symm.trans z)
      rw [if_pos z1] at q3
      rw [if_neg z2] at q2 ⊢
      split at q3
      · cases q3
        exact no k es q2
      · cases q3
    · rw [if_neg z1] at q1 q3
      by_cases z2 : i = k
      · rw [if_pos z2]
        split
        · intro e
          cases e
          exact no j fs q1 q3
        · exact fun e => nomatch e
      · rw [if_neg z2] at q2 ⊢
        exact A.dis j k a fs es n q1 q2 q3
  spk := A.spk
/-- the list that a slot owns is written anew -/
theorem Ab.put_own (A : Ab K C G H σ s) {i : Nat} {a : Addr} {ds es : List DV} {us : List V} (h : s.sl[i]? = some (some (.own ds))) (e : σ[i]? = some (some (.ref a))) (r : RpL K G us es) :
    Ab K C G (upd H a (.lst us)) σ { s with sl := s.sl.set i (some (.own es)) } := by
  obtain ⟨v, e1, a', vs, e2, h1, h2, h3, h4, h5⟩ := A.slot h
  subst e2
  rw [e] at e1
  cases e1
  have hi : i < s.sl.length := (List.getElem?_eq_some_iff.mp h).1
  have nj : ∀ {k : Nat} {fs : List DV}, (s.sl.set i (some (.own es)))[k]? = some (some (.own fs)) → ∃ fs', s.sl[k]? = some (some (.own fs')) := fun {k fs} q => by
    rw [List.getElem?_set] at q
    by_cases z : i = k
    · exact ⟨ds, z ▸ h⟩
    · rw [if_neg z] at q
      exact ⟨fs, q⟩
  refine ⟨fun b u q => ?_, fun b o q n => ?_, A.g0, A.gn, by rw [List.length_set]; exact A.len, fun j w x q1 q2 => ?_, fun j k b fs gs n q1 q2 q3 => ?_, ?_⟩
  · rw [upd_ne (fun z => by rw [z, h3] at q; cases q)]
    exact A.gh _ _ q
  · rw [upd_ne (fun z => by rw [z, h4] at q; cases q)]
    exact A.fr b o q n
  · rw [List.getElem?_set] at q2
    by_cases z : i = j
    · subst z
      rw [if_pos rfl, if_pos hi] at q2
      cases q2
      rw [e] at q1
      cases q1
      exact ⟨a, us, rfl, upd_same, r, h3, h4, h5⟩
    · rw [if_neg z] at q2
      have rr := A.sl j w x q1 q2
      match x, rr with
      | none, _ => trivial
      | some (.dat d), rr => exact rr
      | some (.own gs), ⟨b, ws, eb, r1, r2, r3, r4, r5⟩ =>
        subst eb
        have nb : b ≠ a := fun zz => A.dis i j a ds gs z h q2 e (by rw [q1, zz])
        exact ⟨b, ws, rfl, by rw [upd_ne nb]; exact r1, r2, r3, r4, r5⟩
      | some .spl, rr => exact rr
  · obtain ⟨fs', q1'⟩ := nj q1
    obtain ⟨gs', q2'⟩ := nj q2
    exact A.dis j k b fs' gs' n q1' q2' q3
  · have k := A.spk
    unfold SpOk at *
    cases z : C.sp with
    | none => rw [z] at k; trivial
    | some c =>
      rw [z] at k
      obtain ⟨k1, nb, k2, k3⟩ := k
      exact ⟨k1, nb, by rw [upd_ne (fun e => h5 (by rw [z, e]))]; exact k2, k3⟩
/-- the spool is written -/
theorem Ab.put_spl (A : Ab K C G H σ s) {a nb : Addr} {t : Spl} (hs : C.sp = some a) (hn : Rp K G (.ref nb) (.lst (t.nums.map DV.int))) : Ab K C G (upd H a (.lst [.ref nb, .int t.place, .int t.cell, .int t.size])) σ { s with sp := t } := by
  have k := A.spk
  unfold SpOk at k
  rw [hs] at k
  obtain ⟨k1, nb', k2, k3⟩ := k
  refine ⟨fun b u q => ?_, fun b o q n => ?_, A.g0, A.gn, A.len, fun j w x q1 q2 => ?_, A.dis, ?_⟩
  · rw [upd_ne (fun z => by rw [z, k1] at q; cases q)]
    exact A.gh _ _ q
  · rw [upd_ne (fun z => n (by rw [z, hs]))]
    exact A.fr b o q n
  · have rr := A.sl j w x q1 q2
    match x, rr with
    | none, _ => trivial
    | some (.dat d), rr => exact rr
    | some (.own gs), ⟨b, ws, eb, r1, r2, r3, r4, r5⟩ => exact ⟨b, ws, eb, by rw [upd_ne (fun z => r5 (by rw [hs, z]))]; exact r1, r2, r3, r4, r5⟩
    | some .spl, rr => exact rr
  · show SpOk K G _ C.sp t
    unfold SpOk
    rw [hs]
    exact ⟨k1, nb, upd_same, hn⟩
end
end FD

set_option maxRecDepth 100000
namespace FD
open PySem PySem.Spec PyProof.Rows L2

/-! ## readings as functions -/
abbrev EF := S → Option (DV × S)
abbrev TF := S → Option (Bool × S)
abbrev AF := S → Option (List DV × S)
def EvE (K : PySem.W.Frag) (C : Cn) (te : TE) (f : EF) : Prop := ∀ G H σ s d s', Ab K C G H σ s → f s = some (d, s') →
  ∀ Q : VK, (∀ v H' G', Same G G' → Ab K C G' H' σ s' → Rp K G' v d → Q v H') → te σ H Q
def EvT (K : PySem.W.Frag) (C : Cn) (tt : TT) (f : TF) : Prop := ∀ G H σ s b s', Ab K C G H σ s → f s = some (b, s') →
  ∀ Q : Bool → Hp → Prop, (∀ H' G', Same G G' → Ab K C G' H' σ s' → Q b H') → tt σ H Q
def EvA (K : PySem.W.Frag) (C : Cn) (ta : TA) (f : AF) : Prop := ∀ G H σ s ds s', Ab K C G H σ s → f s = some (ds, s') →
  ∀ Q : List V → Hp → Prop, (∀ vs H' G', Same G G' → Ab K C G' H' σ s' → RpL K G' vs ds → Q vs H') → ta σ H Q
/-- an expression, a test, an argument list of the frame X, as functions of the state -/
def FE (X : Cx) (C : Cn) (e : Expr) (f : EF) : Prop := ∃ te, PE X e te ∧ EvE X.K C te f
def FT (X : Cx) (C : Cn) (e : Expr) (f : TF) : Prop := ∃ tt, PT X e tt ∧ EvT X.K C tt f
def FW (X : Cx) (C : Cn) (e : Expr) (f : TF) : Prop := ∃ tt, PW X e tt ∧ EvT X.K C tt f
def FA (X : Cx) (C : Cn) (es : List Expr) (f : AF) : Prop := ∃ ta, PA X es ta ∧ EvA X.K C ta f

section
variable {X : Cx} {C : Cn} {e a b c : Expr} {es : List Expr} {pos : Pos}

/-! ### constants, names -/
def eC (d : DV) : EF := fun s => some (d, s)
theorem evC {K : PySem.W.Frag} {v : V} {d : DV} (r : ∀ G, Rp K G v d) : EvE K C (tC v) (eC d) := by
  intro G H σ s d' s' A h Q q
  cases h
  exact q v H G (Same.refl _) A (r G)
theorem fe_int {i j} : FE X C (.Constant (.int i) j pos) (eC (.int i)) := ⟨_, pe_int, evC fun _ => rfl⟩
theorem fe_bl {i j} : FE X C (.Constant (.bool i) j pos) (eC (.bl i)) := ⟨_, pe_bl, evC fun _ => rfl⟩
theorem fe_non {j} : FE X C (.Constant .none j pos) (eC .non) := ⟨_, pe_non, evC fun _ => rfl⟩
theorem fe_str {x j} : FE X C (.Constant (.str x) j pos) (eC (.str x)) := ⟨_, pe_str, evC fun _ => rfl⟩
/-- the datum in a slot; a list of the frame's own joins the data -/
def eV (i : Nat) : EF := fun s => match s.sl[i]? with
  | some (some (.dat d)) => some (d, s)
  | some (some (.own ds)) => some (.lst ds, { s with sl := s.sl.set i (some (.dat (.lst ds))) })
  | _ => none
theorem evV {K : PySem.W.Frag} {i : Nat} : EvE K C (tVar i) (eV i) := by
  intro G H σ s d s' A h Q q
  unfold eV at h
  split at h
  · rename_i d' e1
    cases h
    obtain ⟨v, e2, w, e3, r⟩ := A.slot e1
    subst e3
    exact ⟨w, e2, q w H G (Same.refl _) A r⟩
  · rename_i ds e1
    cases h
    obtain ⟨a, vs, e2, A', r, sg⟩ := A.freeze e1
    exact ⟨_, e2, q _ H _ sg A' r⟩
  · cases h
theorem fv (i : Nat) {x : Str} {pos : Pos} (hN : X.N[i]? = some x := by rfl) (hv : Vis X.env.scope x := by first | exact Or.inl rfl | exact Or.inr (Or.inl rfl) | exact Or.inr (Or.inr rfl)) (hd : (x == ("__debug__" : Str)) = false := by decide)
    (hcd : (x == ("__classdict__" : Str)) = false := by decide) : FE X C (.Name x pos) (eV i) := ⟨_, pe_var hN hv hd hcd, evV⟩

/-! ### argument lists, displays -/
def aNil : AF := fun s => some ([], s)
def aCons (f : EF) (g : AF) : AF := fun s => match f s with
  | some (d, s1) => match g s1 with
    | some (ds, s2) => some (d :: ds, s2)
    | none => none
  | none => none
theorem fa_nil : FA X C [] aNil := ⟨_, pa_nil, by
  intro G H σ s ds s' A h Q q
  cases h
  exact q [] H G (Same.refl _) A rfl⟩
theorem fa_cons {f : EF} {g : AF} (h1 : FE X C e f) (h2 : FA X C es g) (hs : starEach (e :: es) X.env = (false, eval e X.env) :: starEach es X.env := by rfl) : FA X C (e :: es) (aCons f g) := by
  obtain ⟨te, p1, q1⟩ := h1
  obtain ⟨ta, p2, q2⟩ := h2
  refine ⟨_, pa_cons p1 p2 hs, ?_⟩
  intro G H σ s ds s' A h Q q
  unfold aCons at h
  split at h
  · rename_i d s1 e1
    split at h
    · rename_i ds' s2 e2
      cases h
      refine q1 G H σ s d s1 A e1 _ fun v H1 G1 g1 A1 r1 => ?_
      refine q2 G1 H1 σ s1 ds' _ A1 e2 _ fun vs H2 G2 g2 A2 r2 => ?_
      exact q (v :: vs) H2 G2 (g1.trans g2) A2 ⟨v, vs, rfl, Rp.mono g2 d v r1, r2⟩
    · cases h
  · cases h
/-- an expression whose reading is a function's -/
def eA (g : AF) (op : List DV → Option DV) : EF := fun s => match g s with
  | some (ds, s1) => match op ds with
    | some d => some (d, s1)
    | none => none
  | none => none
/-- from the arguments by values: r holds wherever the answer is the operation's -/
theorem evA_of {K : PySem.W.Frag} {ta : TA} {g : AF} {op : List DV → Option DV} {t : TE} (h : EvA K C ta g) {r : List V → Hp → VK → Prop}
    (ht : ∀ σ H Q, (ta σ H fun vs H1 => r vs H1 Q) → t σ H Q)
    (hr : ∀ G H σ s vs ds d, Ab K C G H σ s → RpL K G vs ds → op ds = some d → ∀ Q : VK, (∀ v H' G', Fw G H G' H' none → Rp K G' v d → Q v H') → r vs H Q) : EvE K C t (eA g op) := by
  intro G H σ s d s' A h' Q q
  unfold eA at h'
  split at h'
  · rename_i ds s1 e1
    split at h'
    · rename_i d' e2
      cases h'
      refine ht σ H Q (h G H σ s ds _ A e1 _ fun vs H1 G1 g1 A1 r1 => ?_)
      exact hr G1 H1 σ _ vs ds _ A1 r1 e2 Q fun v H' G' F rv => q v H' G' (g1.trans F.g) (A1.fw0 F) rv
    · cases h'
  · cases h'
def oTup : List DV → Option DV := fun ds => if ds.length ≤ sizeLine then some (.tup ds) else none
def oLst : List DV → Option DV := fun ds => if ds.length ≤ sizeLine then some (.lst ds) else none
theorem tup_ok {K : PySem.W.Frag} {G H : Hp} {σ : List (Option V)} {s : S} {vs : List V} {ds : List DV} {Q : VK} (A : Ab K C G H σ s) (r : RpL K G vs ds) (q : ∀ v H' G', Fw G H G' H' none → Rp K G' v (.tup ds) → Q v H') :
    ∀ p, H p = none → Q (.ref p) (upd H p (.tup vs)) := fun p hp => by
  have F : Fw G H (upd G p (.tup vs)) (upd H p (.tup vs)) none := Fw.add A.gh hp
  exact q _ _ _ F ⟨p, vs, rfl, SqT.of upd_same, RpL.mono F.g ds vs r⟩
theorem lst_ok {K : PySem.W.Frag} {G H : Hp} {σ : List (Option V)} {s : S} {vs : List V} {ds : List DV} {Q : VK} (A : Ab K C G H σ s) (r : RpL K G vs ds) (q : ∀ v H' G', Fw G H G' H' none → Rp K G' v (.lst ds) → Q v H') :
    ∀ p, H p = none → Q (.ref p) (upd H p (.lst vs)) := fun p hp => by
  have F : Fw G H (upd G p (.lst vs)) (upd H p (.lst vs)) none := Fw.add A.gh hp
  exact q _ _ _ F ⟨p, vs, rfl, upd_same, RpL.mono F.g ds vs r⟩
theorem fe_tup {f : AF} {x1} (h : FA X C es f) : FE X C (.Tuple es x1 pos) (eA f oTup) := by
  obtain ⟨ta, p, q⟩ := h
  refine ⟨_, pe_tup p, evA_of (op := oTup) q (r := fun xs H1 Q => xs.length ≤ sizeLine ∧ ∀ p, H1 p = none → Q (.ref p) (upd H1 p (.tup xs))) (fun _ _ _ h => h) ?_⟩
  intro G H σ s vs ds d A r e Q k
  unfold oTup at e
  split at e
  · cases e
    rename_i hl
    exact ⟨by rw [r.length]; exact hl, tup_ok A r k⟩
  · cases e
theorem fe_lst {f : AF} (h : FA X C es f) : FE X C (.List es pos) (eA f oLst) := by
  obtain ⟨ta, p, q⟩ := h
  refine ⟨_, pe_lst p, evA_of (op := oLst) q (r := fun xs H1 Q => xs.length ≤ sizeLine ∧ ∀ p, H1 p = none → Q (.ref p) (upd H1 p (.lst xs))) (fun _ _ _ h => h) ?_⟩
  intro G H σ s vs ds d A r e Q k
  unfold oLst at e
  split at e
  · cases e
    rename_i hl
    exact ⟨by rw [r.length]; exact hl, lst_ok A r k⟩
  · cases e

/-! ### operators of one and two -/
def e1 (f : EF) (op : DV → Option DV) : EF := fun s => match f s with
  | some (d, s1) => match op d with
    | some z => some (z, s1)
    | none => none
  | none => none
def e2 (f g : EF) (op : DV → DV → Option DV) : EF := fun s => match f s with
  | some (d, s1) => match g s1 with
    | some (y, s2) => match op d y with
      | some z => some (z, s2)
      | none => none
    | none => none
  | none => none
/-- what an operator's rule r is worth on data -/
def Op2 (K : PySem.W.Frag) (r : R2) (op : DV → DV → Option DV) : Prop := ∀ C G H σ s x y d e z, Ab K C G H σ s → Rp K G x d → Rp K G y e → op d e = some z →
  ∀ Q : VK, (∀ v H' G', Fw G H G' H' none → Rp K G' v z → Q v H') → r x y H Q
def Op1 (K : PySem.W.Frag) (r : V → Hp → VK → Prop) (op : DV → Option DV) : Prop := ∀ C G H σ s x d z, Ab K C G H σ s → Rp K G x d → op d = some z →
  ∀ Q : VK, (∀ v H' G', Fw G H G' H' none → Rp K G' v z → Q v H') → r x H Q
theorem ev2 {K : PySem.W.Frag} {ta tb t : TE} {f g : EF} {r : R2} {op : DV → DV → Option DV} (h1 : EvE K C ta f) (h2 : EvE K C tb g) (ho : Op2 K r op) (ht : ∀ σ H Q, (ta σ H fun x H1 => tb σ H1 fun y H2 => r x y H2 Q) → t σ H Q) : EvE K C t (e2 f g op) := by
  intro G H σ s z s' A h Q q
  unfold e2 at h
  split at h
  · rename_i d s1 q1
    split at h
    · rename_i y s2 q2
      split at h
      · rename_i z' q3
        cases h
        refine ht σ H Q (h1 G H σ s d s1 A q1 _ fun v H1 G1 g1 A1 r1 => ?_)
        refine h2 G1 H1 σ s1 y _ A1 q2 _ fun u H2 G2 g2 A2 r2 => ?_
        exact ho C G2 H2 σ _ v u d y _ A2 (Rp.mono g2 d v r1) r2 q3 Q fun w H' G' F rw' => q w H' G' ((g1.trans g2).trans F.g) (A2.fw0 F) rw'
      · cases h
    · cases h
  · cases h
theorem ev1 {K : PySem.W.Frag} {ta t : TE} {f : EF} {r : V → Hp → VK → Prop} {op : DV → Option DV} (h1 : EvE K C ta f) (ho : Op1 K r op) (ht : ∀ σ H Q, (ta σ H fun x H1 => r x H1 Q) → t σ H Q) : EvE K C t (e1 f op) := by
  intro G H σ s z s' A h Q q
  unfold e1 at h
  split at h
  · rename_i d s1 q1
    split at h
    · rename_i z' q3
      cases h
      refine ht σ H Q (h1 G H σ s d _ A q1 _ fun v H1 G1 g1 A1 r1 => ?_)
      exact ho C G1 H1 σ _ v d _ A1 r1 q3 Q fun w H' G' F rw' => q w H' G' (g1.trans F.g) (A1.fw0 F) rw'
    · cases h
  · cases h
theorem fe_op {r : R2} {op : DV → DV → Option DV} {o : Operator} {f g : EF} (hr : OpR X (binaryOp o) r) (ho : Op2 X.K r op) (h1 : FE X C a f) (h2 : FE X C b g) : FE X C (.BinOp a o b pos) (e2 f g op) := by
  obtain ⟨ta, p1, q1⟩ := h1
  obtain ⟨tb, p2, q2⟩ := h2
  exact ⟨_, pe_op hr p1 p2, ev2 q1 q2 ho fun _ _ _ h => h⟩
theorem fe_un {r : V → Hp → VK → Prop} {op : DV → Option DV} {o : UnaryOp} {f : EF} (hr : UnR X (unaryOp o) r) (ho : Op1 X.K r op) (h1 : FE X C a f) (hn : PE X a = PE X a := rfl) (mk : ∀ {ta}, PE X a ta → PE X (.UnaryOp o a pos) (tUn r ta)) : FE X C (.UnaryOp o a pos) (e1 f op) := by
  obtain ⟨ta, p1, q1⟩ := h1
  exact ⟨_, mk p1, ev1 q1 ho fun _ _ _ h => h⟩
theorem fe_cmp {r : R2} {op : DV → DV → Option DV} {o : CmpOp} {f g : EF} (hr : OpR X (compareOp o) r) (ho : Op2 X.K r op) (h1 : FE X C a f) (h2 : FE X C b g) (hm : behindInMarks o b = false := by first | exact nomark _ | rfl) : FE X C (.Compare a [o] [b] pos) (e2 f g op) := by
  obtain ⟨ta, p1, q1⟩ := h1
  obtain ⟨tb, p2, q2⟩ := h2
  exact ⟨_, pe_cmpR hr p1 p2 hm, ev2 q1 q2 ho fun _ _ _ h => h⟩
end
end FD

set_option maxRecDepth 100000
namespace FD
open PySem PySem.Spec PyProof.Rows L2

theorem OpR.or {X : Cx} {f : Value → Value → Sem Value} {r r' : R2} (h : OpR X f r) (h' : OpR X f r') : OpR X f (fun x y H Q => r x y H Q ∨ r' x y H Q) := by
  intro pins s σ H x y v u Q I rx ry q
  rcases q with q | q
  · exact h pins s σ H x y v u Q I rx ry q
  · exact h' pins s σ H x y v u Q I rx ry q
theorem CallR.or {X : Cx} {f : Value} {r r' : List V → Hp → VK → Prop} (h : CallR X f r) (h' : CallR X f r') : CallR X f (fun x H Q => r x H Q ∨ r' x H Q) := by
  intro pins s σ H x v Q I rx q
  rcases q with q | q
  · exact h pins s σ H x v Q I rx q
  · exact h' pins s σ H x v Q I rx q

/-! ## operations on data -/
def dAdd : DV → DV → Option DV
  | .int i, .int j => some (.int (i + j))
  | .str x, .str y => if x.length + y.length ≤ sizeLine then some (.str (x ++ y)) else none
  | .lst a, .lst b => if a.length + b.length ≤ sizeLine then some (.lst (a ++ b)) else none
  | .tup (a :: as), .tup b => if (a :: as).length + b.length ≤ sizeLine then some (.tup ((a :: as) ++ b)) else none
  | _, _ => none
def dSub : DV → DV → Option DV
  | .int i, .int j => some (.int (i - j))
  | _, _ => none
/-- the bits of a product are bounded -/
def fitM (i j : Int) : Bool := decide (i.natAbs.log2 + j.natAbs.log2 < 134217000)
def dMul : DV → DV → Option DV
  | .int i, .int j => if fitM i j then some (.int (i * j)) else none
  | .lst a, .int k => if decide (-(2 ^ 63) ≤ k ∧ k < 2 ^ 63 ∧ a.length * k.toNat ≤ sizeLine) then some (.lst (List.replicate k.toNat a).flatten) else none
  | _, _ => none
def dFdiv : DV → DV → Option DV
  | .int i, .int j => if decide (j ≠ 0 ∧ j.natAbs.log2 < 9000) then some (.int (i.fdiv j)) else none
  | _, _ => none
def dMod : DV → DV → Option DV
  | .int i, .int j => if decide (j ≠ 0) then some (.int (i.fmod j)) else none
  | _, _ => none
def dPow : DV → DV → Option DV
  | .int i, .int j => if decide (0 ≤ j ∧ j ≤ 1000000 ∧ i.natAbs < 2 ^ 64) then some (.int (i ^ j.toNat)) else none
  | _, _ => none
def dNeg : DV → Option DV
  | .int i => some (.int (-i))
  | _ => none
def dI (p : Int → Int → Bool) : DV → DV → Option DV
  | .int i, .int j => some (.bl (p i j))
  | _, _ => none
abbrev dLt := dI fun i j => decide (i < j)
abbrev dLe := dI fun i j => decide (i ≤ j)
abbrev dGt := dI fun i j => decide (j < i)
abbrev dGe := dI fun i j => decide (j ≤ i)
mutual
def toPy : DV → Option PyData
  | .non => some .none
  | .bl b => some (.bool b)
  | .int i => some (.int i)
  | .str x => some (.str x)
  | .tup ds => (toPyL ds).map .tuple
  | .lst ds => (toPyL ds).map .list
  | .scr ns => some (.list (ns.map .int))
  | .raw _ => none
def toPyL : List DV → Option (List PyData)
  | [] => some []
  | d :: ds => match toPy d with
    | some x => match toPyL ds with
      | some r => some (x :: r)
      | none => none
    | none => none
end
def dEq (d e : DV) : Option DV := match toPy d with
  | some x => match toPy e with
    | some y => if SeqAt.shaped x && SeqAt.shaped y then some (.bl (PyData.eqv x y)) else none
    | none => none
  | none => none
def dNe (d e : DV) : Option DV := match toPy d with
  | some x => match toPy e with
    | some y => if SeqAt.shaped x && SeqAt.shaped y then some (.bl (!PyData.eqv x y)) else none
    | none => none
  | none => none
def dIsN : DV → DV → Option DV
  | .raw _, _ => none
  | .non, .non => some (.bl true)
  | _, .non => some (.bl false)
  | _, _ => none
def dNotN : DV → DV → Option DV
  | .raw _, _ => none
  | .non, .non => some (.bl false)
  | _, .non => some (.bl true)
  | _, _ => none

section
variable {K : PySem.W.Frag} {X : Cx}
theorem CallFit {i j : Int} (h : fitM i j = true) : IntMulOk i j := by
  have b : ∀ x : Int, Builtin.Int.intBits x ≤ x.natAbs.log2 + 1 := fun x => by
    unfold Builtin.Int.intBits
    split <;> omega
  have h1 := b i
  have h2 := b j
  have h3 : i.natAbs.log2 + j.natAbs.log2 < 134217000 := of_decide_eq_true h
  have e : bitsLine = 134217728 := by decide
  unfold IntMulOk
  intro z
  rw [Bool.and_eq_true] at z
  have z2 := z.2
  unfold Builtin.Int.intTooBig at z2
  have z3 := of_decide_eq_true z2
  rw [e] at z3
  omega
theorem op_mulX : OpR X (binaryOp .Mult) (rI (fun i j => fitM i j = true) fun i j => .int (i * j)) := opI fun _ _ _ _ _ _ _ hc q => mul_int q (CallFit hc)
theorem op_fdivX : OpR X (binaryOp .FloorDiv) (rI (fun i j => j ≠ 0 ∧ j.natAbs.log2 < 9000) fun i j => .int (i.fdiv j)) := opI fun i j _ _ _ _ _ hc q => floordiv_int hc.1 q (.inl (PyProof.noPylong_of_log2 hc.2))

theorem o_int {Cd : Int → Int → Prop} {g : Int → Int → V} {op : DV → DV → Option DV} (h : ∀ d e z, op d e = some z → ∃ i j, d = .int i ∧ e = .int j ∧ Cd i j ∧ ∀ G, Rp K G (g i j) z) : Op2 K (rI Cd g) op := by
  intro C G H σ s x y d e z A r1 r2 ho Q q
  obtain ⟨i, j, rfl, rfl, c, e1⟩ := h d e z ho
  exact ⟨i, j, r1, r2, c, q _ H G (Fw.refl A.gh) (e1 G)⟩
theorem o_int0 {g : Int → Int → V} {op : DV → DV → Option DV} (h : ∀ d e z, op d e = some z → ∃ i j, d = .int i ∧ e = .int j ∧ ∀ G, Rp K G (g i j) z) : Op2 K (rI0 g) op := by
  intro C G H σ s x y d e z A r1 r2 ho Q q
  obtain ⟨i, j, rfl, rfl, e1⟩ := h d e z ho
  exact ⟨i, j, r1, r2, q _ H G (Fw.refl A.gh) (e1 G)⟩
theorem o_sub : Op2 K (rI0 fun i j => .int (i - j)) dSub := o_int0 fun d e z h => by
  unfold dSub at h
  split at h
  · cases h; exact ⟨_, _, rfl, rfl, fun _ => rfl⟩
  · cases h
theorem o_fdiv : Op2 K (rI (fun i j => j ≠ 0 ∧ j.natAbs.log2 < 9000) fun i j => .int (i.fdiv j)) dFdiv := o_int fun d e z h => by
  unfold dFdiv at h
  split at h
  · split at h
    · rename_i hd
      cases h; exact ⟨_, _, rfl, rfl, of_decide_eq_true hd, fun _ => rfl⟩
    · cases h
  · cases h
theorem o_mod : Op2 K (rI (fun _ j => j ≠ 0) fun i j => .int (i.fmod j)) dMod := o_int fun d e z h => by
  unfold dMod at h
  split at h
  · split at h
    · rename_i hd
      cases h; exact ⟨_, _, rfl, rfl, of_decide_eq_true hd, fun _ => rfl⟩
    · cases h
  · cases h
theorem o_pow : Op2 K (rI CPow fun i j => .int (i ^ j.toNat)) dPow := o_int fun d e z h => by
  unfold dPow at h
  split at h
  · split at h
    · rename_i hd
      cases h; exact ⟨_, _, rfl, rfl, (of_decide_eq_true hd : _ ∧ _ ∧ _), fun _ => rfl⟩
    · cases h
  · cases h
theorem o_cmp {p : Int → Int → Bool} : Op2 K (rI0 fun i j => .bl (p i j)) (dI p) := o_int0 fun d e z h => by
  unfold dI at h
  split at h
  · cases h; exact ⟨_, _, rfl, rfl, fun _ => rfl⟩
  · cases h
abbrev rAddX (K : PySem.W.Frag) : R2 := fun x y H Q => (rI0 (fun i j => .int (i + j)) x y H Q) ∨ (rAddS x y H Q ∨ (rCat x y H Q ∨ rCatT K x y H Q))
theorem op_addX : OpR X (binaryOp .Add) (rAddX X.K) := OpR.or op_add (OpR.or op_add_str (OpR.or op_cat op_catT))
theorem o_add : Op2 K (rAddX K) dAdd := by
  intro C G H σ s x y d e z A r1 r2 ho Q q
  unfold dAdd at ho
  split at ho
  · cases ho
    exact .inl ⟨_, _, r1, r2, q _ H G (Fw.refl A.gh) rfl⟩
  · split at ho
    · rename_i hl
      cases ho
      exact .inr (.inl ⟨_, _, r1, r2, hl, q _ H G (Fw.refl A.gh) rfl⟩)
    · cases ho
  · split at ho
    · rename_i hl
      cases ho
      obtain ⟨a, vs, e1, h1, h2⟩ := r1
      obtain ⟨b, us, e2, h3, h4⟩ := r2
      subst e1 e2
      refine .inr (.inr (.inl ⟨a, b, vs, us, rfl, rfl, A.gh _ _ h1, A.gh _ _ h3, by rw [h2.length, h4.length]; exact hl, fun p hp => ?_⟩))
      exact lst_ok A (h2.append h4) q p hp
    · cases ho
  · split at ho
    · rename_i hl
      cases ho
      obtain ⟨a, vs, e1, h1, h2⟩ := r1
      obtain ⟨b, us, e2, h3, h4⟩ := r2
      subst e1 e2
      have l1 := h2.length
      have l2 := h4.length
      refine .inr (.inr (.inr ⟨a, b, vs, us, rfl, rfl, Same.tup A.gh h1, Same.tup A.gh h3, fun z => ?_, by rw [l1, l2]; exact hl, fun z => ?_, fun z p hp => tup_ok A (h2.append h4) q p hp⟩))
      · rw [z] at l1
        simp at l1
      · subst z
        have q1 := h2.append h4
        rw [List.append_nil] at q1
        exact q _ H G (Fw.refl A.gh) ⟨a, vs, rfl, h1, q1⟩
    · cases ho
  · cases ho
abbrev rMulX : R2 := fun x y H Q => (rI (fun i j => fitM i j = true) (fun i j => .int (i * j)) x y H Q) ∨ rRep x y H Q
theorem op_mulXX : OpR X (binaryOp .Mult) rMulX := OpR.or op_mulX op_rep
theorem RpL.rep {G : Hp} {vs : List V} {ds : List DV} (h : RpL K G vs ds) : ∀ n : Nat, RpL K G (List.replicate n vs).flatten (List.replicate n ds).flatten
  | 0 => rfl
  | n + 1 => by
    rw [List.replicate_succ, List.replicate_succ, List.flatten_cons, List.flatten_cons]
    exact h.append (RpL.rep h n)
theorem o_mul : Op2 K rMulX dMul := by
  intro C G H σ s x y d e z A r1 r2 ho Q q
  unfold dMul at ho
  split at ho
  · split at ho
    · rename_i hl
      cases ho
      exact .inl ⟨_, _, r1, r2, hl, q _ H G (Fw.refl A.gh) rfl⟩
    · cases ho
  · split at ho
    · rename_i hl
      cases ho
      obtain ⟨a, vs, e1, h1, h2⟩ := r1
      have e2 : y = .int _ := r2
      subst e1 e2
      obtain ⟨l1, l2, l3⟩ := of_decide_eq_true hl
      exact .inr ⟨a, _, vs, rfl, rfl, A.gh _ _ h1, l1, l2, by rw [h2.length]; exact l3, fun p hp => lst_ok A (h2.rep _) q p hp⟩
    · cases ho
  · cases ho
mutual
theorem Rp.dp {G H : Hp} (g : Same G H) : ∀ (d : DV) (v : V) (x : PyData), Rp K G v d → toPy d = some x → Dp K H v x
  | .non, v, x, h, e => by
    cases e
    have h' : v = .non := h
    rw [h']
    exact .non
  | .bl b, v, x, h, e => by
    cases e
    have h' : v = .bl b := h
    rw [h']
    exact .bl b
  | .int b, v, x, h, e => by
    cases e
    have h' : v = .int b := h
    rw [h']
    exact .int b
  | .str b, v, x, h, e => by
    cases e
    have h' : v = .str b := h
    rw [h']
    exact .str b
  | .tup ds, v, x, h, e => by
    obtain ⟨a, vs, e1, h1, h2⟩ := h
    unfold toPy at e
    cases q : toPyL ds with
    | none => rw [q] at e; cases e
    | some xs =>
      rw [q] at e
      cases e
      rw [e1]
      exact .tup (Same.tup g h1) (RpL.dp g ds vs xs h2 q)
  | .lst ds, v, x, h, e => by
    obtain ⟨a, vs, e1, h1, h2⟩ := h
    unfold toPy at e
    cases q : toPyL ds with
    | none => rw [q] at e; cases e
    | some xs =>
      rw [q] at e
      cases e
      rw [e1]
      exact .lst (SqL.of (g _ _ h1)) (RpL.dp g ds vs xs h2 q)
  | .scr ns, v, x, h, e => by
    obtain ⟨a, e1, h1⟩ := h
    cases e
    rw [e1]
    refine .lst (g.seq h1) ?_
    clear h1 e1
    induction ns with
    | nil => exact .nil
    | cons n ns ih => exact .cons (.int n) ih
  | .raw _, _, _, _, e => by cases e
theorem RpL.dp {G H : Hp} (g : Same G H) : ∀ (ds : List DV) (vs : List V) (xs : List PyData), RpL K G vs ds → toPyL ds = some xs → DpAll K H vs xs
  | [], vs, xs, h, e => by
    cases e
    have h' : vs = [] := h
    rw [h']
    exact .nil
  | d :: ds, vs, xs, h, e => by
    obtain ⟨v, r, e1, h1, h2⟩ := h
    unfold toPyL at e
    split at e
    · rename_i x q1
      split at e
      · rename_i r' q2
        cases e
        rw [e1]
        exact .cons (Rp.dp g d v x h1 q1) (RpL.dp g ds r r' h2 q2)
      · cases e
    · cases e
end
theorem o_eq : Op2 K (rEqD K) dEq := by
  intro C G H σ s x y d e z A r1 r2 ho Q q
  unfold dEq at ho
  cases h1 : toPy d with
  | none => rw [h1] at ho; cases ho
  | some a =>
    rw [h1] at ho
    cases h2 : toPy e with
    | none => rw [h2] at ho; cases ho
    | some b =>
      rw [h2] at ho
      dsimp only at ho
      split at ho
      · rename_i hs
        cases ho
        rw [Bool.and_eq_true] at hs
        exact ⟨a, b, Rp.dp A.gh d x a r1 h1, Rp.dp A.gh e y b r2 h2, hs.1, hs.2, q _ H G (Fw.refl A.gh) rfl⟩
      · cases ho
theorem o_ne : Op2 K (rNeD K) dNe := by
  intro C G H σ s x y d e z A r1 r2 ho Q q
  unfold dNe at ho
  cases h1 : toPy d with
  | none => rw [h1] at ho; cases ho
  | some a =>
    rw [h1] at ho
    cases h2 : toPy e with
    | none => rw [h2] at ho; cases ho
    | some b =>
      rw [h2] at ho
      dsimp only at ho
      split at ho
      · rename_i hs
        cases ho
        rw [Bool.and_eq_true] at hs
        exact ⟨a, b, Rp.dp A.gh d x a r1 h1, Rp.dp A.gh e y b r2 h2, hs.1, hs.2, q _ H G (Fw.refl A.gh) rfl⟩
      · cases ho
theorem Rp.non_iff {G : Hp} {v : V} {d : DV} (h : Rp K G v d) (hr : ∀ u, d ≠ .raw u) : v = .non ↔ d = .non := by
  constructor
  · intro e
    subst e
    cases d with
    | non => rfl
    | raw u => exact absurd rfl (hr u)
    | tup ds => obtain ⟨a, vs, e, _⟩ := h; cases e
    | lst ds => obtain ⟨a, vs, e, _⟩ := h; cases e
    | scr ns => obtain ⟨a, e, _⟩ := h; cases e
    | bl b => cases (show V.non = V.bl b from h)
    | int b => cases (show V.non = V.int b from h)
    | str b => cases (show V.non = V.str b from h)
  · intro e
    subst e
    exact h
theorem o_isN : Op2 K rIsN dIsN := by
  intro C G H σ s x y d e z A r1 r2 ho Q q
  unfold dIsN at ho
  split at ho
  · cases ho
  · cases ho
    exact ⟨r2, q _ H G (Fw.refl A.gh) (by rw [show x = .non from r1]; rfl)⟩
  · rename_i n1 n2
    cases ho
    have hx : x ≠ .non := fun z => n2 ((Rp.non_iff r1 (fun u z => n1 u z)).mp z)
    exact ⟨r2, q _ H G (Fw.refl A.gh) (by rw [decide_eq_false hx]; rfl)⟩
  · cases ho
theorem o_notN : Op2 K rNotN dNotN := by
  intro C G H σ s x y d e z A r1 r2 ho Q q
  unfold dNotN at ho
  split at ho
  · cases ho
  · cases ho
    exact ⟨r2, q _ H G (Fw.refl A.gh) (by rw [show x = .non from r1]; rfl)⟩
  · rename_i n1 n2
    cases ho
    have hx : x ≠ .non := fun z => n2 ((Rp.non_iff r1 (fun u z => n1 u z)).mp z)
    exact ⟨r2, q _ H G (Fw.refl A.gh) (by rw [decide_eq_false hx]; rfl)⟩
  · cases ho
end

/-! ## expressions by their operators -/
section
variable {X : Cx} {C : Cn} {e a b c : Expr} {es : List Expr} {pos : Pos} {f g h : EF}
theorem fe_add (h1 : FE X C a f) (h2 : FE X C b g) : FE X C (.BinOp a .Add b pos) (e2 f g dAdd) := fe_op op_addX o_add h1 h2
theorem fe_sub (h1 : FE X C a f) (h2 : FE X C b g) : FE X C (.BinOp a .Sub b pos) (e2 f g dSub) := fe_op op_sub o_sub h1 h2
theorem fe_mul (h1 : FE X C a f) (h2 : FE X C b g) : FE X C (.BinOp a .Mult b pos) (e2 f g dMul) := fe_op op_mulXX o_mul h1 h2
theorem fe_fdiv (h1 : FE X C a f) (h2 : FE X C b g) : FE X C (.BinOp a .FloorDiv b pos) (e2 f g dFdiv) := fe_op op_fdivX o_fdiv h1 h2
theorem fe_mod (h1 : FE X C a f) (h2 : FE X C b g) : FE X C (.BinOp a .Mod b pos) (e2 f g dMod) := fe_op op_modN o_mod h1 h2
theorem fe_pow (h1 : FE X C a f) (h2 : FE X C b g) : FE X C (.BinOp a .Pow b pos) (e2 f g dPow) := fe_op op_pow o_pow h1 h2
theorem o_neg {K : PySem.W.Frag} : Op1 K (rU fun i => .int (-i)) dNeg := by
  intro C G H σ s x d z A r1 ho Q q
  unfold dNeg at ho
  split at ho
  · cases ho
    exact ⟨_, r1, q _ H G (Fw.refl A.gh) rfl⟩
  · cases ho
theorem fe_neg (h1 : FE X C a f) : FE X C (.UnaryOp .USub a pos) (e1 f dNeg) := by
  obtain ⟨ta, p1, q1⟩ := h1
  exact ⟨_, pe_un un_neg p1, ev1 q1 o_neg fun _ _ _ h => h⟩
theorem fe_lt (h1 : FE X C a f) (h2 : FE X C b g) : FE X C (.Compare a [.Lt] [b] pos) (e2 f g dLt) := fe_cmp op_lt o_cmp h1 h2
theorem fe_le (h1 : FE X C a f) (h2 : FE X C b g) : FE X C (.Compare a [.LtE] [b] pos) (e2 f g dLe) := fe_cmp op_le o_cmp h1 h2
theorem fe_gt (h1 : FE X C a f) (h2 : FE X C b g) : FE X C (.Compare a [.Gt] [b] pos) (e2 f g dGt) := fe_cmp op_gt o_cmp h1 h2
theorem fe_ge (h1 : FE X C a f) (h2 : FE X C b g) : FE X C (.Compare a [.GtE] [b] pos) (e2 f g dGe) := fe_cmp op_ge o_cmp h1 h2
theorem fe_eq (hu : X.A.units + 64 < cLine) (h1 : FE X C a f) (h2 : FE X C b g) : FE X C (.Compare a [.Eq] [b] pos) (e2 f g dEq) := fe_cmp (op_eqD hu) o_eq h1 h2
theorem fe_ne (hu : X.A.units + 64 < cLine) (h1 : FE X C a f) (h2 : FE X C b g) : FE X C (.Compare a [.NotEq] [b] pos) (e2 f g dNe) := fe_cmp (op_neD hu) o_ne h1 h2
theorem fe_isN (h1 : FE X C a f) (h2 : FE X C b g) : FE X C (.Compare a [.Is] [b] pos) (e2 f g dIsN) := fe_cmp op_isN1 o_isN h1 h2
theorem fe_notN (h1 : FE X C a f) (h2 : FE X C b g) : FE X C (.Compare a [.IsNot] [b] pos) (e2 f g dNotN) := fe_cmp op_notN1 o_notN h1 h2
end
end FD

set_option maxRecDepth 100000
namespace FD
open PySem PySem.Spec PyProof.Rows L2

/-! ## tests -/
def truD : DV → Option Bool
  | .non => some false
  | .bl b => some b
  | .int i => some (i != 0)
  | .str x => if x.length ≤ sizeLine then some ((x.length : Int) != 0) else none
  | .lst ds => some (!ds.isEmpty)
  | .tup ds => some (!ds.isEmpty)
  | .scr ns => some (!ns.isEmpty)
  | .raw _ => none
/-- a value that is True or False; any value's truth -/
def tBl (f : EF) : TF := fun s => match f s with
  | some (.bl b, s1) => some (b, s1)
  | _ => none
def tTr (f : EF) : TF := fun s => match f s with
  | some (d, s1) => match truD d with
    | some b => some (b, s1)
    | none => none
  | none => none
def tAn (f g : TF) : TF := fun s => match f s with
  | some (true, s1) => g s1
  | some (false, s1) => some (false, s1)
  | none => none
def tOo (f g : TF) : TF := fun s => match f s with
  | some (true, s1) => some (true, s1)
  | some (false, s1) => g s1
  | none => none
def tNo (f : TF) : TF := fun s => match f s with
  | some (b, s1) => some (!b, s1)
  | none => none
def eIf (t : TF) (f g : EF) : EF := fun s => match t s with
  | some (true, s1) => f s1
  | some (false, s1) => g s1
  | none => none
def eAn (f g : EF) : EF := fun s => match f s with
  | some (.bl true, s1) => g s1
  | some (.bl false, s1) => some (.bl false, s1)
  | _ => none
def eOo (f g : EF) : EF := fun s => match f s with
  | some (.bl true, s1) => some (.bl true, s1)
  | some (.bl false, s1) => g s1
  | _ => none
def eNo (f : EF) : EF := fun s => match f s with
  | some (.bl b, s1) => some (.bl (!b), s1)
  | _ => none
section
variable {X : Cx} {C : Cn} {e a b c : Expr} {es : List Expr} {pos : Pos} {f g h : EF} {t u : TF}
theorem evBl {K : PySem.W.Frag} {te : TE} (q : EvE K C te f) {tt : TT} (ht : ∀ σ H Q, (te σ H fun x H' => ∃ k, x = .bl k ∧ Q k H') → tt σ H Q) : EvT K C tt (tBl f) := by
  intro G H σ s k s' A h Q k1
  unfold tBl at h
  split at h
  · rename_i k' s1 e1
    cases h
    exact ht σ H Q (q G H σ s _ _ A e1 _ fun v H' G' g1 A1 r => ⟨_, r, k1 H' G' g1 A1⟩)
  · cases h
theorem ft_cmp {r : R2} {op : DV → DV → Option DV} {o : CmpOp} (hr : OpR X (compareOp o) r) (ho : Op2 X.K r op) (h1 : FE X C a f) (h2 : FE X C b g) (hm : behindInMarks o b = false := by first | exact nomark _ | rfl) : FT X C (.Compare a [o] [b] pos) (tBl (e2 f g op)) := by
  obtain ⟨ta, p1, q1⟩ := h1
  obtain ⟨tb, p2, q2⟩ := h2
  exact ⟨_, pt_cmpR hr p1 p2 hm, evBl (ev2 (t := tOp r ta tb) q1 q2 ho fun _ _ _ h => h) fun _ _ _ h => h⟩
theorem ft_lt (h1 : FE X C a f) (h2 : FE X C b g) : FT X C (.Compare a [.Lt] [b] pos) (tBl (e2 f g dLt)) := ft_cmp op_lt o_cmp h1 h2
theorem ft_le (h1 : FE X C a f) (h2 : FE X C b g) : FT X C (.Compare a [.LtE] [b] pos) (tBl (e2 f g dLe)) := ft_cmp op_le o_cmp h1 h2
theorem ft_gt (h1 : FE X C a f) (h2 : FE X C b g) : FT X C (.Compare a [.Gt] [b] pos) (tBl (e2 f g dGt)) := ft_cmp op_gt o_cmp h1 h2
theorem ft_ge (h1 : FE X C a f) (h2 : FE X C b g) : FT X C (.Compare a [.GtE] [b] pos) (tBl (e2 f g dGe)) := ft_cmp op_ge o_cmp h1 h2
theorem ft_eq (hu : X.A.units + 64 < cLine) (h1 : FE X C a f) (h2 : FE X C b g) : FT X C (.Compare a [.Eq] [b] pos) (tBl (e2 f g dEq)) := ft_cmp (op_eqD hu) o_eq h1 h2
theorem ft_ne (hu : X.A.units + 64 < cLine) (h1 : FE X C a f) (h2 : FE X C b g) : FT X C (.Compare a [.NotEq] [b] pos) (tBl (e2 f g dNe)) := ft_cmp (op_neD hu) o_ne h1 h2
theorem ft_isN (h1 : FE X C a f) (h2 : FE X C b g) : FT X C (.Compare a [.Is] [b] pos) (tBl (e2 f g dIsN)) := ft_cmp op_isN1 o_isN h1 h2
theorem ft_notN (h1 : FE X C a f) (h2 : FE X C b g) : FT X C (.Compare a [.IsNot] [b] pos) (tBl (e2 f g dNotN)) := ft_cmp op_notN1 o_notN h1 h2
theorem tru_of {K : PySem.W.Frag} {G H : Hp} (g : Same G H) {v : V} {d : DV} {k : Bool} (r : Rp K G v d) (e : truD d = some k) : TruV K v H k := by
  cases d with
  | non => cases e; rw [show v = .non from r]; rfl
  | bl b => cases e; rw [show v = .bl _ from r]; rfl
  | int b => cases e; rw [show v = .int _ from r]; rfl
  | str x =>
    simp only [truD] at e
    split at e
    · rename_i hl
      cases e
      rw [show v = .str _ from r]
      exact ⟨hl, rfl⟩
    · cases e
  | lst ds =>
    cases e
    obtain ⟨a, vs, e1, h1, h2⟩ := r
    rw [e1]
    refine .inl ⟨vs, SqL.of (g _ _ h1), ?_⟩
    have := h2.length
    cases vs <;> cases ds <;> first | rfl | (simp at this)
  | tup ds =>
    cases e
    obtain ⟨a, vs, e1, h1, h2⟩ := r
    rw [e1]
    refine .inr (.inl ⟨vs, Same.tup g h1, ?_⟩)
    have := h2.length
    cases vs <;> cases ds <;> first | rfl | (simp at this)
  | scr ns =>
    cases e
    obtain ⟨a, e1, h1⟩ := r
    rw [e1]
    refine .inl ⟨_, g.seq h1, ?_⟩
    cases ns <;> rfl
  | raw u => cases e
theorem ft_tr (h1 : FE X C a f) (he : ∀ whole, isTrue a X.env whole = (do let v ← whole; standAt a.pos; holding [v] (truthy v)) := by intro _; rfl) : FT X C a (tTr f) := by
  obtain ⟨ta, p1, q1⟩ := h1
  refine ⟨_, pt_truth p1 he, ?_⟩
  intro G H σ s k s' A h Q k1
  unfold tTr at h
  split at h
  · rename_i d s1 e1
    split at h
    · rename_i b e2
      cases h
      exact q1 G H σ s d _ A e1 _ fun v H' G' g1 A1 r => ⟨_, tru_of A1.gh r e2, k1 H' G' g1 A1⟩
    · cases h
  · cases h
theorem FW.ft (h : FW X C e t) : FT X C e t := let ⟨tt, p, q⟩ := h; ⟨tt, p.pt, q⟩
theorem evAn {K : PySem.W.Frag} {ta tb : TT} (q1 : EvT K C ta t) (q2 : EvT K C tb u) : EvT K C (tAnd ta tb) (tAn t u) := by
  intro G H σ s k s' A h Q k1
  unfold tAn at h
  split at h
  · rename_i s1 e1
    refine q1 G H σ s _ _ A e1 _ fun H1 G1 g1 A1 => ?_
    rw [if_pos rfl]
    exact q2 G1 H1 σ _ _ _ A1 h Q fun H2 G2 g2 A2 => k1 H2 G2 (g1.trans g2) A2
  · rename_i s1 e1
    cases h
    refine q1 G H σ s _ _ A e1 _ fun H1 G1 g1 A1 => ?_
    rw [if_neg Bool.false_ne_true]
    exact k1 H1 G1 g1 A1
  · cases h
theorem evOo {K : PySem.W.Frag} {ta tb : TT} (q1 : EvT K C ta t) (q2 : EvT K C tb u) : EvT K C (tOr ta tb) (tOo t u) := by
  intro G H σ s k s' A h Q k1
  unfold tOo at h
  split at h
  · rename_i s1 e1
    cases h
    refine q1 G H σ s _ _ A e1 _ fun H1 G1 g1 A1 => ?_
    rw [if_pos rfl]
    exact k1 H1 G1 g1 A1
  · rename_i s1 e1
    refine q1 G H σ s _ _ A e1 _ fun H1 G1 g1 A1 => ?_
    rw [if_neg Bool.false_ne_true]
    exact q2 G1 H1 σ _ _ _ A1 h Q fun H2 G2 g2 A2 => k1 H2 G2 (g1.trans g2) A2
  · cases h
theorem fw_and1 (h : FT X C a t) : FW X C (.BoolOp .And [a] pos) t := let ⟨tt, p, q⟩ := h; ⟨tt, pw_and1 p, q⟩
theorem fw_or1 (h : FT X C a t) : FW X C (.BoolOp .Or [a] pos) t := let ⟨tt, p, q⟩ := h; ⟨tt, pw_or1 p, q⟩
theorem fw_and (h : FT X C a t) (h2 : FW X C (.BoolOp .And (b :: es) pos) u) : FW X C (.BoolOp .And (a :: b :: es) pos) (tAn t u) :=
  let ⟨_, p, q⟩ := h; let ⟨_, p2, q2⟩ := h2; ⟨_, pw_and p p2, evAn q q2⟩
theorem fw_or (h : FT X C a t) (h2 : FW X C (.BoolOp .Or (b :: es) pos) u) : FW X C (.BoolOp .Or (a :: b :: es) pos) (tOo t u) :=
  let ⟨_, p, q⟩ := h; let ⟨_, p2, q2⟩ := h2; ⟨_, pw_or p p2, evOo q q2⟩
theorem ft_not (h : FT X C a t) : FT X C (.UnaryOp .Not a pos) (tNo t) := by
  obtain ⟨tt, p, q⟩ := h
  refine ⟨_, pt_not p, ?_⟩
  intro G H σ s k s' A h Q k1
  unfold tNo at h
  split at h
  · rename_i b s1 e1
    cases h
    exact q G H σ s _ _ A e1 _ fun H1 G1 g1 A1 => k1 H1 G1 g1 A1
  · cases h
theorem fe_if (h : FT X C c t) (h1 : FE X C a f) (h2 : FE X C b g) : FE X C (.IfExp c a b pos) (eIf t f g) := by
  obtain ⟨tt, p, q⟩ := h
  obtain ⟨ta, p1, q1⟩ := h1
  obtain ⟨tb, p2, q2⟩ := h2
  refine ⟨_, pe_ifExp p p1 p2, ?_⟩
  intro G H σ s k s' A h Q k1
  unfold eIf at h
  split at h
  · rename_i s1 e1
    refine q G H σ s _ _ A e1 _ fun H1 G1 g1 A1 => ?_
    rw [if_pos rfl]
    exact q1 G1 H1 σ _ _ _ A1 h Q fun v H2 G2 g2 A2 r => k1 v H2 G2 (g1.trans g2) A2 r
  · rename_i s1 e1
    refine q G H σ s _ _ A e1 _ fun H1 G1 g1 A1 => ?_
    rw [if_neg Bool.false_ne_true]
    exact q2 G1 H1 σ _ _ _ A1 h Q fun v H2 G2 g2 A2 r => k1 v H2 G2 (g1.trans g2) A2 r
  · cases h
theorem fe_one {op} (h : FE X C a f) : FE X C (.BoolOp op [a] pos) f := let ⟨_, p, q⟩ := h; ⟨_, pe_one p, q⟩
theorem fe_and (h1 : FE X C a f) (h2 : FE X C (.BoolOp .And (b :: es) pos) g) : FE X C (.BoolOp .And (a :: b :: es) pos) (eAn f g) := by
  obtain ⟨ta, p1, q1⟩ := h1
  obtain ⟨tb, p2, q2⟩ := h2
  refine ⟨_, pe_and p1 p2, ?_⟩
  intro G H σ s k s' A h Q k1
  unfold eAn at h
  split at h
  · rename_i s1 e1
    refine q1 G H σ s _ _ A e1 _ fun v H1 G1 g1 A1 r => ⟨true, r, ?_⟩
    rw [if_pos rfl]
    exact q2 G1 H1 σ _ _ _ A1 h Q fun v H2 G2 g2 A2 r => k1 v H2 G2 (g1.trans g2) A2 r
  · rename_i s1 e1
    cases h
    refine q1 G H σ s _ _ A e1 _ fun v H1 G1 g1 A1 r => ⟨false, r, ?_⟩
    rw [if_neg Bool.false_ne_true]
    exact k1 _ H1 G1 g1 A1 rfl
  · cases h
theorem fe_or (h1 : FE X C a f) (h2 : FE X C (.BoolOp .Or (b :: es) pos) g) : FE X C (.BoolOp .Or (a :: b :: es) pos) (eOo f g) := by
  obtain ⟨ta, p1, q1⟩ := h1
  obtain ⟨tb, p2, q2⟩ := h2
  refine ⟨_, pe_or p1 p2, ?_⟩
  intro G H σ s k s' A h Q k1
  unfold eOo at h
  split at h
  · rename_i s1 e1
    cases h
    refine q1 G H σ s _ _ A e1 _ fun v H1 G1 g1 A1 r => ⟨true, r, ?_⟩
    rw [if_pos rfl]
    exact k1 _ H1 G1 g1 A1 rfl
  · rename_i s1 e1
    refine q1 G H σ s _ _ A e1 _ fun v H1 G1 g1 A1 r => ⟨false, r, ?_⟩
    rw [if_neg Bool.false_ne_true]
    exact q2 G1 H1 σ _ _ _ A1 h Q fun v H2 G2 g2 A2 r => k1 v H2 G2 (g1.trans g2) A2 r
  · cases h
theorem fe_not (h1 : FE X C a f) : FE X C (.UnaryOp .Not a pos) (eNo f) := by
  obtain ⟨ta, p1, q1⟩ := h1
  refine ⟨_, pe_not p1, ?_⟩
  intro G H σ s k s' A h Q k1
  unfold eNo at h
  split at h
  · rename_i b s1 e1
    cases h
    exact q1 G H σ s _ _ A e1 _ fun v H1 G1 g1 A1 r => ⟨b, r, k1 _ H1 G1 g1 A1 rfl⟩
  · cases h
end

/-! ## subscripts -/
def dIx : DV → DV → Option DV
  | .lst ds, .int i => atI ds i
  | .tup ds, .int i => atI ds i
  | .str z, .int i => if z.length ≤ sizeLine then (atI z.cps.toList i).map fun c => .str ⟨#[c]⟩ else none
  | _, _ => none
section
variable {K : PySem.W.Frag} {X : Cx} {C : Cn} {e a b c : Expr} {es : List Expr} {pos p2 : Pos} {f g h : EF} {t u : TF}
theorem RpL.atI {G : Hp} {vs : List V} {ds : List DV} {i : Int} {d : DV} (h : RpL K G vs ds) (e : atI ds i = some d) : ∃ v, L2.atI vs i = some v ∧ Rp K G v d := by
  unfold L2.atI at *
  rw [h.length]
  cases q : ixN ds.length i with
  | none => rw [q] at e; cases e
  | some j =>
    rw [q] at e
    exact h.get e
theorem o_ix : Op2 K (rIx K) dIx := by
  intro C G H σ s x y d e z A r1 r2 ho Q q
  unfold dIx at ho
  split at ho
  · obtain ⟨a, vs, e1, h1, h2⟩ := r1
    obtain ⟨v, h3, h4⟩ := h2.atI ho
    exact .inl ⟨a, vs, _, v, e1, r2, SqL.of (A.gh _ _ h1), h3, q v H G (Fw.refl A.gh) h4⟩
  · obtain ⟨a, vs, e1, h1, h2⟩ := r1
    obtain ⟨v, h3, h4⟩ := h2.atI ho
    exact .inr (.inl ⟨a, vs, _, v, e1, r2, Same.tup A.gh h1, h3, q v H G (Fw.refl A.gh) h4⟩)
  · rename_i zz ii
    split at ho
    · rename_i hl
      cases q1 : atI zz.cps.toList ii with
      | none => rw [q1] at ho; cases ho
      | some c =>
        rw [q1] at ho
        cases ho
        exact .inr (.inr ⟨_, _, c, r1, r2, hl, q1, q _ H G (Fw.refl A.gh) rfl⟩)
    · cases ho
  · cases ho
theorem fe_ix (h1 : FE X C a f) (h2 : FE X C b g) (hs : PlainIx b := by exact fun _ _ => rfl) : FE X C (.Subscript a b pos) (e2 f g dIx) := by
  obtain ⟨ta, p1, q1⟩ := h1
  obtain ⟨tb, p2, q2⟩ := h2
  exact ⟨_, pe_ix ix_seq p1 p2 hs, ev2 q1 q2 o_ix fun _ _ _ h => h⟩
/-- what a name's slot is worth for a reader: a list of the frame's own stays its own -/
def peek (s : S) (i : Nat) : Option DV := match s.sl[i]? with
  | some (some (.dat d)) => some d
  | some (some (.own ds)) => some (.lst ds)
  | _ => none
/-- the datum at v, in the heap itself; its items are data -/
theorem Ab.peek {K : PySem.W.Frag} {G H : Hp} {σ : List (Option V)} {s : S} {i : Nat} {d : DV} (A : Ab K C G H σ s) (h : FD.peek s i = some d) : ∃ v G', σ[i]? = some (some v) ∧ Same G G' ∧ Same G' H ∧ Rp K G' v d ∧
    (∀ ds, d = .lst ds → ∃ a vs, v = .ref a ∧ H a = some (.lst vs) ∧ RpL K G vs ds) ∧ ((∀ ds, d ≠ .lst ds) → Rp K G v d) := by
  unfold FD.peek at h
  split at h
  · rename_i d' e1
    cases h
    obtain ⟨o, e2, v, e3, r⟩ := A.slot e1
    subst e3
    refine ⟨v, G, e2, Same.refl _, A.gh, r, fun ds e => ?_, fun _ => r⟩
    subst e
    obtain ⟨a, vs, q1, q2, q3⟩ := r
    exact ⟨a, vs, q1, A.gh _ _ q2, q3⟩
  · rename_i ds e1
    cases h
    obtain ⟨o, e2, a, vs, e3, h1, h2, h3, h4, h5⟩ := A.slot e1
    subst e3
    have sg : Same G (upd G a (.lst vs)) := fun b u e => by rw [upd_ne (fun z => by rw [z, h3] at e; cases e)]; exact e
    refine ⟨_, upd G a (.lst vs), e2, sg, fun b u e => ?_, ⟨a, vs, rfl, upd_same, RpL.mono sg ds vs h2⟩, fun ds' e => ?_, fun z => absurd rfl (z ds)⟩
    · by_cases z : b = a
      · rw [z, upd_same] at e
        rw [z, ← e]
        exact h1
      · rw [upd_ne z] at e
        exact A.gh _ _ e
    · cases e
      exact ⟨a, vs, rfl, h1, h2⟩
  · cases h
def eIxN (i : Nat) (g : EF) : EF := fun s => match FD.peek s i with
  | some _ => match g s with
    | some (k, s1) => match FD.peek s1 i with
      | some d => match dIx d k with
        | some z => some (z, s1)
        | none => none
      | none => none
    | none => none
  | none => none
theorem fe_ixn (i : Nat) {x : Str} {pos' : Pos} (h2 : FE X C b g) (hN : X.N[i]? = some x := by rfl) (hv : Vis X.env.scope x := by first | exact Or.inl rfl | exact Or.inr (Or.inl rfl) | exact Or.inr (Or.inr rfl)) (hd : (x == ("__debug__" : Str)) = false := by decide)
    (hcd : (x == ("__classdict__" : Str)) = false := by decide) (hs : PlainIx b := by exact fun _ _ => rfl) : FE X C (.Subscript (.Name x pos') b pos) (eIxN i g) := by
  obtain ⟨tb, p2, q2⟩ := h2
  refine ⟨_, pe_ix ix_seq (pe_var hN hv hd hcd) p2 hs, ?_⟩
  intro G H σ s z s' A h Q q
  unfold eIxN at h
  split at h
  · rename_i d0 e0
    obtain ⟨v, _, ev, _⟩ := A.peek e0
    split at h
    · rename_i k s1 e1
      split at h
      · rename_i d e2
        split at h
        · rename_i z' e3
          cases h
          refine ⟨v, ev, q2 G H σ s k _ A e1 _ fun u H1 G1 g1 A1 r => ?_⟩
          obtain ⟨w, G2, ew, g2, g3, r2, r3, r4⟩ := A1.peek e2
          rw [ev] at ew
          cases ew
          cases d with
          | lst ds =>
            obtain ⟨a, vs, rfl, ha, hr⟩ := r3 ds rfl
            cases k with
            | int j =>
              obtain ⟨y, q3, q4⟩ := hr.atI e3
              exact .inl ⟨a, vs, _, y, rfl, r, SqL.of ha, q3, q y H1 G1 g1 A1 q4⟩
            | _ => cases e3
          | _ =>
            have r5 := r4 (fun ds z => nomatch z)
            exact o_ix C G1 H1 σ _ v u _ k _ A1 r5 r e3 Q fun y H' G' F ry => q y H' G' (g1.trans F.g) (A1.fw0 F) ry
        · cases h
      · cases h
    · cases h
  · cases h
/-! ## slices -/
def cutD (ds : List DV) (lo hi : Option Int) : List DV := (ds.drop (HT.sIx ds.length 0 lo)).take (HT.sIx ds.length ds.length hi - HT.sIx ds.length 0 lo)
def dSl : DV → Option Int → Option Int → Option DV
  | .lst ds, lo, hi => some (.lst (cutD ds lo hi))
  | .scr ns, lo, hi => some (.lst (cutD (ns.map .int) lo hi))
  | .tup ds, lo, hi => if HT.sIx ds.length 0 lo = 0 ∧ HT.sIx ds.length ds.length hi = ds.length then none else some (.tup (cutD ds lo hi))
  | _, _, _ => none
theorem RpL.cut {G : Hp} {vs : List V} {ds : List DV} (h : RpL K G vs ds) (lo hi : Option Int) : RpL K G (cutV vs lo hi) (cutD ds lo hi) := by
  unfold cutV cutD
  rw [h.length]
  exact (h.drop _).take _
abbrev rSlX (K : PySem.W.Frag) : V → Option Int → Option Int → Hp → VK → Prop := fun x lo hi H Q => rSlL K x lo hi H Q ∨ rSlT K x lo hi H Q
theorem slX : SlR X (rSlX X.K) := SlR.or sl_list sl_tup
/-- a part of a slice -/
abbrev OF := S → Option (Option Int × S)
def EvO (K : PySem.W.Frag) (C : Cn) (to : TO) (f : OF) : Prop := ∀ G H σ s d s', Ab K C G H σ s → f s = some (d, s') →
  ∀ Q : Option Int → Hp → Prop, (∀ H' G', Same G G' → Ab K C G' H' σ s' → Q d H') → to σ H Q
def FO (X : Cx) (C : Cn) (e : Option Expr) (f : OF) : Prop := ∃ to, PO X e to ∧ EvO X.K C to f
def oNo : OF := fun s => some (none, s)
def oSo (f : EF) : OF := fun s => match f s with
  | some (.int i, s1) => some (some i, s1)
  | _ => none
theorem fo_none : FO X C none oNo := ⟨_, po_none, by
  intro G H σ s d s' A h Q q
  cases h
  exact q H G (Same.refl _) A⟩
theorem fo_some (h : FE X C e f) : FO X C (some e) (oSo f) := by
  obtain ⟨te, p, q⟩ := h
  refine ⟨_, po_some p, ?_⟩
  intro G H σ s d s' A h Q k
  unfold oSo at h
  split at h
  · rename_i i s1 e1
    cases h
    exact q G H σ s _ _ A e1 _ fun v H' G' g A' r => ⟨i, r, k H' G' g A'⟩
  · cases h
def eSl (f : EF) (l h : OF) : EF := fun s => match f s with
  | some (d, s1) => match l s1 with
    | some (lo, s2) => match h s2 with
      | some (hi, s3) => match dSl d lo hi with
        | some z => some (z, s3)
        | none => none
      | none => none
    | none => none
  | none => none
theorem sl_of {G H : Hp} {σ : List (Option V)} {s : S} {v : V} {d z : DV} {lo hi : Option Int} {Q : VK} (A : Ab K C G H σ s) (r : Rp K G v d) (e : dSl d lo hi = some z) (q : ∀ v H' G', Fw G H G' H' none → Rp K G' v z → Q v H') : rSlX K v lo hi H Q := by
  unfold dSl at e
  split at e
  · cases e
    obtain ⟨a, vs, e1, h1, h2⟩ := r
    exact .inl ⟨a, vs, e1, SqL.of (A.gh _ _ h1), lst_ok A (h2.cut lo hi) q⟩
  · cases e
    obtain ⟨a, e1, h1⟩ := r
    exact .inl ⟨a, _, e1, A.gh.seq h1, lst_ok A ((RpL.ints _).cut lo hi) q⟩
  · split at e
    · cases e
    · rename_i hw
      cases e
      obtain ⟨a, vs, e1, h1, h2⟩ := r
      exact .inr ⟨a, vs, e1, Same.tup A.gh h1, by rw [h2.length]; exact hw, tup_ok A (h2.cut lo hi) q⟩
  · cases e
theorem fe_sl {lo hi : Option Expr} {l h : OF} (h1 : FE X C e f) (h2 : FO X C lo l) (h3 : FO X C hi h) : FE X C (.Subscript e (.Slice lo hi none p2) pos) (eSl f l h) := by
  obtain ⟨te, p1, q1⟩ := h1
  obtain ⟨tl, pl, ql⟩ := h2
  obtain ⟨th, ph, qh⟩ := h3
  refine ⟨_, pe_slice slX p1 pl ph, ?_⟩
  intro G H σ s z s' A e Q q
  unfold eSl at e
  split at e
  · rename_i d s1 a1
    split at e
    · rename_i lo' s2 a2
      split at e
      · rename_i hi' s3 a3
        split at e
        · rename_i z' a4
          cases e
          refine q1 G H σ s d s1 A a1 _ fun v H1 G1 g1 A1 r1 => ?_
          refine ql G1 H1 σ s1 _ s2 A1 a2 _ fun H2 G2 g2 A2 => ?_
          refine qh G2 H2 σ s2 _ _ A2 a3 _ fun H3 G3 g3 A3 => ?_
          exact sl_of A3 (Rp.mono (g2.trans g3) d v r1) a4 fun v H' G' F r => q v H' G' ((g1.trans (g2.trans g3)).trans F.g) (A3.fw0 F) r
        · cases e
      · cases e
    · cases e
  · cases e
/-- a slice of a name's list -/
def eSlN (i : Nat) (l h : OF) : EF := fun s => match FD.peek s i with
  | some _ => match l s with
    | some (lo, s2) => match h s2 with
      | some (hi, s3) => match FD.peek s3 i with
        | some d => match dSl d lo hi with
          | some z => some (z, s3)
          | none => none
        | none => none
      | none => none
    | none => none
  | none => none
theorem fe_sln (i : Nat) {x : Str} {pos' : Pos} {lo hi : Option Expr} {l h : OF} (h2 : FO X C lo l) (h3 : FO X C hi h) (hN : X.N[i]? = some x := by rfl) (hv : Vis X.env.scope x := by first | exact Or.inl rfl | exact Or.inr (Or.inl rfl) | exact Or.inr (Or.inr rfl)) (hd : (x == ("__debug__" : Str)) = false := by decide)
    (hcd : (x == ("__classdict__" : Str)) = false := by decide) : FE X C (.Subscript (.Name x pos') (.Slice lo hi none p2) pos) (eSlN i l h) := by
  obtain ⟨tl, pl, ql⟩ := h2
  obtain ⟨th, ph, qh⟩ := h3
  refine ⟨_, pe_slice slX (pe_var hN hv hd hcd) pl ph, ?_⟩
  intro G H σ s z s' A e Q q
  unfold eSlN at e
  split at e
  · rename_i d0 e0
    obtain ⟨v, _, ev, _⟩ := A.peek e0
    split at e
    · rename_i lo' s2 a2
      split at e
      · rename_i hi' s3 a3
        split at e
        · rename_i d a5
          split at e
          · rename_i z' a4
            cases e
            refine ⟨v, ev, ql G H σ s _ s2 A a2 _ fun H2 G2 g2 A2 => ?_⟩
            refine qh G2 H2 σ s2 _ _ A2 a3 _ fun H3 G3 g3 A3 => ?_
            obtain ⟨w, G4, ew, g4, g5, r2, r3, r4⟩ := A3.peek a5
            rw [ev] at ew
            cases ew
            cases d with
            | lst ds =>
              obtain ⟨a, vs, rfl, ha, hr⟩ := r3 ds rfl
              cases a4
              exact .inl ⟨a, vs, rfl, SqL.of ha, lst_ok A3 (hr.cut lo' hi') fun v H' G' F r => q v H' G' ((g2.trans g3).trans F.g) (A3.fw0 F) r⟩
            | _ => exact sl_of A3 (r4 (fun ds z => nomatch z)) a4 fun v H' G' F r => q v H' G' ((g2.trans g3).trans F.g) (A3.fw0 F) r
          · cases e
        · cases e
      · cases e
    · cases e
  · cases e
end

/-! ## calls of built-ins -/
def OpA (K : PySem.W.Frag) (r : List V → Hp → VK → Prop) (op : List DV → Option DV) : Prop := ∀ C G H σ s vs ds d, Ab K C G H σ s → RpL K G vs ds → op ds = some d →
  ∀ Q : VK, (∀ v H' G', Fw G H G' H' none → Rp K G' v d → Q v H') → r vs H Q
section
variable {K : PySem.W.Frag} {X : Cx} {C : Cn} {e a b c : Expr} {es : List Expr} {pos p p2 : Pos} {f g h : EF} {fa : AF} {x : Str} {id : String} {r : List V → Hp → VK → Prop} {op : List DV → Option DV}
theorem fe_callB (hc : CallR X (.builtin id) r) (ho : OpA X.K r op) (hm : X.mg x = none) (hv : bootBuiltins x = some (.builtin id)) (ha : FA X C (e :: es) fa) (hg : Gl X x := by rfl) (hn : x ≠ "__name__" := by decide) (hdb : (x == ("__debug__" : Str)) = false := by decide)
    (he : starEach (e :: es) X.env = (false, eval e X.env) :: starEach es X.env := by rfl) (hpl : (backTo pos (starEach es X.env)).any (·.1) = false := by rfl) : FE X C (.Call (.Name x p) (e :: es) [] pos) (eA fa op) := by
  obtain ⟨ta, p1, q1⟩ := ha
  exact ⟨_, pe_callB hc hg hm hv p1 hn hdb he hpl, evA_of q1 (fun _ _ _ h => h) fun G H σ s vs ds d A r e Q q => ho C G H σ s vs ds d A r e Q q⟩
theorem fe_callTy {T : String} (hc : CallR X (.type T) r) (ho : OpA X.K r op) (hm : X.mg x = none) (hv : bootBuiltins x = some (.type T)) (ha : FA X C (e :: es) fa) (hg : Gl X x := by rfl) (hn : x ≠ "__name__" := by decide) (hdb : (x == ("__debug__" : Str)) = false := by decide)
    (he : starEach (e :: es) X.env = (false, eval e X.env) :: starEach es X.env := by rfl) (hpl : (backTo pos (starEach es X.env)).any (·.1) = false := by rfl) : FE X C (.Call (.Name x p) (e :: es) [] pos) (eA fa op) := by
  obtain ⟨ta, p1, q1⟩ := ha
  exact ⟨_, pe_callTy hc hg hm hv p1 hn hdb he hpl, evA_of q1 (fun _ _ _ h => h) fun G H σ s vs ds d A r e Q q => ho C G H σ s vs ds d A r e Q q⟩
theorem fe_callM (hc : CallR X (.builtin id) r) (ho : OpA X.K r op) (hm : X.mg x = some (.builtin id)) (ha : FA X C (e :: es) fa) (hg : Gl X x := by rfl) (hdb : (x == ("__debug__" : Str)) = false := by decide)
    (he : starEach (e :: es) X.env = (false, eval e X.env) :: starEach es X.env := by rfl) (hpl : (backTo pos (starEach es X.env)).any (·.1) = false := by rfl) : FE X C (.Call (.Name x p) (e :: es) [] pos) (eA fa op) := by
  obtain ⟨ta, p1, q1⟩ := ha
  exact ⟨_, pe_callBfun hc hg hm p1 hdb he hpl, evA_of q1 (fun _ _ _ h => h) fun G H σ s vs ds d A r e Q q => ho C G H σ s vs ds d A r e Q q⟩
def dLen : List DV → Option DV
  | [.lst ds] => some (.int ds.length)
  | [.tup ds] => some (.int ds.length)
  | [.scr ns] => some (.int ns.length)
  | [.str x] => if x.length ≤ sizeLine then some (.int x.length) else none
  | _ => none
theorem RpL.single {G : Hp} {vs : List V} {d : DV} (h : RpL K G vs [d]) : ∃ v, vs = [v] ∧ Rp K G v d := by
  obtain ⟨v, r, e, h1, h2⟩ := h
  have h2' : r = [] := h2
  exact ⟨v, by rw [e, h2'], h1⟩
theorem RpL.double {G : Hp} {vs : List V} {d d' : DV} (h : RpL K G vs [d, d']) : ∃ v v', vs = [v, v'] ∧ Rp K G v d ∧ Rp K G v' d' := by
  obtain ⟨v, r, e, h1, h2⟩ := h
  obtain ⟨w, rfl, h3⟩ := h2.single
  exact ⟨v, w, e, h1, h3⟩
theorem o_len : OpA K (fun xs H Q => ∃ x n, xs = [x] ∧ LenV K x H n ∧ Q (.int n) H) dLen := by
  intro C G H σ s vs ds d A r ho Q q
  unfold dLen at ho
  split at ho
  · cases ho
    obtain ⟨v, e, a, us, e1, h1, h2⟩ := r.single
    rw [e1] at e
    exact ⟨_, _, e, .inl ⟨us, SqL.of (A.gh _ _ h1), h2.length.symm⟩, q _ H G (Fw.refl A.gh) rfl⟩
  · cases ho
    obtain ⟨v, e, a, us, e1, h1, h2⟩ := r.single
    rw [e1] at e
    exact ⟨_, _, e, .inr ⟨us, Same.tup A.gh h1, h2.length.symm⟩, q _ H G (Fw.refl A.gh) rfl⟩
  · cases ho
    obtain ⟨v, e, a, e1, h1⟩ := r.single
    rw [e1] at e
    exact ⟨_, _, e, .inl ⟨_, A.gh.seq h1, (List.length_map _).symm⟩, q _ H G (Fw.refl A.gh) rfl⟩
  · split at ho
    · rename_i hl
      cases ho
      obtain ⟨v, e, e1⟩ := r.single
      rw [show v = .str _ from e1] at e
      exact ⟨_, _, e, ⟨hl, rfl⟩, q _ H G (Fw.refl A.gh) rfl⟩
    · cases ho
  · cases ho
def dAbs : List DV → Option DV
  | [.int i] => some (.int (if i < 0 then -i else i))
  | _ => none
theorem o_abs : OpA K (fun xs H Q => ∃ i, xs = [.int i] ∧ Q (.int (if i < 0 then -i else i)) H) dAbs := by
  intro C G H σ s vs ds d A r ho Q q
  unfold dAbs at ho
  split at ho
  · cases ho
    obtain ⟨v, e, e1⟩ := r.single
    rw [show v = .int _ from e1] at e
    exact ⟨_, e, q _ H G (Fw.refl A.gh) rfl⟩
  · cases ho
def dMax : List DV → Option DV
  | [.int i, .int j] => some (.int (if j > i then j else i))
  | _ => none
def dMin : List DV → Option DV
  | [.int i, .int j] => some (.int (if j < i then j else i))
  | _ => none
theorem o_max : OpA K (fun xs H Q => ∃ i j, xs = [.int i, .int j] ∧ Q (.int (if j > i then j else i)) H) dMax := by
  intro C G H σ s vs ds d A r ho Q q
  unfold dMax at ho
  split at ho
  · cases ho
    obtain ⟨v, w, e, e1, e2⟩ := r.double
    rw [show v = .int _ from e1, show w = .int _ from e2] at e
    exact ⟨_, _, e, q _ H G (Fw.refl A.gh) rfl⟩
  · cases ho
theorem o_min : OpA K (fun xs H Q => ∃ i j, xs = [.int i, .int j] ∧ Q (.int (if j < i then j else i)) H) dMin := by
  intro C G H σ s vs ds d A r ho Q q
  unfold dMin at ho
  split at ho
  · cases ho
    obtain ⟨v, w, e, e1, e2⟩ := r.double
    rw [show v = .int _ from e1, show w = .int _ from e2] at e
    exact ⟨_, _, e, q _ H G (Fw.refl A.gh) rfl⟩
  · cases ho
theorem fe_len (hm : X.mg "len" = none) (ha : FA X C [e] fa) (hg : Gl X "len" := by rfl) (he : starEach [e] X.env = (false, eval e X.env) :: starEach [] X.env := by rfl) : FE X C (.Call (.Name "len" p) [e] [] pos) (eA fa dLen) := fe_callB call_len o_len hm PySem.boot_len ha hg (he := he)
theorem fe_abs (hm : X.mg "abs" = none) (ha : FA X C [e] fa) (hg : Gl X "abs" := by rfl) (he : starEach [e] X.env = (false, eval e X.env) :: starEach [] X.env := by rfl) : FE X C (.Call (.Name "abs" p) [e] [] pos) (eA fa dAbs) := fe_callB call_abs o_abs hm (by decide +kernel) ha hg (he := he)
theorem fe_max (hc : X.calm = true) (hm : X.mg "max" = none) (ha : FA X C [a, b] fa) (hg : Gl X "max" := by rfl) (he : starEach [a, b] X.env = (false, eval a X.env) :: starEach [b] X.env := by rfl) (hpl : (backTo pos (starEach [b] X.env)).any (·.1) = false := by rfl) : FE X C (.Call (.Name "max" p) [a, b] [] pos) (eA fa dMax) := fe_callB (call_max2 hc) o_max hm (by decide +kernel) ha hg (he := he) (hpl := hpl)
theorem fe_min (hc : X.calm = true) (hm : X.mg "min" = none) (ha : FA X C [a, b] fa) (hg : Gl X "min" := by rfl) (he : starEach [a, b] X.env = (false, eval a X.env) :: starEach [b] X.env := by rfl) (hpl : (backTo pos (starEach [b] X.env)).any (·.1) = false := by rfl) : FE X C (.Call (.Name "min" p) [a, b] [] pos) (eA fa dMin) := fe_callB (call_min2 hc) o_min hm (by decide +kernel) ha hg (he := he) (hpl := hpl)
end
end FD

set_option maxRecDepth 100000
namespace FD
open PySem PySem.Spec PyProof.Rows L2

/-! ## statements -/
inductive Out where
  | nx (s : S) | rt (d : DV) (s : S) | bk (s : S) | ct (s : S)
abbrev SF := S → Option Out
def Kont (K : PySem.W.Frag) (C : Cn) (G : Hp) (D : Ends) : Out → Prop
  | .nx s' => ∀ σ' H' G', Same G G' → Ab K C G' H' σ' s' → D.nx σ' H'
  | .bk s' => ∀ σ' H' G', Same G G' → Ab K C G' H' σ' s' → D.bk σ' H'
  | .ct s' => ∀ σ' H' G', Same G G' → Ab K C G' H' σ' s' → D.ct σ' H'
  | .rt d s' => ∀ v σ' H' G', Same G G' → Ab K C G' H' σ' s' → Rp K G' v d → D.rt v H'
def EvS (K : PySem.W.Frag) (C : Cn) (ts : TS) (g : SF) : Prop := ∀ G H σ s o, Ab K C G H σ s → g s = some o → ∀ D : Ends, Kont K C G D o → ts D σ H
def FS (X : Cx) (C : Cn) (st : Stmt) (g : SF) : Prop := ∃ ts, PS X st ts ∧ EvS X.K C ts g
def FSs (X : Cx) (C : Cn) (st : List Stmt) (g : SF) : Prop := ∃ ts, PSs X st ts ∧ EvS X.K C ts g
theorem Kont.to {K : PySem.W.Frag} {C : Cn} {G G' : Hp} {D : Ends} {o : Out} (k : Kont K C G D o) (g : Same G G') : Kont K C G' D o := by
  cases o with
  | nx s => exact fun σ' H' G2 g2 A => k σ' H' G2 (g.trans g2) A
  | bk s => exact fun σ' H' G2 g2 A => k σ' H' G2 (g.trans g2) A
  | ct s => exact fun σ' H' G2 g2 A => k σ' H' G2 (g.trans g2) A
  | rt d s => exact fun v σ' H' G2 g2 A => k v σ' H' G2 (g.trans g2) A

def sNx : SF := fun s => some (.nx s)
def sSeq (f g : SF) : SF := fun s => match f s with
  | some (.nx s1) => g s1
  | o => o
section
variable {X : Cx} {C : Cn} {e a b c : Expr} {es : List Expr} {st : Stmt} {rest body orelse : List Stmt} {pos : Pos} {f g h : EF} {t : TF} {u w : SF}
theorem evSeq {K : PySem.W.Frag} {ta tb : TS} (q1 : EvS K C ta u) (q2 : EvS K C tb w) : EvS K C (tSeq ta tb) (sSeq u w) := by
  intro G H σ s o A e1 D k
  unfold sSeq at e1
  split at e1
  · rename_i s1 e2
    exact q1 G H σ s _ A e2 { D with nx := tb D } fun σ1 H1 G1 g1 A1 => q2 G1 H1 σ1 s1 o A1 e1 D (k.to g1)
  · rename_i o' ne
    refine q1 G H σ s o A e1 { D with nx := tb D } ?_
    cases o with
    | nx s1 => exact absurd e1 (ne s1)
    | bk s1 => exact k
    | ct s1 => exact k
    | rt d s1 => exact k
theorem fs_nil : FSs X C [] sNx := ⟨_, pss_nil, by
  intro G H σ s o A e1 D k
  cases e1
  exact k σ H G (Same.refl _) A⟩
theorem fs_one (h : FS X C st u) : FSs X C [st] u := let ⟨_, p, q⟩ := h; ⟨_, pss_one p, q⟩
theorem fs_cons (h1 : FS X C st u) (h2 : FSs X C rest w) : FSs X C (st :: rest) (sSeq u w) := let ⟨_, p, q⟩ := h1; let ⟨_, p2, q2⟩ := h2; ⟨_, pss_cons p p2, evSeq q q2⟩
theorem fs_pass : FS X C (.Pass pos) sNx := ⟨_, ps_pass, by
  intro G H σ s o A e1 D k
  cases e1
  exact k σ H G (Same.refl _) A⟩
def sBk : SF := fun s => some (.bk s)
def sCt : SF := fun s => some (.ct s)
theorem fs_break : FS X C (.Break pos) sBk := ⟨_, ps_break, by
  intro G H σ s o A e1 D k
  cases e1
  exact k σ H G (Same.refl _) A⟩
theorem fs_continue : FS X C (.Continue pos) sCt := ⟨_, ps_continue, by
  intro G H σ s o A e1 D k
  cases e1
  exact k σ H G (Same.refl _) A⟩
/-- a statement that is not come to -/
def sNo : SF := fun _ => none
theorem fs_never : FS X C st sNo := ⟨_, ps_never, by
  intro G H σ s o A e1 D k
  cases e1⟩
def sRt (f : EF) : SF := fun s => match f s with
  | some (d, s1) => some (.rt d s1)
  | none => none
theorem fs_ret (h : FE X C e f) : FS X C (.Return (some e) pos) (sRt f) := by
  obtain ⟨te, p, q⟩ := h
  refine ⟨_, ps_ret p, ?_⟩
  intro G H σ s o A e1 D k
  unfold sRt at e1
  split at e1
  · cases e1
    rename_i d s1 e2
    exact q G H σ s d s1 A e2 _ fun v H1 G1 g1 A1 r => k v σ H1 G1 g1 A1 r
  · cases e1
def sDr (f : EF) : SF := fun s => match f s with
  | some (_, s1) => some (.nx s1)
  | none => none
theorem fs_expr (h : FE X C e f) (hs : swapsWith e none pos.line X.env = pure false := by rfl) : FS X C (.Expr e pos) (sDr f) := by
  obtain ⟨te, p, q⟩ := h
  refine ⟨_, ps_expr p hs, ?_⟩
  intro G H σ s o A e1 D k
  unfold sDr at e1
  split at e1
  · cases e1
    rename_i d s1 e2
    exact q G H σ s d s1 A e2 _ fun v H1 G1 g1 A1 r => k σ H1 G1 g1 A1
  · cases e1
def sIf (t : TF) (u w : SF) : SF := fun s => match t s with
  | some (true, s1) => u s1
  | some (false, s1) => w s1
  | none => none
theorem fs_if (h : FT X C c t) (h1 : FSs X C body u) (h2 : FSs X C orelse w) : FS X C (.If c body orelse pos) (sIf t u w) := by
  obtain ⟨tt, p, q⟩ := h
  obtain ⟨ta, p1, q1⟩ := h1
  obtain ⟨tb, p2, q2⟩ := h2
  refine ⟨_, ps_if p p1 p2, ?_⟩
  intro G H σ s o A e1 D k
  unfold sIf at e1
  split at e1
  · rename_i s1 e2
    refine q G H σ s _ _ A e2 _ fun H1 G1 g1 A1 => ?_
    rw [if_pos rfl]
    exact q1 G1 H1 σ s1 o A1 e1 D (k.to g1)
  · rename_i s1 e2
    refine q G H σ s _ _ A e2 _ fun H1 G1 g1 A1 => ?_
    rw [if_neg Bool.false_ne_true]
    exact q2 G1 H1 σ s1 o A1 e1 D (k.to g1)
  · cases e1

/-! ### targets -/
abbrev GF := DV → S → Option S
def EvG (K : PySem.W.Frag) (C : Cn) (tg : TG) (g : GF) : Prop := ∀ G H σ s v d s', Ab K C G H σ s → Rp K G v d → g d s = some s' → ∀ Q : St → Hp → Prop, (∀ σ' H' G', Same G G' → Ab K C G' H' σ' s' → Q σ' H') → tg v σ H Q
def EvGs (K : PySem.W.Frag) (C : Cn) (tg : TGs) (g : List DV → S → Option S) : Prop := ∀ G H σ s vs ds s', Ab K C G H σ s → RpL K G vs ds → g ds s = some s' → ∀ Q : St → Hp → Prop, (∀ σ' H' G', Same G G' → Ab K C G' H' σ' s' → Q σ' H') → tg vs σ H Q
def FG (X : Cx) (C : Cn) (e : Expr) (g : GF) : Prop := ∃ tg, PG X e tg ∧ EvG X.K C tg g
def FGs (X : Cx) (C : Cn) (es : List Expr) (g : List DV → S → Option S) : Prop := ∃ tg, PGs X es tg ∧ EvGs X.K C tg g
def gNm (i : Nat) : GF := fun d s => some { s with sl := s.sl.set i (some (.dat d)) }
theorem fg_name (i : Nat) {x : Str} (hN : X.N.Nodup) (hi : X.N[i]? = some x := by rfl) (hx : Loc X.env.scope x := by first | exact Or.inl rfl | exact Or.inr rfl) (hf : X.fn x = true ∨ X.env.scope.names.lookup x = some .local := by first | exact .inl rfl | exact .inr rfl | assumption) : FG X C (.Name x pos) (gNm i) := by
  refine ⟨_, pg_name hN hi hx hf, ?_⟩
  intro G H σ s v d s' A r e1 Q k
  cases e1
  exact k _ H G (Same.refl _) (A.set_dat r)
def gNi : List DV → S → Option S := fun ds s => match ds with
  | [] => some s
  | _ => none
def gCo (g : GF) (r : List DV → S → Option S) : List DV → S → Option S := fun ds s => match ds with
  | d :: ds => match g d s with
    | some s1 => r ds s1
    | none => none
  | [] => none
theorem fgs_nil : FGs X C [] gNi := ⟨_, pgs_nil, by
  intro G H σ s vs ds s' A r e1 Q k
  unfold gNi at e1
  split at e1
  · cases e1
    exact ⟨r, k σ H G (Same.refl _) A⟩
  · cases e1⟩
theorem fgs_cons {g : GF} {r : List DV → S → Option S} (h1 : FG X C e g) (h2 : FGs X C es r) (hs : (assignEach (e :: es) X.env).map (·.2) = assign e X.env :: (assignEach es X.env).map (·.2) := by rfl) : FGs X C (e :: es) (gCo g r) := by
  obtain ⟨tg, p, q⟩ := h1
  obtain ⟨tr, p2, q2⟩ := h2
  refine ⟨_, pgs_cons p p2 hs, ?_⟩
  intro G H σ s vs ds s' A rr e1 Q k
  unfold gCo at e1
  split at e1
  · rename_i d ds
    split at e1
    · rename_i s1 e2
      obtain ⟨v, vr, rfl, r1, r2⟩ := rr
      refine ⟨v, vr, rfl, q G H σ s v d s1 A r1 e2 _ fun σ1 H1 G1 g1 A1 => ?_⟩
      exact q2 G1 H1 σ1 s1 vr ds s' A1 (RpL.mono g1 ds vr r2) e1 Q fun σ2 H2 G2 g2 A2 => k σ2 H2 G2 (g1.trans g2) A2
    · cases e1
  · cases e1
def gTp (n : Nat) (r : List DV → S → Option S) : GF := fun d s => match d with
  | .tup ds => if ds.length = n then r ds s else none
  | _ => none
def gLs (n : Nat) (r : List DV → S → Option S) : GF := fun d s => match d with
  | .lst ds => if ds.length = n then r ds s else none
  | _ => none
theorem fg_tup {r : List DV → S → Option S} {k : Nat} {n : Nat} (hc : X.calm = true) (h : FGs X C es r) (hn : (assignEach es X.env).length = n := by rfl) (hst : (assignEach es X.env).findIdx? (·.1) = none := by rfl) : FG X C (.Tuple es k pos) (gTp n r) := by
  obtain ⟨tg, p, q⟩ := h
  refine ⟨_, pg_tup hc p hn hst, ?_⟩
  intro G H σ s v d s' A rr e1 Q k
  unfold gTp at e1
  split at e1
  · rename_i ds
    split at e1
    · rename_i hl
      obtain ⟨a, vs, rfl, r1, r2⟩ := rr
      exact ⟨a, vs, rfl, Same.tup A.gh r1, by rw [r2.length]; exact hl, q G H σ s vs ds s' A r2 e1 Q k⟩
    · cases e1
  · cases e1
theorem fg_lst {r : List DV → S → Option S} {k : Nat} {n : Nat} (hc : X.calm = true) (h : FGs X C es r) (hn : (assignEach es X.env).length = n := by rfl) (hst : (assignEach es X.env).findIdx? (·.1) = none := by rfl) : FG X C (.Tuple es k pos) (gLs n r) := by
  obtain ⟨tg, p, q⟩ := h
  refine ⟨_, pg_lst hc p hn hst, ?_⟩
  intro G H σ s v d s' A rr e1 Q k
  unfold gLs at e1
  split at e1
  · rename_i ds
    split at e1
    · rename_i hl
      obtain ⟨a, vs, rfl, r1, r2⟩ := rr
      exact ⟨a, vs, rfl, SqL.of (A.gh _ _ r1), by rw [r2.length]; exact hl, q G H σ s vs ds s' A r2 e1 Q k⟩
    · cases e1
  · cases e1
def sAsg (f : EF) (g : GF) : SF := fun s => match f s with
  | some (d, s1) => match g d s1 with
    | some s2 => some (.nx s2)
    | none => none
  | none => none
theorem fs_asg {tg : Expr} {g : GF} (he : FE X C e f) (hg : FG X C tg g) (hs : swapsWithSole [tg] e pos.line X.env = pure false := by rfl) (hw : swappedStores [tg] e X.env = pure none := by rfl)
    (h1 : (assignEach [tg] X.env).map (·.2) = [assign tg X.env] := by rfl) : FS X C (.Assign [tg] e pos) (sAsg f g) := by
  obtain ⟨te, p, q⟩ := he
  obtain ⟨tg', p2, q2⟩ := hg
  refine ⟨_, ps_asg p p2 hs hw h1, ?_⟩
  intro G H σ s o A e1 D k
  unfold sAsg at e1
  split at e1
  · rename_i d s1 e2
    split at e1
    · rename_i s2 e3
      cases e1
      exact q G H σ s d s1 A e2 _ fun v H1 G1 g1 A1 r => q2 G1 H1 σ s1 v d s2 A1 r e3 _ fun σ2 H2 G2 g2 A2 => k σ2 H2 G2 (g1.trans g2) A2
    · cases e1
  · cases e1
theorem fs_set (i : Nat) {x : Str} {pos' : Pos} (he : FE X C e f) (hN : X.N.Nodup) (hi : X.N[i]? = some x := by rfl) (hx : Loc X.env.scope x := by first | exact Or.inl rfl | exact Or.inr rfl) (hs : swapsWith e (some (.Name x pos')) pos.line X.env = pure false := by rfl) (hf : X.fn x = true ∨ X.env.scope.names.lookup x = some .local := by first | exact .inl rfl | exact .inr rfl | assumption) :
    FS X C (.Assign [.Name x pos'] e pos) (sAsg f (gNm i)) := by
  obtain ⟨te, p, q⟩ := he
  refine ⟨_, ps_set hN hi hx p hs hf, ?_⟩
  intro G H σ s o A e1 D k
  unfold sAsg at e1
  split at e1
  · rename_i d s1 e2
    cases e1
    exact q G H σ s d s1 A e2 _ fun v H1 G1 g1 A1 r => k _ H1 G1 g1 (A1.set_dat r)
  · cases e1
/-- a, b = x, y -/
def sPar (i j : Nat) (f : AF) : SF := fun s => match f s with
  | some ([d, e], s1) => some (.nx { s1 with sl := (s1.sl.set i (some (.dat d))).set j (some (.dat e)) })
  | _ => none
theorem fs_par (i j : Nat) {x y : Str} {ff : AF} {px py pt : Pos} {kt k2 pt2} (ha : FA X C [a, b] ff) (hc : X.calm = true) (hN : X.N.Nodup) (hi : X.N[i]? = some x := by rfl) (hj : X.N[j]? = some y := by rfl) (hij : i ≠ j := by decide)
    (hx : X.env.scope.names.lookup x = some .local := by rfl) (hy : X.env.scope.names.lookup y = some .local := by rfl)
    (hw : swappedStores [.Tuple [.Name x px, .Name y py] kt pt] (.Tuple [a, b] k2 pt2) X.env = pure (some [x, y]) := by rfl)
    (hs : swapsWithSole [.Tuple [.Name x px, .Name y py] kt pt] (.Tuple [a, b] k2 pt2) pos.line X.env = pure false := by rfl) :
    FS X C (.Assign [.Tuple [.Name x px, .Name y py] kt pt] (.Tuple [a, b] k2 pt2) pos) (sPar i j ff) := by
  obtain ⟨ta, p, q⟩ := ha
  refine ⟨_, ps_par hc hN hi hj hij hx hy p hw hs, ?_⟩
  intro G H σ s o A e1 D k
  unfold sPar at e1
  split at e1
  · rename_i d e' s1 e2
    cases e1
    refine q G H σ s _ s1 A e2 _ fun vs H1 G1 g1 A1 r => ?_
    obtain ⟨v, w, e3, r1, r2⟩ := r.double
    exact ⟨v, w, e3, k _ H1 G1 g1 ((A1.set_dat r1).set_dat (s := { s1 with sl := s1.sl.set i (some (.dat d)) }) r2)⟩
  · cases e1

/-! ### lists of the frame's own -/
theorem Ab.fresh {K : PySem.W.Frag} {G H : Hp} {σ : List (Option V)} {s : S} (A : Ab K C G H σ s) {p : Addr} (hp : H p = none) :
    G p = none ∧ C.H0 p = none ∧ C.sp ≠ some p ∧ ∀ (j : Nat) es, s.sl[j]? = some (some (.own es)) → σ[j]? ≠ some (some (.ref p)) := by
  refine ⟨?_, ?_, fun z => ?_, fun j es h1 h2 => ?_⟩
  · cases q : G p with
    | none => rfl
    | some o => rw [A.gh _ _ q] at hp; cases hp
  · cases q : C.H0 p with
    | none => rfl
    | some o => exact absurd hp (A.h0 (by rw [q]; exact fun z => nomatch z))
  · have k := A.spk
    unfold SpOk at k
    rw [z] at k
    obtain ⟨_, nb, k2, _⟩ := k
    rw [hp] at k2
    cases k2
  · obtain ⟨o, e1, a, vs, e2, h3, _⟩ := A.slot h1
    subst e2
    rw [h2] at e1
    cases e1
    rw [hp] at h3
    cases h3
/-- an expression that makes a new list -/
abbrev LF := S → Option (List DV × S)
structure NewL (K : PySem.W.Frag) (C : Cn) (G H : Hp) (σ : List (Option V)) (s : S) (p : Addr) (vs : List V) (ds : List DV) : Prop where
  at_ : H p = some (.lst vs)
  rp : RpL K G vs ds
  g : G p = none
  h0 : C.H0 p = none
  sp : C.sp ≠ some p
  no : ∀ (j : Nat) es, s.sl[j]? = some (some (.own es)) → σ[j]? ≠ some (some (.ref p))
def EvL (K : PySem.W.Frag) (C : Cn) (te : TE) (f : LF) : Prop := ∀ G H σ s ds s', Ab K C G H σ s → f s = some (ds, s') →
  ∀ Q : VK, (∀ p vs H' G', Same G G' → Ab K C G' H' σ s' → NewL K C G' H' σ s' p vs ds → Q (.ref p) H') → te σ H Q
def FL (X : Cx) (C : Cn) (e : Expr) (f : LF) : Prop := ∃ te, PE X e te ∧ EvL X.K C te f
theorem Ab.lay {K : PySem.W.Frag} {G H : Hp} {σ : List (Option V)} {s : S} {p : Addr} {vs : List V} {ds : List DV} (A : Ab K C G H σ s) (r : RpL K G vs ds) (hp : H p = none) : Ab K C G (upd H p (.lst vs)) σ s ∧ NewL K C G (upd H p (.lst vs)) σ s p vs ds := by
  obtain ⟨h1, h2, h3, h4⟩ := A.fresh hp
  exact ⟨A.fw0 (Fw.lay A.gh hp), ⟨upd_same, r, h1, h2, h3, h4⟩⟩
def lDs (f : AF) : LF := fun s => match f s with
  | some (ds, s1) => if ds.length ≤ sizeLine then some (ds, s1) else none
  | none => none
theorem fl_lst {ff : AF} (h : FA X C es ff) : FL X C (.List es pos) (lDs ff) := by
  obtain ⟨ta, p, q⟩ := h
  refine ⟨_, pe_lst p, ?_⟩
  intro G H σ s ds s' A e1 Q k
  unfold lDs at e1
  split at e1
  · split at e1
    · rename_i ds' s1 e2 hl
      cases e1
      refine q G H σ s _ _ A e2 _ fun vs H1 G1 g1 A1 r => ⟨by rw [r.length]; exact hl, fun p hp => ?_⟩
      obtain ⟨B, n⟩ := A1.lay r hp
      exact k p vs _ G1 g1 B n
    · cases e1
  · cases e1
/-- a new list as a datum -/
def eL (f : LF) : EF := fun s => match f s with
  | some (ds, s1) => some (.lst ds, s1)
  | none => none
theorem Ab.take_in {K : PySem.W.Frag} {G H : Hp} {σ : List (Option V)} {s : S} {p : Addr} {vs : List V} {ds : List DV} (A : Ab K C G H σ s) (n : NewL K C G H σ s p vs ds) : ∃ G', Same G G' ∧ Ab K C G' H σ s ∧ Rp K G' (.ref p) (.lst ds) := by
  have sg : Same G (upd G p (.lst vs)) := fun b u e => by rw [upd_ne (fun z => by rw [z, n.g] at e; cases e)]; exact e
  refine ⟨_, sg, ⟨fun b u e => ?_, A.fr, A.g0.trans sg, fun b e => ?_, A.len, fun j v x q1 q2 => ?_, A.dis, ?_⟩, ⟨p, vs, rfl, upd_same, RpL.mono sg ds vs n.rp⟩⟩
  · by_cases z : b = p
    · rw [z, upd_same] at e
      rw [z, ← e]
      exact n.at_
    · rw [upd_ne z] at e
      exact A.gh _ _ e
  · rw [upd_ne (fun z => e (by rw [z]; exact n.h0)), A.gn b e]
  · have r := A.sl j v x q1 q2
    match x, r with
    | none, _ => trivial
    | some (.dat d), ⟨w, e, r⟩ => exact ⟨w, e, Rp.mono sg d w r⟩
    | some (.own es), ⟨b, us, e, r1, r2, r3, r4, r5⟩ =>
      subst e
      have nb : b ≠ p := fun zz => n.no j es q2 (by rw [q1, zz])
      exact ⟨b, us, rfl, r1, RpL.mono sg es us r2, by rw [upd_ne nb]; exact r3, r4, r5⟩
    | some .spl, r => exact r
  · have k := A.spk
    unfold SpOk at *
    cases z : C.sp with
    | none => rw [z] at k; trivial
    | some c =>
      rw [z] at k
      obtain ⟨k1, nb, k2, k3⟩ := k
      exact ⟨by rw [upd_ne (fun e => n.sp (by rw [z, e]))]; exact k1, nb, k2, Rp.mono sg _ _ k3⟩
theorem fe_fl {ff : LF} (h : FL X C e ff) : FE X C e (eL ff) := by
  obtain ⟨te, p, q⟩ := h
  refine ⟨te, p, ?_⟩
  intro G H σ s d s' A e1 Q k
  unfold eL at e1
  split at e1
  · rename_i ds s1 e2
    cases e1
    refine q G H σ s ds _ A e2 _ fun p vs H1 G1 g1 A1 n => ?_
    obtain ⟨G2, g2, A2, r⟩ := A1.take_in n
    exact k _ H1 G2 (g1.trans g2) A2 r
  · cases e1
def sOwn (i : Nat) (f : LF) : SF := fun s => match f s with
  | some (ds, s1) => some (.nx { s1 with sl := s1.sl.set i (some (.own ds)) })
  | none => none
theorem fs_own (i : Nat) {x : Str} {pos' : Pos} {ff : LF} (he : FL X C e ff) (hN : X.N.Nodup) (hi : X.N[i]? = some x := by rfl) (hx : Loc X.env.scope x := by first | exact Or.inl rfl | exact Or.inr rfl) (hs : swapsWith e (some (.Name x pos')) pos.line X.env = pure false := by rfl) (hf : X.fn x = true ∨ X.env.scope.names.lookup x = some .local := by first | exact .inl rfl | exact .inr rfl | assumption) :
    FS X C (.Assign [.Name x pos'] e pos) (sOwn i ff) := by
  obtain ⟨te, p, q⟩ := he
  refine ⟨_, ps_set hN hi hx p hs hf, ?_⟩
  intro G H σ s o A e1 D k
  unfold sOwn at e1
  split at e1
  · rename_i ds s1 e2
    cases e1
    exact q G H σ s ds s1 A e2 _ fun p vs H1 G1 g1 A1 n => k _ H1 G1 g1 (A1.set_own n.at_ n.rp n.g n.h0 n.sp n.no)
  · cases e1
/-- xs.append(e), xs a list of the frame's own -/
def sApp (i : Nat) (f : EF) : SF := fun s => match s.sl[i]? with
  | some (some (.own _)) => match f s with
    | some (d, s1) => match s1.sl[i]? with
      | some (some (.own ds)) => if ds.length < sizeLine then some (.nx { s1 with sl := s1.sl.set i (some (.own (ds ++ [d]))) }) else none
      | _ => none
    | none => none
  | _ => none
theorem fs_app (i : Nat) {x : Str} {pos' apos cpos : Pos} (he : FE X C e f) (hN : X.N[i]? = some x := by rfl) (hv : Vis X.env.scope x := by first | exact Or.inl rfl | exact Or.inr (Or.inl rfl) | exact Or.inr (Or.inr rfl)) (hd : (x == ("__debug__" : Str)) = false := by decide)
    (hcd : (x == ("__classdict__" : Str)) = false := by decide)
    (hbase : attributeBase (.Name x pos') "append" X.env (eval (.Name x pos') X.env) = eval (.Name x pos') X.env := by rfl)
    (hfew : ((backTo cpos (starEach [e] X.env)).all (fun x => !x.1) && (backToKw cpos (keywordEach [] X.env)).all (fun x => x.1.isSome)
      && decide (([e] : List Expr).length + ([] : List Keyword).length + (if ([] : List Keyword).isEmpty then 0 else 1) < 30)) = true := by rfl)
    (hline : (apos.endLine == cpos.line) = true := by rfl) (hs : starEach [e] X.env = (false, eval e X.env) :: starEach [] X.env := by rfl) (hplain : (backTo cpos (starEach [] X.env)).any (·.1) = false := by rfl)
    (hs' : swapsWith (.Call (.Attribute (.Name x pos') "append" apos) [e] [] cpos) none pos.line X.env = pure false := by rfl) :
    FS X C (.Expr (.Call (.Attribute (.Name x pos') "append" apos) [e] [] cpos) pos) (sApp i f) := by
  obtain ⟨te, p, q⟩ := he
  refine ⟨_, ps_expr (pe_bm PySem.F.plainAttrs_list PySem.F.slot_list_append PySem.F.type_list_append mt_append (pe_var hN hv hd hcd) (pa_cons p pa_nil hs) hbase hfew hline hs hplain) hs', ?_⟩
  intro G H σ s o A e1 D k
  unfold sApp at e1
  split at e1
  · rename_i ds0 e0
    split at e1
    · rename_i d s1 e2
      split at e1
      · rename_i ds e3
        split at e1
        · rename_i hl
          cases e1
          obtain ⟨w, ew, a, vs0, rfl, h0, _⟩ := A.slot e0
          refine ⟨.ref a, ew, .inl ⟨rfl, _, .inl (.inl h0)⟩, q G H σ s d s1 A e2 _ fun v H1 G1 g1 A1 r => ?_⟩
          obtain ⟨w1, ew1, a1, vs1, e5, h1, h2, _⟩ := A1.slot e3
          subst e5
          rw [ew] at ew1
          cases ew1
          refine ⟨a, vs1, v, rfl, rfl, h1, by rw [h2.length]; exact hl, ?_⟩
          exact k σ _ G1 g1 (A1.put_own e3 ew (h2.append (RpL.one r)))
        · cases e1
      · cases e1
    · cases e1
  · cases e1
/-- xs[k] = e, xs a list of the frame's own -/
def sPut (i : Nat) (f kf : EF) : SF := fun s => match f s with
  | some (d, s1) => match s1.sl[i]? with
    | some (some (.own _)) => match kf s1 with
      | some (.int j, s2) => match s2.sl[i]? with
        | some (some (.own ds)) => match ixN ds.length j with
          | some n => some (.nx { s2 with sl := s2.sl.set i (some (.own (ds.set n d))) })
          | none => none
        | _ => none
      | _ => none
    | _ => none
  | none => none
theorem fs_put (i : Nat) {x : Str} {pos' pos2 : Pos} (he : FE X C e f) (hk : FE X C b g) (hN : X.N[i]? = some x := by rfl) (hv : Vis X.env.scope x := by first | exact Or.inl rfl | exact Or.inr (Or.inl rfl) | exact Or.inr (Or.inr rfl)) (hd : (x == ("__debug__" : Str)) = false := by decide)
    (hcd : (x == ("__classdict__" : Str)) = false := by decide)
    (ha : ∀ v, assign (.Subscript (.Name x pos') b pos2) X.env v = (do
      let ov ← holding [v] (eval (.Name x pos') X.env)
      let iv ← holding [v, ov] (eval b X.env)
      standAt pos2
      holding [v, ov, iv] (setItem ov iv v)
      release [v, ov, iv] []) := by intro _; rfl)
    (hs : swapsWithSole [.Subscript (.Name x pos') b pos2] e pos.line X.env = pure false := by rfl) (hw : swappedStores [.Subscript (.Name x pos') b pos2] e X.env = pure none := by rfl)
    (h1 : (assignEach [.Subscript (.Name x pos') b pos2] X.env).map (·.2) = [assign (.Subscript (.Name x pos') b pos2) X.env] := by rfl) :
    FS X C (.Assign [.Subscript (.Name x pos') b pos2] e pos) (sPut i f g) := by
  obtain ⟨te, p, q⟩ := he
  obtain ⟨tk, p2, q2⟩ := hk
  refine ⟨_, ps_asg p (pg_sub (pe_var hN hv hd hcd) p2 set_list ha) hs hw h1, ?_⟩
  intro G H σ s o A e1 D k
  unfold sPut at e1
  split at e1
  · rename_i d s1 e2
    split at e1
    · rename_i ds0 e0
      split at e1
      · rename_i j s2 e3
        split at e1
        · rename_i ds e4
          split at e1
          · rename_i n e5
            cases e1
            refine q G H σ s d s1 A e2 _ fun v H1 G1 g1 A1 r => ?_
            obtain ⟨w, ew, a, vs0, rfl, h0, _⟩ := A1.slot e0
            refine ⟨.ref a, ew, q2 G1 H1 σ s1 _ s2 A1 e3 _ fun u H2 G2 g2 A2 r2 => ?_⟩
            obtain ⟨w1, ew1, a1, vs1, e6, h1, h2, _⟩ := A2.slot e4
            subst e6
            rw [ew] at ew1
            cases ew1
            refine ⟨a, vs1, j, n, rfl, r2, h1, by rw [h2.length]; exact e5, ?_⟩
            exact k σ _ G2 (g1.trans g2) (A2.put_own e4 ew (h2.set n (Rp.mono g2 d v r)))
          · cases e1
        · cases e1
      · cases e1
    · cases e1
  · cases e1

/-! ### the spool -/
def eSp (i : Nat) (j : Int) : EF := fun s => match s.sl[i]? with
  | some (some .spl) => if j = 0 then some (.lst (s.sp.nums.map .int), s) else if j = 1 then some (.int s.sp.place, s) else if j = 2 then some (.int s.sp.cell, s) else if j = 3 then some (.int s.sp.size, s) else none
  | _ => none
theorem fe_sp (i : Nat) {j : Int} {x : Str} {pos' pos2 : Pos} {k : Nat} (hN : X.N[i]? = some x := by rfl) (hv : Vis X.env.scope x := by first | exact Or.inl rfl | exact Or.inr (Or.inl rfl) | exact Or.inr (Or.inr rfl)) (hd : (x == ("__debug__" : Str)) = false := by decide)
    (hcd : (x == ("__classdict__" : Str)) = false := by decide) : FE X C (.Subscript (.Name x pos') (.Constant (.int j) k pos2) pos) (eSp i j) := by
  refine ⟨_, pe_ix ix_list (pe_var hN hv hd hcd) pe_int (fun _ _ => rfl), ?_⟩
  intro G H σ s d s' A e1 Q q
  unfold eSp at e1
  split at e1
  · rename_i e0
    obtain ⟨w, ew, a, ha, rfl⟩ := A.slot e0
    have kk := A.spk
    unfold SpOk at kk
    rw [ha] at kk
    obtain ⟨k1, nb, k2, k3⟩ := kk
    refine ⟨.ref a, ew, ?_⟩
    split at e1
    · rename_i z
      cases e1
      exact ⟨a, _, j, _, rfl, rfl, SqL.of k2, (by rw [z]; rfl), q _ H G (Same.refl _) A k3⟩
    · split at e1
      · rename_i z
        cases e1
        exact ⟨a, _, j, _, rfl, rfl, SqL.of k2, (by rw [z]; rfl), q _ H G (Same.refl _) A rfl⟩
      · split at e1
        · rename_i z
          cases e1
          exact ⟨a, _, j, _, rfl, rfl, SqL.of k2, (by rw [z]; rfl), q _ H G (Same.refl _) A rfl⟩
        · split at e1
          · rename_i z
            cases e1
            exact ⟨a, _, j, _, rfl, rfl, SqL.of k2, (by rw [z]; rfl), q _ H G (Same.refl _) A rfl⟩
          · cases e1
  · cases e1
def sSp (i : Nat) (j : Int) (f : EF) : SF := fun s => match f s with
  | some (.int v, s1) => match s1.sl[i]? with
    | some (some .spl) => if j = 1 then some (.nx { s1 with sp := { s1.sp with place := v } }) else if j = 2 then some (.nx { s1 with sp := { s1.sp with cell := v } }) else if j = 3 then some (.nx { s1 with sp := { s1.sp with size := v } }) else none
    | _ => none
  | _ => none
theorem fs_sp (i : Nat) {j : Int} {x : Str} {pos' pos2 pos3 : Pos} {kk : Nat} (he : FE X C e f) (hN : X.N[i]? = some x := by rfl) (hv : Vis X.env.scope x := by first | exact Or.inl rfl | exact Or.inr (Or.inl rfl) | exact Or.inr (Or.inr rfl)) (hd : (x == ("__debug__" : Str)) = false := by decide)
    (hcd : (x == ("__classdict__" : Str)) = false := by decide)
    (ha : ∀ v, assign (.Subscript (.Name x pos') (.Constant (.int j) kk pos3) pos2) X.env v = (do
      let ov ← holding [v] (eval (.Name x pos') X.env)
      let iv ← holding [v, ov] (eval (.Constant (.int j) kk pos3) X.env)
      standAt pos2
      holding [v, ov, iv] (setItem ov iv v)
      release [v, ov, iv] []) := by intro _; rfl)
    (hs : swapsWithSole [.Subscript (.Name x pos') (.Constant (.int j) kk pos3) pos2] e pos.line X.env = pure false := by rfl) (hw : swappedStores [.Subscript (.Name x pos') (.Constant (.int j) kk pos3) pos2] e X.env = pure none := by rfl)
    (h1 : (assignEach [.Subscript (.Name x pos') (.Constant (.int j) kk pos3) pos2] X.env).map (·.2) = [assign (.Subscript (.Name x pos') (.Constant (.int j) kk pos3) pos2) X.env] := by rfl) :
    FS X C (.Assign [.Subscript (.Name x pos') (.Constant (.int j) kk pos3) pos2] e pos) (sSp i j f) := by
  obtain ⟨te, p, q⟩ := he
  refine ⟨_, ps_asg p (pg_sub (pe_var hN hv hd hcd) pe_int set_list ha) hs hw h1, ?_⟩
  intro G H σ s o A e1 D k
  unfold sSp at e1
  split at e1
  · rename_i v s1 e2
    split at e1
    · rename_i e0
      refine q G H σ s _ s1 A e2 _ fun u H1 G1 g1 A1 r => ?_
      have er : u = .int v := r
      subst er
      obtain ⟨w, ew, a, ha, rfl⟩ := A1.slot e0
      have kq := A1.spk
      unfold SpOk at kq
      rw [ha] at kq
      obtain ⟨k1, nb, k2, k3⟩ := kq
      refine ⟨.ref a, ew, ?_⟩
      split at e1
      · rename_i z
        cases e1
        refine ⟨a, _, j, 1, rfl, rfl, k2, (by rw [z]; rfl), ?_⟩
        exact k σ _ G1 g1 (A1.put_spl (t := { s1.sp with place := v }) ha k3)
      · split at e1
        · rename_i z
          cases e1
          refine ⟨a, _, j, 2, rfl, rfl, k2, (by rw [z]; rfl), ?_⟩
          exact k σ _ G1 g1 (A1.put_spl (t := { s1.sp with cell := v }) ha k3)
        · split at e1
          · rename_i z
            cases e1
            refine ⟨a, _, j, 3, rfl, rfl, k2, (by rw [z]; rfl), ?_⟩
            exact k σ _ G1 g1 (A1.put_spl (t := { s1.sp with size := v }) ha k3)
          · cases e1
    · cases e1
  · cases e1
end
end FD

set_option maxRecDepth 100000
namespace FD
open PySem PySem.Spec PyProof.Rows L2

/-! ## loops -/
def whN : Nat → TF → SF → SF
  | 0, c, _, s => match c s with
    | some (false, s1) => some (.nx s1)
    | _ => none
  | n + 1, c, b, s => match c s with
    | some (false, s1) => some (.nx s1)
    | some (true, s1) => match b s1 with
      | some (.nx s2) => whN n c b s2
      | some (.ct s2) => whN n c b s2
      | some (.bk s2) => some (.nx s2)
      | some (.rt d s2) => some (.rt d s2)
      | none => none
    | none => none
def sWh (n : S → Nat) (c : TF) (b : SF) : SF := fun s => whN (n s) c b s
def frN : List DV → GF → SF → SF
  | [], _, _, s => some (.nx s)
  | d :: ds, g, b, s => match g d s with
    | some s1 => match b s1 with
      | some (.nx s2) => frN ds g b s2
      | some (.ct s2) => frN ds g b s2
      | some (.bk s2) => some (.nx s2)
      | some (.rt d s2) => some (.rt d s2)
      | none => none
    | none => none
def sFr (it : LF) (g : GF) (b : SF) : SF := fun s => match it s with
  | some (ds, s1) => frN ds g b s1
  | none => none
/-- what an iterator walks -/
structure Wk (K : PySem.W.Frag) (G0 : Hp) (J : It) (ds : List DV) : Prop where
  stop : ∀ (i : Nat) (G H : Hp), Same G0 G → Same G H → ds.length ≤ i → J.stop i H
  go : ∀ (i : Nat) (G H : Hp), Same G0 G → Same G H → i < ds.length → J.go i H
  yld : ∀ (i : Nat) (G H : Hp) d x H', Same G0 G → Same G H → ds[i]? = some d → J.yld i H x H' → ∃ G', Fw G H G' H' none ∧ Rp K G' x d
def EvI (K : PySem.W.Frag) (C : Cn) (wi : TI) (f : LF) : Prop := ∀ G H σ s ds s', Ab K C G H σ s → f s = some (ds, s') →
  ∀ R : It → Hp → Prop, (∀ J H' G', Same G G' → Ab K C G' H' σ s' → Wk K G' J ds → R J H') → wi σ H R
def FI (X : Cx) (C : Cn) (tg iter : Expr) (f : LF) : Prop := ∃ wi, PI X tg iter wi ∧ EvI X.K C wi f
theorem wk_list {K : PySem.W.Frag} {G : Hp} {a : Addr} {vs : List V} {ds : List DV} (h : G a = some (.lst vs)) (r : RpL K G vs ds) : Wk K G (Itl K a) ds where
  stop := fun i G1 H g1 g2 hi => ⟨vs, SqL.of (g2 _ _ (g1 _ _ h)), by rw [r.length]; exact hi⟩
  go := fun i G1 H g1 g2 hi => by
    have hv : i < vs.length := by rw [r.length]; exact hi
    exact ⟨vs, vs[i], SqL.of (g2 _ _ (g1 _ _ h)), List.getElem?_eq_getElem hv⟩
  yld := fun i G1 H d x H' g1 g2 e y => by
    obtain ⟨e1, e2⟩ := y
    subst e1
    obtain ⟨v, q1, q2⟩ := r.get e
    have q3 := e2 vs (SqL.of (g2 _ _ (g1 _ _ h)))
    rw [q1] at q3
    cases q3
    exact ⟨G1, Fw.refl g2, Rp.mono g1 d _ q2⟩
theorem wk_tup {K : PySem.W.Frag} {G : Hp} {a : Addr} {vs : List V} {ds : List DV} (h : SqT K G a vs) (r : RpL K G vs ds) : Wk K G (Itt K a) ds where
  stop := fun i G1 H g1 g2 hi => ⟨vs, Same.tup g2 (Same.tup g1 h), by rw [r.length]; exact hi⟩
  go := fun i G1 H g1 g2 hi => by
    have hv : i < vs.length := by rw [r.length]; exact hi
    exact ⟨vs, vs[i], Same.tup g2 (Same.tup g1 h), List.getElem?_eq_getElem hv⟩
  yld := fun i G1 H d x H' g1 g2 e y => by
    obtain ⟨e1, e2⟩ := y
    subst e1
    obtain ⟨v, q1, q2⟩ := r.get e
    have q3 := e2 vs (Same.tup g2 (Same.tup g1 h))
    rw [q1] at q3
    cases q3
    exact ⟨G1, Fw.refl g2, Rp.mono g1 d _ q2⟩
def rngD (lo : Int) (n : Nat) : List DV := (List.range n).map fun (i : Nat) => .int (lo + (i : Int))
theorem wk_rng {K : PySem.W.Frag} {G : Hp} (lo : Int) (n : Nat) : Wk K G (Itr lo n) (rngD lo n) where
  stop := fun i G1 H g1 g2 hi => by
    unfold rngD at hi
    rw [List.length_map, List.length_range] at hi
    exact hi
  go := fun i G1 H g1 g2 hi => by
    unfold rngD at hi
    rw [List.length_map, List.length_range] at hi
    exact hi
  yld := fun i G1 H d x H' g1 g2 e y => by
    obtain ⟨e1, e2⟩ := y
    subst e1
    unfold rngD at e
    rw [List.getElem?_map] at e
    by_cases hi : i < n
    · rw [List.getElem?_range hi] at e
      cases e
      exact ⟨G1, Fw.refl g2, e2⟩
    · rw [List.getElem?_eq_none (by rw [List.length_range]; omega)] at e
      cases e
section
variable {X : Cx} {C : Cn} {e a b c tg : Expr} {es : List Expr} {st : Stmt} {rest body : List Stmt} {pos p p2 : Pos} {f g h : EF} {t : TF} {u w : SF}
/-- over a value: a list or a tuple -/
def iVal (f : EF) : LF := fun s => match f s with
  | some (.lst ds, s1) => some (ds, s1)
  | _ => none
def iTp (f : EF) : LF := fun s => match f s with
  | some (.tup ds, s1) => some (ds, s1)
  | _ => none
theorem fi_list (h : FE X C e f) : FI X C tg e (iVal f) := by
  obtain ⟨te, p, q⟩ := h
  refine ⟨_, pi_list p, ?_⟩
  intro G H σ s ds s' A e1 R k
  unfold iVal at e1
  split at e1
  · rename_i ds' s1 e2
    cases e1
    refine q G H σ s _ _ A e2 _ fun v H1 G1 g1 A1 r => ?_
    obtain ⟨a, vs, rfl, r1, r2⟩ := r
    exact ⟨a, rfl, ⟨vs, SqL.of (A1.gh _ _ r1)⟩, k _ H1 G1 g1 A1 (wk_list r1 r2)⟩
  · cases e1
theorem fi_tup (h : FE X C e f) : FI X C tg e (iTp f) := by
  obtain ⟨te, p, q⟩ := h
  refine ⟨_, pi_tup p, ?_⟩
  intro G H σ s ds s' A e1 R k
  unfold iTp at e1
  split at e1
  · rename_i ds' s1 e2
    cases e1
    refine q G H σ s _ _ A e2 _ fun v H1 G1 g1 A1 r => ?_
    obtain ⟨a, vs, rfl, r1, r2⟩ := r
    exact ⟨a, rfl, ⟨vs, Same.tup A1.gh r1⟩, k _ H1 G1 g1 A1 (wk_tup r1 r2)⟩
  · cases e1
def inR (j : Int) : Bool := decide (-(2 ^ 62) ≤ j ∧ j < 2 ^ 62)
def iRg1 (f : AF) : LF := fun s => match f s with
  | some ([.int j], s1) => if inR j then some (rngD 0 j.toNat, s1) else none
  | _ => none
def iRg2 (f : AF) : LF := fun s => match f s with
  | some ([.int i, .int j], s1) => if inR i && inR j then some (rngD i (j - i).toNat, s1) else none
  | _ => none
theorem fi_range1 {ff : AF} (hm : X.mg "range" = none) (h : FA X C [a] ff) (hg : Gl X "range" := by rfl) (hs : starEach [a] X.env = [(false, eval a X.env)] := by rfl) : FI X C tg (.Call (.Name "range" p) [a] [] pos) (iRg1 ff) := by
  obtain ⟨ta, p, q⟩ := h
  refine ⟨_, pi_range1 hg hm p hs, ?_⟩
  intro G H σ s ds s' A e1 R k
  unfold iRg1 at e1
  split at e1
  · split at e1
    · rename_i j s1 e2 hj
      cases e1
      refine q G H σ s _ _ A e2 _ fun vs H1 G1 g1 A1 r => ?_
      obtain ⟨v, e3, r1⟩ := r.single
      rw [show v = .int j from r1] at e3
      obtain ⟨h1, h2⟩ := of_decide_eq_true hj
      exact ⟨j, e3, h1, h2, k _ H1 G1 g1 A1 (wk_rng 0 _)⟩
    · cases e1
  · cases e1
theorem fi_range2 {ff : AF} (hm : X.mg "range" = none) (h : FA X C [a, b] ff) (hg : Gl X "range" := by rfl) (hs : starEach [a, b] X.env = [(false, eval a X.env), (false, eval b X.env)] := by rfl) (hs2 : starEach [b] X.env = [(false, eval b X.env)] := by rfl) : FI X C tg (.Call (.Name "range" p) [a, b] [] pos) (iRg2 ff) := by
  obtain ⟨ta, p, q⟩ := h
  refine ⟨_, pi_range2 hg hm p hs hs2, ?_⟩
  intro G H σ s ds s' A e1 R k
  unfold iRg2 at e1
  split at e1
  · split at e1
    · rename_i i j s1 e2 hj
      cases e1
      refine q G H σ s _ _ A e2 _ fun vs H1 G1 g1 A1 r => ?_
      obtain ⟨v, w, e3, r1, r2⟩ := r.double
      rw [show v = .int i from r1, show w = .int j from r2] at e3
      rw [Bool.and_eq_true] at hj
      obtain ⟨h1, h2⟩ := of_decide_eq_true hj.1
      obtain ⟨h3, h4⟩ := of_decide_eq_true hj.2
      exact ⟨i, j, e3, ⟨h1, h2, h3, h4⟩, k _ H1 G1 g1 A1 (wk_rng i _)⟩
    · cases e1
  · cases e1
theorem fs_for {g : GF} {it : LF} (hp : PassesOwn (model X.prog X.w) X.A X.env X.xe) (hc : X.calm = true) (hi : FI X C tg e it) (hg : FG X C tg g) (hb : FSs X C body u) (hs : ∀ x, foldedSetIterable e X.env x = pure x := by intro _; rfl) : FS X C (.For tg e body [] pos) (sFr it g u) := by
  obtain ⟨wi, p1, q1⟩ := hi
  obtain ⟨tg', p2, q2⟩ := hg
  obtain ⟨tb, p3, q3⟩ := hb
  refine ⟨_, ps_for hp hc p1 p2 p3 hs, ?_⟩
  intro G H σ s o A e1 D k
  unfold sFr at e1
  split at e1
  · rename_i ds s1 e2
    refine q1 G H σ s ds s1 A e2 _ fun J H1 G1 g1 A1 wk => ?_
    refine ⟨fun i m σ' H' => m = ds.length - i ∧ i ≤ ds.length ∧ ∃ G2 s2, Same G1 G2 ∧ Ab X.K C G2 H' σ' s2 ∧ frN (ds.drop i) g u s2 = some o, ⟨_, rfl, Nat.zero_le _, G1, s1, Same.refl _, A1, e1⟩, ?_⟩
    rintro i m σ' H' ⟨rfl, hi, G2, s2, g2, A2, e3⟩
    by_cases hl : i < ds.length
    · refine .inr ⟨wk.go i G2 H' g2 A2.gh hl, fun σ'' H'' => ∃ G3 s3, Same G1 G3 ∧ Ab X.K C G3 H'' σ'' s3 ∧ frN (ds.drop (i + 1)) g u s3 = some o, ?_, ?_⟩
      · rintro σ'' H'' ⟨G3, s3, g3, A3, e4⟩
        exact ⟨ds.length - (i + 1), by omega, rfl, hl, G3, s3, g3, A3, e4⟩
      · intro x H'' y
        have ed : ds.drop i = ds[i] :: ds.drop (i + 1) := List.drop_eq_getElem_cons hl
        obtain ⟨G3, F, r⟩ := wk.yld i G2 H' ds[i] x H'' g2 A2.gh (List.getElem?_eq_getElem hl) y
        have A3 := A2.fw0 F
        rw [ed] at e3
        unfold frN at e3
        split at e3
        · rename_i s3 e4
          refine q2 G3 H'' σ' s2 x ds[i] s3 A3 r e4 _ fun σ4 H4 G4 g4 A4 => ?_
          have g5 : Same G1 G4 := (g2.trans F.g).trans g4
          split at e3
          · rename_i s5 e5
            refine q3 G4 H4 σ4 s3 _ A4 e5 _ ?_
            exact fun σ6 H6 G6 g6 A6 => ⟨G6, s5, g5.trans g6, A6, e3⟩
          · rename_i s5 e5
            refine q3 G4 H4 σ4 s3 _ A4 e5 _ ?_
            exact fun σ6 H6 G6 g6 A6 => ⟨G6, s5, g5.trans g6, A6, e3⟩
          · rename_i s5 e5
            cases e3
            refine q3 G4 H4 σ4 s3 _ A4 e5 _ ?_
            exact fun σ6 H6 G6 g6 A6 => k σ6 H6 G6 ((g1.trans g5).trans g6) A6
          · rename_i d5 s5 e5
            cases e3
            refine q3 G4 H4 σ4 s3 _ A4 e5 _ ?_
            exact fun v σ6 H6 G6 g6 A6 => k v σ6 H6 G6 ((g1.trans g5).trans g6) A6
          · cases e3
        · cases e3
    · have hz : ds.drop i = [] := List.drop_eq_nil_of_le (by omega)
      rw [hz] at e3
      unfold frN at e3
      cases e3
      exact .inl ⟨wk.stop i G2 H' g2 A2.gh (by omega), k σ' H' G2 (g1.trans g2) A2⟩
  · cases e1
theorem fs_while (n : S → Nat) (hp : PassesOwn (model X.prog X.w) X.A X.env X.xe) (hc : FT X C c t) (hb : FSs X C body u) : FS X C (.While c body [] pos) (sWh n t u) := by
  obtain ⟨tc, p1, q1⟩ := hc
  obtain ⟨tb, p2, q2⟩ := hb
  refine ⟨_, ps_while hp p1 p2, ?_⟩
  intro G H σ s o A e1 D k
  refine ⟨fun m σ' H' => ∃ G2 s2, Same G G2 ∧ Ab X.K C G2 H' σ' s2 ∧ whN m t u s2 = some o, ⟨n s, G, s, Same.refl _, A, e1⟩, ?_⟩
  rintro m σ' H' ⟨G2, s2, g2, A2, e2⟩
  cases m with
  | zero =>
    unfold whN at e2
    split at e2
    · rename_i s3 e3
      cases e2
      refine q1 G2 H' σ' s2 _ _ A2 e3 _ fun H3 G3 g3 A3 => ?_
      rw [if_neg Bool.false_ne_true]
      exact k σ' H3 G3 (g2.trans g3) A3
    · cases e2
  | succ m =>
    unfold whN at e2
    split at e2
    · rename_i s3 e3
      cases e2
      refine q1 G2 H' σ' s2 _ _ A2 e3 _ fun H3 G3 g3 A3 => ?_
      rw [if_neg Bool.false_ne_true]
      exact k σ' H3 G3 (g2.trans g3) A3
    · rename_i s3 e3
      refine q1 G2 H' σ' s2 _ _ A2 e3 _ fun H3 G3 g3 A3 => ?_
      rw [if_pos rfl]
      refine ⟨fun σ'' H'' => ∃ G4 s4, Same G G4 ∧ Ab X.K C G4 H'' σ'' s4 ∧ whN m t u s4 = some o, fun σ'' H'' z => ⟨m, Nat.lt_succ_self _, z⟩, ?_⟩
      split at e2
      · rename_i s5 e5
        exact q2 G3 H3 σ' s3 _ A3 e5 _ fun σ6 H6 G6 g6 A6 => ⟨G6, s5, (g2.trans g3).trans g6, A6, e2⟩
      · rename_i s5 e5
        exact q2 G3 H3 σ' s3 _ A3 e5 _ fun σ6 H6 G6 g6 A6 => ⟨G6, s5, (g2.trans g3).trans g6, A6, e2⟩
      · rename_i s5 e5
        cases e2
        exact q2 G3 H3 σ' s3 _ A3 e5 _ fun σ6 H6 G6 g6 A6 => k σ6 H6 G6 ((g2.trans g3).trans g6) A6
      · rename_i d5 s5 e5
        cases e2
        exact q2 G3 H3 σ' s3 _ A3 e5 _ fun v σ6 H6 G6 g6 A6 => k v σ6 H6 G6 ((g2.trans g3).trans g6) A6
      · cases e2
    · cases e2
end

/-! ## defs -/
/-- a def that reads data and gives data; one that draws from the spool, its first argument -/
def spP (K : PySem.W.Frag) (f : List DV → Option DV) : Sp := fun vs H Q _ => ∃ G ds d, Same G H ∧ RpL K G vs ds ∧ f ds = some d ∧ ∀ v H' G', Fw G H G' H' none → Rp K G' v d → Q v H'
def spS (K : PySem.W.Frag) (f : List DV → Spl → Option (DV × Spl)) : Sp := fun vs H Q _ => ∃ G a vs' ds s d s', vs = .ref a :: vs' ∧ Same G H ∧ RpL K G vs' ds ∧ SpOk K G H (some a) s ∧ f ds s = some (d, s') ∧
  ∀ v H' G', Fw G H G' H' (some a) → SpOk K G' H' (some a) s' → Rp K G' v d → Q v H'
def spl0 : Spl := ⟨[], 0, 0, 0⟩
/-- what a body is worth for arguments; n parameters, m slots -/
def bodyP (n m : Nat) (g : SF) : List DV → Option DV := fun ds =>
  if ds.length = n then match g ⟨ds.map (fun d => some (.dat d)) ++ List.replicate (m - n) none, spl0⟩ with
    | some (.rt d _) => some d
    | some (.nx _) => some .non
    | _ => none
  else none
def bodyS (n m : Nat) (g : SF) : List DV → Spl → Option (DV × Spl) := fun ds t =>
  if ds.length + 1 = n then match g ⟨some .spl :: ds.map (fun d => some (.dat d)) ++ List.replicate (m - n) none, t⟩ with
    | some (.rt d s) => some (d, s.sp)
    | some (.nx s) => some (.non, s.sp)
    | _ => none
  else none
section
variable {P : Program} {w : World} {K : PySem.W.Frag} {mg : Str → Option Value} {base : Heap}
theorem slots_ok {C : Cn} {G H : Hp} : ∀ {vs : List V} {ds : List DV}, RpL K G vs ds → ∀ (m i : Nat) v x, (vs.map some ++ List.replicate m none)[i]? = some v → (ds.map (fun d => some (SV.dat d)) ++ List.replicate m none)[i]? = some x → SlOk K C G H v x := fun {vs ds} r m i v x e1 e2 => by
  have hl := r.length
  by_cases hi : i < ds.length
  · rw [List.getElem?_append_left (by simpa using hi), List.getElem?_map] at e2
    rw [List.getElem?_append_left (by rw [List.length_map, hl]; exact hi), List.getElem?_map] at e1
    obtain ⟨u, q1, q2⟩ := r.get (i := i) (d := ds[i]) (List.getElem?_eq_getElem hi)
    rw [q1] at e1
    rw [List.getElem?_eq_getElem hi] at e2
    cases e1
    cases e2
    exact ⟨u, rfl, q2⟩
  · rw [List.getElem?_append_right (by simpa using hi), List.getElem?_replicate] at e2
    split at e2
    · cases e2
      trivial
    · cases e2
theorem no_own {ds : List DV} {m i : Nat} {es : List DV} (h : (ds.map (fun d => some (SV.dat d)) ++ List.replicate m none)[i]? = some (some (.own es))) : False := by
  by_cases hi : i < ds.length
  · rw [List.getElem?_append_left (by simpa using hi), List.getElem?_map, List.getElem?_eq_getElem hi] at h
    cases h
  · rw [List.getElem?_append_right (by simpa using hi), List.getElem?_replicate] at h
    split at h <;> cases h
theorem ab_start {G H : Hp} {vs : List V} {ds : List DV} (g : Same G H) (r : RpL K G vs ds) (m : Nat) (t : Spl) : Ab K ⟨G, H, none⟩ G H (vs.map some ++ List.replicate m none) ⟨ds.map (fun d => some (.dat d)) ++ List.replicate m none, t⟩ where
  gh := g
  fr := fun b o e _ => e
  g0 := Same.refl _
  gn := fun b _ => rfl
  len := by simp [r.length]
  sl := fun i v x e1 e2 => slots_ok r m i v x e1 e2
  dis := fun i j a ds' es _ h => (no_own h).elim
  spk := trivial
theorem ab_startS {G H : Hp} {a : Addr} {vs : List V} {ds : List DV} {t : Spl} (g : Same G H) (r : RpL K G vs ds) (k : SpOk K G H (some a) t) (m : Nat) : Ab K ⟨G, H, some a⟩ G H (some (.ref a) :: vs.map some ++ List.replicate m none) ⟨some .spl :: ds.map (fun d => some (.dat d)) ++ List.replicate m none, t⟩ where
  gh := g
  fr := fun b o e _ => e
  g0 := Same.refl _
  gn := fun b _ => rfl
  len := by simp [r.length]
  sl := fun i v x e1 e2 => by
    cases i with
    | zero =>
      cases e1
      cases e2
      exact ⟨a, rfl, rfl⟩
    | succ i => exact slots_ok r m i v x (by simpa using e1) (by simpa using e2)
  dis := fun i j a' ds' es _ h => by
    cases i with
    | zero => cases h
    | succ i => exact (no_own (by simpa using h)).elim
  spk := k
/-- what a def of the text promises, from its body -/
theorem fn_pure {x qual : Str} {params : Arguments} {body : List Stmt} {scope : Scope} {dvs : List V} {kws : List (Str × V)} {f : Addr} {fd : FuncData} {N ps : List Str} {k : Nat} {g : SF} (F : FunD K x qual params body scope dvs kws f fd) (Sc : FnScope N ps scope)
    (h : ∀ (C : Cn) (cdv : Value) (A : Around) (outer : List Env) (s : Shared) (H : Hp) (E : XK), C.sp = none → Room k (A.deeper (envOfC qual scope s.heap.objs.size f cdv)) → FSs (cxOf CX0 P w K mg base N qual scope f cdv A outer s H E).nox C body g) :
    FnOk P w K mg base CX0 (k + 1) f fd ps (spP K (bodyP ps.length N.length g)) := by
  refine F.ok Sc (fun vs H Q E h => ?_) (fun cdv A outer s H vs Q E hr hsp => ?_)
  · obtain ⟨G, ds, d, _, r, e, _⟩ := h
    unfold bodyP at e
    split at e
    · rename_i hl
      rw [r.length, hl]
    · cases e
  · obtain ⟨G, ds, d, g0, r, e, q⟩ := hsp
    unfold bodyP at e
    split at e
    · rename_i hl
      obtain ⟨t, p1, q1⟩ := h ⟨G, H, none⟩ cdv A outer s H E rfl hr
      have A0 := ab_start (K := K) g0 r (N.length - ps.length) spl0
      have es : L2.start N vs = vs.map some ++ List.replicate (N.length - ps.length) none := by
        unfold L2.start
        rw [r.length, hl]
      refine ⟨t, p1.nox, ?_⟩
      rw [es]
      split at e
      · rename_i d' s' e1
        cases e
        refine q1 G H _ _ _ A0 e1 _ ?_
        exact fun v σ' H' G' g1 A1 rv => q v H' G' ⟨g1, A1.gh, fun b o e n => A1.fr b o e n, A1.gn⟩ rv
      · rename_i s' e1
        cases e
        refine q1 G H _ _ _ A0 e1 _ ?_
        exact fun σ' H' G' g1 A1 => q .non H' G' ⟨g1, A1.gh, fun b o e n => A1.fr b o e n, A1.gn⟩ rfl
      · cases e
    · cases e
theorem fn_spool {x qual : Str} {params : Arguments} {body : List Stmt} {scope : Scope} {dvs : List V} {kws : List (Str × V)} {f : Addr} {fd : FuncData} {N ps : List Str} {k : Nat} {g : SF} (F : FunD K x qual params body scope dvs kws f fd) (Sc : FnScope N ps scope)
    (h : ∀ (C : Cn) (cdv : Value) (A : Around) (outer : List Env) (s : Shared) (H : Hp) (E : XK), Room k (A.deeper (envOfC qual scope s.heap.objs.size f cdv)) → FSs (cxOf CX0 P w K mg base N qual scope f cdv A outer s H E).nox C body g) :
    FnOk P w K mg base CX0 (k + 1) f fd ps (spS K (bodyS ps.length N.length g)) := by
  refine F.ok Sc (fun vs H Q E h => ?_) (fun cdv A outer s H vs Q E hr hsp => ?_)
  · obtain ⟨G, a, vs', ds, t, d, t', e0, _, r, _, e, _⟩ := h
    unfold bodyS at e
    split at e
    · rename_i hl
      rw [e0, List.length_cons, r.length, hl]
    · cases e
  · obtain ⟨G, a, vs', ds, t, d, t', e0, g0, r, kk, e, q⟩ := hsp
    subst e0
    unfold bodyS at e
    split at e
    · rename_i hl
      obtain ⟨tt, p1, q1⟩ := h ⟨G, H, some a⟩ cdv A outer s H E hr
      have A0 := ab_startS (K := K) g0 r kk (N.length - ps.length)
      have es : L2.start N (.ref a :: vs') = some (.ref a) :: vs'.map some ++ List.replicate (N.length - ps.length) none := by
        unfold L2.start
        rw [List.length_cons, r.length, hl]
        rfl
      refine ⟨tt, p1.nox, ?_⟩
      rw [es]
      split at e
      · rename_i d' s' e1
        cases e
        refine q1 G H _ _ _ A0 e1 _ ?_
        exact fun v σ' H' G' g1 A1 rv => q v H' G' ⟨g1, A1.gh, fun b o e n => A1.fr b o e n, A1.gn⟩ A1.spk rv
      · rename_i s' e1
        cases e
        refine q1 G H _ _ _ A0 e1 _ ?_
        exact fun σ' H' G' g1 A1 => q .non H' G' ⟨g1, A1.gh, fun b o e n => A1.fr b o e n, A1.gn⟩ A1.spk rfl
      · cases e
    · cases e
theorem FnOk.toP {k : Nat} {f : Addr} {fd : FuncData} {ps : List Str} {f1 f2 : List DV → Option DV} (F : FnOk P w K mg base CX0 k f fd ps (spP K f1)) (h : ∀ ds d, f2 ds = some d → f1 ds = some d) : FnOk P w K mg base CX0 k f fd ps (spP K f2) :=
  F.imp fun vs H Q E ⟨G, ds, d, g, r, e, q⟩ => ⟨G, ds, d, g, r, h ds d e, q⟩
theorem FnOk.toS {k : Nat} {f : Addr} {fd : FuncData} {ps : List Str} {f1 f2 : List DV → Spl → Option (DV × Spl)} (F : FnOk P w K mg base CX0 k f fd ps (spS K f1)) (h : ∀ ds t d, f2 ds t = some d → f1 ds t = some d) : FnOk P w K mg base CX0 k f fd ps (spS K f2) :=
  F.imp fun vs H Q E ⟨G, a, vs', ds, t, d, t', e0, g, r, kk, e, q⟩ => ⟨G, a, vs', ds, t, d, t', e0, g, r, kk, h ds t _ e, q⟩
end
section
variable {X : Cx} {C : Cn} {e a b c tg : Expr} {es : List Expr} {pos p p2 : Pos} {f g h : EF}
/-- f(e, ..), f a def of the text -/
theorem fe_call {op : List DV → Option DV} {k : Nat} {fa : Addr} {fd : FuncData} {ps : List Str} {x : Str} {ff : AF} (F : FnOk X.prog X.w X.K X.mg X.base CX0 k fa fd ps (spP X.K op)) (hr : Room k X.A) (hm : X.mg x = some (.ref fa)) (hk : PySem.W.keepIn X.K (.ref fa) = true) (hb : Binds X.K fd ps [])
    (ha : FA X C (e :: es) ff) (hg : Gl X x := by rfl) (hdb : (x == ("__debug__" : Str)) = false := by decide) (he : starEach (e :: es) X.env = (false, eval e X.env) :: starEach es X.env := by rfl) (hpl : (backTo pos (starEach es X.env)).any (·.1) = false := by rfl) :
    FE X C (.Call (.Name x p) (e :: es) [] pos) (eA ff op) := by
  obtain ⟨ta, p1, q1⟩ := ha
  refine ⟨_, pe_call F hr hg hm hk hb .nil pass0 p1 hdb he hpl, evA_of (r := fun vs H1 Q => spP X.K op (vs ++ []) H1 Q E0) q1 (fun _ _ _ h => h) fun G H σ s vs ds d A r e1 Q q => ?_⟩
  rw [List.append_nil]
  exact ⟨G, ds, d, A.gh, r, e1, q⟩
/-- f(spool, e, ..) -/
def eS (i : Nat) (g : AF) (op : List DV → Spl → Option (DV × Spl)) : EF := fun s => match s.sl[i]? with
  | some (some .spl) => match g s with
    | some (ds, s1) => match op ds s1.sp with
      | some (d, t) => some (d, { s1 with sp := t })
      | none => none
    | none => none
  | _ => none
theorem fe_callS (i : Nat) {op : List DV → Spl → Option (DV × Spl)} {k : Nat} {fa : Addr} {fd : FuncData} {ps : List Str} {x y : Str} {ff : AF} {py : Pos} (F : FnOk X.prog X.w X.K X.mg X.base CX0 k fa fd ps (spS X.K op)) (hr : Room k X.A) (hm : X.mg x = some (.ref fa)) (hk : PySem.W.keepIn X.K (.ref fa) = true) (hb : Binds X.K fd ps [])
    (ha : FA X C es ff) (hg : Gl X x := by rfl) (hN : X.N[i]? = some y := by rfl) (hv : Vis X.env.scope y := by first | exact Or.inl rfl | exact Or.inr (Or.inl rfl) | exact Or.inr (Or.inr rfl)) (hd : (y == ("__debug__" : Str)) = false := by decide)
    (hcd : (y == ("__classdict__" : Str)) = false := by decide) (hdb : (x == ("__debug__" : Str)) = false := by decide) (he : starEach (.Name y py :: es) X.env = (false, eval (.Name y py) X.env) :: starEach es X.env := by rfl) (hpl : (backTo pos (starEach es X.env)).any (·.1) = false := by rfl) :
    FE X C (.Call (.Name x p) (.Name y py :: es) [] pos) (eS i ff op) := by
  obtain ⟨ta, p1, q1⟩ := ha
  refine ⟨_, pe_call F hr hg hm hk hb .nil pass0 (pa_cons (pe_var hN hv hd hcd) p1 he) hdb he hpl, ?_⟩
  intro G H σ s d s' A e1 Q q
  unfold eS at e1
  split at e1
  · rename_i e0
    split at e1
    · rename_i ds s1 e2
      split at e1
      · rename_i d' t e3
        cases e1
        obtain ⟨w, ew, a, ha, rfl⟩ := A.slot e0
        refine ⟨.ref a, ew, q1 G H σ s ds s1 A e2 _ fun vs H1 G1 g1 A1 r => ?_⟩
        have kk := A1.spk
        rw [ha] at kk
        refine ⟨G1, a, vs, ds, s1.sp, _, t, by rw [List.append_nil], A1.gh, r, kk, e3, fun v H' G' F' k' rv => ?_⟩
        rw [← ha] at F' k'
        exact q v H' G' (g1.trans F'.g) (A1.fw F' k') rv
      · cases e1
    · cases e1
  · cases e1
end
end FD

set_option maxRecDepth 100000
namespace FD
open PySem PySem.Spec PyProof.Rows L2

/-! ## enumerate -/
def enD : Nat → List DV → List DV
  | _, [] => []
  | n, d :: ds => .tup [.int (n : Int), d] :: enD (n + 1) ds
theorem enD_len : ∀ (n : Nat) (ds : List DV), (enD n ds).length = ds.length
  | _, [] => rfl
  | n, d :: ds => congrArg Nat.succ (enD_len (n + 1) ds)
theorem enD_get : ∀ (ds : List DV) (n i : Nat) (x : DV), (enD n ds)[i]? = some x → ∃ d, ds[i]? = some d ∧ x = .tup [.int ((n + i : Nat) : Int), d]
  | [], n, i, x, h => by simp [enD] at h
  | d :: ds, n, 0, x, h => by
    simp [enD] at h
    exact ⟨d, rfl, h.symm⟩
  | d :: ds, n, i + 1, x, h => by
    have h' : (enD (n + 1) ds)[i]? = some x := by simpa [enD] using h
    obtain ⟨e, h1, h2⟩ := enD_get ds (n + 1) i x h'
    refine ⟨e, by simpa using h1, ?_⟩
    rw [h2]
    congr 4
    omega
theorem wk_enum {K : PySem.W.Frag} {G : Hp} {a : Addr} {vs : List V} {ds : List DV} (h : G a = some (.lst vs)) (r : RpL K G vs ds) : Wk K G (Ite K a) (enD 0 ds) where
  stop := fun i G1 H g1 g2 hi => ⟨vs, SqL.of (g2 _ _ (g1 _ _ h)), by rw [r.length, ← enD_len 0 ds]; exact hi⟩
  go := fun i G1 H g1 g2 hi => by
    have hv : i < vs.length := by rw [r.length, ← enD_len 0 ds]; exact hi
    exact ⟨vs, vs[i], SqL.of (g2 _ _ (g1 _ _ h)), List.getElem?_eq_getElem hv⟩
  yld := fun i G1 H d x H' g1 g2 e y => by
    obtain ⟨T, z, rfl, nT, rfl, q⟩ := y
    obtain ⟨dd, e1, e2⟩ := enD_get ds 0 i d e
    subst e2
    obtain ⟨v, q1, q2⟩ := r.get e1
    have q3 := q vs (SqL.of (g2 _ _ (g1 _ _ h)))
    rw [q1] at q3
    have ez : z = v := (Option.some.inj q3).symm
    subst ez
    have F : Fw G1 H (upd G1 T (.tup [.int (i : Nat), z])) (upd H T (.tup [.int (i : Nat), z])) none := Fw.add g2 nT
    refine ⟨_, F, T, _, rfl, SqT.of upd_same, _, _, rfl, ?_, RpL.one (Rp.mono F.g _ _ (Rp.mono g1 _ _ q2))⟩
    show V.int (i : Nat) = V.int ((0 + i : Nat) : Int)
    rw [Nat.zero_add]
section
variable {X : Cx} {C : Cn} {e a b c : Expr} {es elts : List Expr} {pos p tpos : Pos} {f g h : EF}
def iEn (f : EF) : LF := fun s => match f s with
  | some (.lst ds, s1) => some (enD 0 ds, s1)
  | _ => none
theorem fi_enum {kk : Nat} (hm : X.mg "enumerate" = none) (h : FE X C e f) (hg : Gl X "enumerate" := by rfl) (hs : starEach [e] X.env = (false, eval e X.env) :: starEach [] X.env := by rfl) (hs' : starEach [e] X.env = [(false, eval e X.env)] := by rfl) : FI X C (.Tuple elts kk tpos) (.Call (.Name "enumerate" p) [e] [] pos) (iEn f) := by
  obtain ⟨te, p1, q1⟩ := h
  refine ⟨_, pi_enum hg hm (pa_cons p1 pa_nil hs) hs', ?_⟩
  intro G H σ s ds s' A e1 R k
  unfold iEn at e1
  split at e1
  · rename_i ds' s1 e2
    cases e1
    refine q1 G H σ s _ _ A e2 _ fun v H1 G1 g1 A1 r => ?_
    obtain ⟨a, vs, rfl, r1, r2⟩ := r
    exact ⟨a, vs, rfl, SqL.of (A1.gh _ _ r1), k _ H1 G1 g1 A1 (wk_enum r1 r2)⟩
  · cases e1

/-! ## list comprehensions: one for, one name -/
def tY : TF := fun s => some (true, s)
def cpN : List DV → Nat → TF → EF → S → List DV → Option (List DV × S)
  | [], _, _, _, s, acc => some (acc, s)
  | d :: ds, i, t, f, s, acc => match t { s with sl := s.sl.set i (some (.dat d)) } with
    | some (true, s2) => match f s2 with
      | some (y, s3) => if acc.length < sizeLine then cpN ds i t f { s3 with sl := s3.sl.set i none } (acc ++ [y]) else none
      | none => none
    | some (false, s2) => cpN ds i t f { s2 with sl := s2.sl.set i none } acc
    | none => none
def lCp (it : LF) (i : Nat) (t : TF) (f : EF) : LF := fun s => match it s with
  | some (ds, s1) => cpN ds i t f { s1 with sl := s1.sl.set i none } []
  | none => none
theorem Ab.forget {K : PySem.W.Frag} {G H : Hp} {σ σ' : List (Option V)} {s : S} {sl' : List (Option SV)} (A : Ab K C G H σ s) (hl : σ'.length = sl'.length) (h : ∀ (i : Nat) x, sl'[i]? = some (some x) → s.sl[i]? = some (some x) ∧ σ'[i]? = σ[i]?) : Ab K C G H σ' { s with sl := sl' } where
  gh := A.gh
  fr := A.fr
  g0 := A.g0
  gn := A.gn
  len := hl
  sl := fun i v x e1 e2 => by
    cases x with
    | none => trivial
    | some x =>
      obtain ⟨h1, h2⟩ := h i x e2
      exact A.sl i v (some x) (by rw [← h2]; exact e1) h1
  dis := fun i j a ds es n e1 e2 e3 => by
    obtain ⟨h1, h2⟩ := h i _ e1
    obtain ⟨h3, h4⟩ := h j _ e2
    rw [h4]
    rw [h2] at e3
    exact A.dis i j a ds es n h1 h3 e3
  spk := A.spk
section
variable {K : PySem.W.Frag} {G H G' H' : Hp} {σ : List (Option V)} {s : S} {D : Addr} {vs : List V} {acc : List DV}
theorem NewL.fw (n : NewL K C G H σ s D vs acc) (F : Fw G H G' H' none) : NewL K C G' H' σ s D vs acc where
  at_ := F.h _ _ n.at_ (fun z => nomatch z)
  rp := RpL.mono F.g _ _ n.rp
  g := by rw [F.n D (by rw [n.at_]; exact fun z => nomatch z)]; exact n.g
  h0 := n.h0
  sp := n.sp
  no := n.no
theorem Ab.rebase (A : Ab K C G H σ s) (n : NewL K C G H σ s D vs acc) : Ab K { C with H0 := upd C.H0 D (.lst vs) } G H σ s where
  gh := A.gh
  fr := fun b o e q => by
    by_cases z : b = D
    · have e' : upd C.H0 D (.lst vs) b = some o := e
      rw [z, upd_same] at e'
      rw [z, ← e']
      exact n.at_
    · have e' : upd C.H0 D (.lst vs) b = some o := e
      rw [upd_ne z] at e'
      exact A.fr b o e' q
  g0 := A.g0
  gn := fun b e => by
    have e' : upd C.H0 D (.lst vs) b ≠ none := e
    by_cases z : b = D
    · rw [z, n.g]
      cases q : C.G0 D with
      | none => rfl
      | some o =>
        have q' := A.g0 _ _ q
        rw [n.g] at q'
        cases q'
    · rw [upd_ne z] at e'
      exact A.gn b e'
  len := A.len
  sl := fun i v x e1 e2 => by
    have r := A.sl i v x e1 e2
    match x, r with
    | none, _ => trivial
    | some (.dat d), r => exact r
    | some (.own es), ⟨b, us, e, r1, r2, r3, r4, r5⟩ =>
      subst e
      have nb : b ≠ D := fun zz => n.no i es e2 (by rw [e1, zz])
      exact ⟨b, us, rfl, r1, r2, r3, by show upd C.H0 D (.lst vs) b = none; rw [upd_ne nb]; exact r4, r5⟩
    | some .spl, r => exact r
  dis := A.dis
  spk := A.spk
theorem Ab.unbase (A : Ab K { C with H0 := upd C.H0 D (.lst vs) } G H σ s) (h0 : C.H0 D = none) (g0 : C.G0 D = none) (hs : C.sp ≠ some D) (r : RpL K G vs acc) : Ab K C G H σ s ∧ NewL K C G H σ s D vs acc := by
  have hD : H D = some (.lst vs) := A.fr D _ upd_same hs
  have ne : ∀ {b : Addr}, upd C.H0 D (.lst vs) b = none → b ≠ D := fun {b} e z => by
    rw [z, upd_same] at e
    cases e
  refine ⟨⟨A.gh, fun b o e q => A.fr b o ?_ q, A.g0, fun b e => A.gn b ?_, A.len, fun i v x e1 e2 => ?_, A.dis, A.spk⟩, ⟨hD, r, ?_, h0, hs, fun j es e1 e2 => ?_⟩⟩
  · show upd C.H0 D (.lst vs) b = some o
    rw [upd_ne (fun z => by rw [z, h0] at e; cases e)]
    exact e
  · show upd C.H0 D (.lst vs) b ≠ none
    rw [upd_ne (fun z => by rw [z, h0] at e; exact e rfl)]
    exact e
  · have r := A.sl i v x e1 e2
    match x, r with
    | none, _ => trivial
    | some (.dat d), r => exact r
    | some (.own es), ⟨b, us, e, r1, r2, r3, r4, r5⟩ =>
      have r4' : upd C.H0 D (.lst vs) b = none := r4
      exact ⟨b, us, e, r1, r2, r3, by rw [upd_ne (ne r4')] at r4'; exact r4', r5⟩
    | some .spl, r => exact r
  · have q := A.gn D (by show upd C.H0 D (.lst vs) D ≠ none; rw [upd_same]; exact fun z => nomatch z)
    rw [q]
    exact g0
  · obtain ⟨o, q1, b, us, e, _, _, _, r4, _⟩ := A.slot e1
    subst e
    rw [e2] at q1
    cases q1
    exact ne r4 rfl
theorem Ab.put_new (A : Ab K C G H σ s) (n : NewL K C G H σ s D vs acc) {ws : List V} {bcc : List DV} (r : RpL K G ws bcc) : Ab K C G (upd H D (.lst ws)) σ s ∧ NewL K C G (upd H D (.lst ws)) σ s D ws bcc := by
  refine ⟨⟨fun b u q => ?_, fun b o q z => ?_, A.g0, A.gn, A.len, fun i v x e1 e2 => ?_, A.dis, ?_⟩, ⟨upd_same, r, n.g, n.h0, n.sp, n.no⟩⟩
  · rw [upd_ne (fun z => by rw [z, n.g] at q; cases q)]
    exact A.gh _ _ q
  · rw [upd_ne (fun z => by rw [z, n.h0] at q; cases q)]
    exact A.fr b o q z
  · have r := A.sl i v x e1 e2
    match x, r with
    | none, _ => trivial
    | some (.dat d), r => exact r
    | some (.own es), ⟨b, us, e, r1, r2, r3, r4, r5⟩ =>
      subst e
      have nb : b ≠ D := fun zz => n.no i es e2 (by rw [e1, zz])
      exact ⟨b, us, rfl, by rw [upd_ne nb]; exact r1, r2, r3, r4, r5⟩
    | some .spl, r => exact r
  · have k := A.spk
    unfold SpOk at *
    cases z : C.sp with
    | none => rw [z] at k; trivial
    | some c =>
      rw [z] at k
      obtain ⟨k1, nb, k2, k3⟩ := k
      exact ⟨k1, nb, by rw [upd_ne (fun e => n.sp (by rw [z, e]))]; exact k2, k3⟩
theorem Ab.set_none (A : Ab K C G H σ s) (i : Nat) : Ab K C G H (σ.set i none) { s with sl := s.sl.set i none } :=
  A.forget (by rw [List.length_set, List.length_set]; exact A.len) fun j x e => by
    rw [List.getElem?_set] at e
    rw [List.getElem?_set]
    by_cases z : i = j
    · rw [if_pos z] at e
      split at e <;> cases e
    · rw [if_neg z] at e ⊢
      exact ⟨e, rfl⟩
theorem not_own_set {i j : Nat} {x : Option SV} {es : List DV} (hx : ∀ es, x ≠ some (.own es)) (e : (s.sl.set i x)[j]? = some (some (.own es))) : i ≠ j ∧ s.sl[j]? = some (some (.own es)) := by
  rw [List.getElem?_set] at e
  by_cases z : i = j
  · rw [if_pos z] at e
    split at e
    · cases e
      exact absurd rfl (hx es)
    · cases e
  · rw [if_neg z] at e
    exact ⟨z, e⟩
theorem NewL.set {i : Nat} {x : Option SV} {o : Option V} (n : NewL K C G H σ s D vs acc) (hx : ∀ es, x ≠ some (.own es)) : NewL K C G H (σ.set i o) { s with sl := s.sl.set i x } D vs acc where
  at_ := n.at_
  rp := n.rp
  g := n.g
  h0 := n.h0
  sp := n.sp
  no := fun j es e1 e2 => by
    obtain ⟨z, e3⟩ := not_own_set hx e1
    rw [List.getElem?_set, if_neg z] at e2
    exact n.no j es e3 e2
end
theorem evLc {K : PySem.W.Frag} {i : Nat} {wi : TI} {tt : TT} {te : TE} {it : LF} {t : TF} {f : EF} (q1 : EvI K C wi it) (q2 : ∀ C', EvT K C' tt t) (q3 : ∀ C', EvE K C' te f) : EvL K C (tLc wi (gName i) tt te [i]) (lCp it i t f) := by
  intro G H σ s ds s' A e1 Q k
  unfold lCp at e1
  split at e1
  · rename_i items s1 e2
    refine q1 G H σ s items s1 A e2 _ fun J H1 G1 g1 A1 wk => ?_
    intro D hD
    obtain ⟨B1, n1⟩ := A1.lay (ds := []) rfl hD
    refine ⟨fun j m H' => m = items.length - j ∧ j ≤ items.length ∧ ∃ G2 s2 acc vs, Same G1 G2 ∧ Ab K C G2 H' (σ.set i none) s2 ∧ NewL K C G2 H' (σ.set i none) s2 D vs acc ∧ (∀ x, s2.sl[i]? ≠ some (some x)) ∧ cpN (items.drop j) i t f s2 acc = some (ds, s'), ⟨_, rfl, Nat.zero_le _, G1, _, [], [], Same.refl _, B1.set_none i, n1.set (fun es z => nomatch z), fun y e => ?_, e1⟩, ?_⟩
    · have e' : (s1.sl.set i none)[i]? = some (some y) := e
      rw [List.getElem?_set, if_pos rfl] at e'
      split at e' <;> cases e'
    rintro j m H' ⟨rfl, hj, G2, s2, acc, vs, g2, A2, n2, hn, e3⟩
    by_cases hl : j < items.length
    · refine .inr ⟨wk.go j G2 H' g2 A2.gh hl, fun H'' => ∃ G3 s3 acc vs, Same G1 G3 ∧ Ab K C G3 H'' (σ.set i none) s3 ∧ NewL K C G3 H'' (σ.set i none) s3 D vs acc ∧ (∀ x, s3.sl[i]? ≠ some (some x)) ∧ cpN (items.drop (j + 1)) i t f s3 acc = some (ds, s'), ?_, ?_⟩
      · rintro H'' ⟨G3, s3, acc', vs', g3, A3, n3, hn3, e4⟩
        exact ⟨items.length - (j + 1), by omega, rfl, hl, G3, s3, acc', vs', g3, A3, n3, hn3, e4⟩
      · intro z H'' y
        have ed : items.drop j = items[j] :: items.drop (j + 1) := List.drop_eq_getElem_cons hl
        obtain ⟨G3, F, r⟩ := wk.yld j G2 H' items[j] z H'' g2 A2.gh (List.getElem?_eq_getElem hl) y
        have A3 := A2.fw0 F
        have n3 := n2.fw F
        rw [ed] at e3
        have A4 := A3.set_dat (i := i) r
        have n4 : NewL K C G3 H'' ((σ.set i none).set i (some z)) { s2 with sl := s2.sl.set i (some (.dat items[j])) } D vs acc := n3.set (fun es z => nomatch z)
        have A5 := A4.rebase n4
        have g0D : C.G0 D = none := by
          cases q : C.G0 D with
          | none => rfl
          | some o =>
            have q' := A3.g0 _ _ q
            rw [n3.g] at q'
            cases q'
        have back : ∀ {G6 H6 : Hp} {s6 : S} {ws : List V} {bcc : List DV}, Ab K C G6 H6 ((σ.set i none).set i (some z)) s6 → NewL K C G6 H6 ((σ.set i none).set i (some z)) s6 D ws bcc →
            Ab K C G6 H6 (σ.set i none) { s6 with sl := s6.sl.set i none } ∧ NewL K C G6 H6 (σ.set i none) { s6 with sl := s6.sl.set i none } D ws bcc ∧ ∀ x, ({ s6 with sl := s6.sl.set i none } : S).sl[i]? ≠ some (some x) := by
          intro G6 H6 s6 ws bcc A6 n6
          have e7 : ((σ.set i none).set i (some z)).set i none = σ.set i none := by
            rw [List.set_set, List.set_set]
          have A7 := A6.set_none i
          have n7 : NewL K C G6 H6 (((σ.set i none).set i (some z)).set i none) { s6 with sl := s6.sl.set i none } D ws bcc := n6.set (fun es z => nomatch z)
          rw [e7] at A7 n7
          refine ⟨A7, n7, fun y e => ?_⟩
          have e' : (s6.sl.set i none)[i]? = some (some y) := e
          rw [List.getElem?_set, if_pos rfl] at e'
          split at e' <;> cases e'
        unfold cpN at e3
        show wipe ((wipe σ [i]).set i (some z)) [i] = wipe σ [i] ∧ _
        refine ⟨?_, ?_⟩
        · show ((σ.set i none).set i (some z)).set i none = σ.set i none
          rw [List.set_set, List.set_set]
        show tt ((σ.set i none).set i (some z)) H'' _
        split at e3
        · rename_i s6 e6
          refine q2 _ G3 H'' _ _ _ _ A5 e6 _ fun H6 G6 g6 A6 => ?_
          rw [if_pos rfl]
          split at e3
          · rename_i y7 s7 e7
            split at e3
            · rename_i hsz
              refine q3 _ G6 H6 _ _ _ _ A6 e7 _ fun v7 H7 G7 g7 A7 r7 => ?_
              obtain ⟨A8, n8⟩ := A7.unbase (acc := acc) n3.h0 g0D n3.sp (RpL.mono (g6.trans g7) _ _ n3.rp)
              refine ⟨vs, n8.at_, by rw [n8.rp.length]; exact hsz, ?_⟩
              obtain ⟨A9, n9⟩ := A8.put_new n8 (n8.rp.append (RpL.one r7))
              obtain ⟨A10, n10, h10⟩ := back A9 n9
              exact ⟨G7, _, _, _, ((g2.trans F.g).trans g6).trans g7, A10, n10, h10, e3⟩
            · cases e3
          · cases e3
        · rename_i s6 e6
          refine q2 _ G3 H'' _ _ _ _ A5 e6 _ fun H6 G6 g6 A6 => ?_
          rw [if_neg Bool.false_ne_true]
          obtain ⟨A8, n8⟩ := A6.unbase (acc := acc) n3.h0 g0D n3.sp (RpL.mono g6 _ _ n3.rp)
          obtain ⟨A10, n10, h10⟩ := back A8 n8
          exact ⟨G6, _, _, _, (g2.trans F.g).trans g6, A10, n10, h10, e3⟩
        · cases e3
    · have hz : items.drop j = [] := List.drop_eq_nil_of_le (by omega)
      rw [hz] at e3
      unfold cpN at e3
      cases e3
      refine .inl ⟨wk.stop j G2 H' g2 A2.gh (by omega), k D vs H' G2 (g1.trans g2) ?_ ?_⟩
      · refine A2.forget (s := s') (sl' := s'.sl) ?_ fun q x e => ⟨e, ?_⟩
        · have := A2.len
          rw [List.length_set] at this
          exact this
        · rw [List.getElem?_set, if_neg (fun z => hn x (by rw [z]; exact e))]
      · refine ⟨n2.at_, n2.rp, n2.g, n2.h0, n2.sp, fun q es e1' e2' => n2.no q es e1' ?_⟩
        rw [List.getElem?_set, if_neg (fun z => hn _ (by rw [z]; exact e1'))]
        exact e2'
  · cases e1
theorem fl_comp (i : Nat) {x : Str} {px : Pos} {elt iter : Expr} {ifs : List Expr} {scope : Scope} {it : LF} {t : TF} {f : EF} (hi : FI X C (.Name x px) iter it) (hc : X.calm = true) (hN : X.N.Nodup) (ok : BlkOk X.N X.env.scope scope [(x, i)])
    (hg : ∀ (s : Shared) (H : Hp) (C : Addr) (cl : List (Str × Addr)) (fp : List Addr), PG (X.blk s H scope (compEnvC scope cl C X.env) fp) (.Name x px) (gName i))
    (ht : ∃ tt, (∀ (s : Shared) (H : Hp) (C : Addr) (cl : List (Str × Addr)) (fp : List Addr), PTs (X.blk s H scope (compEnvC scope cl C X.env) fp) ifs tt) ∧ ∀ C', EvT X.K C' tt t)
    (he : ∃ te, (∀ (s : Shared) (H : Hp) (C : Addr) (cl : List (Str × Addr)) (fp : List Addr), PE (X.blk s H scope (compEnvC scope cl C X.env) fp) elt te) ∧ ∀ C', EvE X.K C' te f) (hs : ∀ x, foldedSetIterable iter X.env x = pure x := by intro _; rfl) :
    FL X C (.ListComp elt [⟨.Name x px, iter, ifs, 0⟩] scope pos) (lCp it i t f) := by
  obtain ⟨wi, p1, q1⟩ := hi
  obtain ⟨tt, p2, q2⟩ := ht
  obtain ⟨te, p3, q3⟩ := he
  exact ⟨_, pe_lc hc hN p1 ok hg p2 p3 hs, evLc q1 q2 q3⟩
theorem ev_yes {K : PySem.W.Frag} : EvT K C tYes tY := by
  intro G H σ s b s' A e Q k
  cases e
  exact k H G (Same.refl _) A
end
end FD

set_option maxRecDepth 100000
namespace FD
open PySem PySem.Spec PyProof.Rows L2

/-! ## x op= e -/
def sAug (i : Nat) (f : EF) (op : DV → DV → Option DV) : SF := fun s => match s.sl[i]? with
  | some (some (.dat d)) => match f s with
    | some (e, s1) => match op d e with
      | some z => some (.nx { s1 with sl := s1.sl.set i (some (.dat z)) })
      | none => none
    | none => none
  | _ => none
def dAddI : DV → DV → Option DV
  | .int i, .int j => some (.int (i + j))
  | _, _ => none
def dMulI : DV → DV → Option DV
  | .int i, .int j => if fitM i j then some (.int (i * j)) else none
  | _, _ => none
section
variable {X : Cx} {C : Cn} {e a b c : Expr} {es elts : List Expr} {pos p tpos : Pos} {f g h : EF}
theorem fs_aug (i : Nat) {x : Str} {o : Operator} {r : R2} {op : DV → DV → Option DV} {pos' : Pos} (hr : PIp X o r) (ho : Op2 X.K r op) (he : FE X C e f) (hN : X.N.Nodup) (hi : X.N[i]? = some x := by rfl) (hx : Loc X.env.scope x := by first | exact Or.inl rfl | exact Or.inr rfl) (hf : X.fn x = true ∨ X.env.scope.names.lookup x = some .local := by first | exact .inl rfl | exact .inr rfl | assumption) :
    FS X C (.AugAssign (.Name x pos') o e pos) (sAug i f op) := by
  obtain ⟨te, p, q⟩ := he
  refine ⟨_, ps_aug hN hi hx p hr hf, ?_⟩
  intro G H σ s o' A e1 D k
  unfold sAug at e1
  split at e1
  · rename_i d e0
    split at e1
    · rename_i e' s1 e2
      split at e1
      · rename_i z e3
        cases e1
        obtain ⟨w, ew, v, rfl, rv⟩ := A.slot e0
        refine ⟨v, ew, q G H σ s e' s1 A e2 _ fun y H1 G1 g1 A1 r1 => ?_⟩
        exact ho C G1 H1 σ s1 v y d e' z A1 (Rp.mono g1 d v rv) r1 e3 _ fun u H2 G2 F r2 => k _ H2 G2 (g1.trans F.g) ((A1.fw0 F).set_dat r2)
      · cases e1
    · cases e1
  · cases e1
theorem iop_mulX : OpR X (inplaceOp .Mult) (rI (fun i j => fitM i j = true) fun i j => .int (i * j)) := opI fun _ _ _ _ _ _ _ hc q => imul_int q (CallFit hc)
theorem iop_fdivX : OpR X (inplaceOp .FloorDiv) (rI (fun i j => j ≠ 0 ∧ j.natAbs.log2 < 9000) fun i j => .int (i.fdiv j)) := opI fun i j _ _ _ _ _ hc q => ifloordiv_int hc.1 q (.inl (PyProof.noPylong_of_log2 hc.2))
theorem o_addI {K : PySem.W.Frag} : Op2 K (rI0 fun i j => .int (i + j)) dAddI := o_int0 fun d e z h => by
  unfold dAddI at h
  split at h
  · cases h; exact ⟨_, _, rfl, rfl, fun _ => rfl⟩
  · cases h
theorem o_mulI {K : PySem.W.Frag} : Op2 K (rI (fun i j => fitM i j = true) fun i j => .int (i * j)) dMulI := o_int fun d e z h => by
  unfold dMulI at h
  split at h
  · split at h
    · rename_i hd
      cases h; exact ⟨_, _, rfl, rfl, hd, fun _ => rfl⟩
    · cases h
  · cases h
theorem fs_iadd (i : Nat) {x : Str} {pos' : Pos} (he : FE X C e f) (hN : X.N.Nodup) (hi : X.N[i]? = some x := by rfl) (hx : Loc X.env.scope x := by first | exact Or.inl rfl | exact Or.inr rfl) (hf : X.fn x = true ∨ X.env.scope.names.lookup x = some .local := by first | exact .inl rfl | exact .inr rfl | assumption) : FS X C (.AugAssign (.Name x pos') .Add e pos) (sAug i f dAddI) :=
  fs_aug i (r := rI0 fun i j => .int (i + j)) (fun pins s σ H x y v u Q I rx ry h => iop_add pins s σ H x y v u Q I rx ry h) o_addI he hN hi hx hf
theorem fs_isub (i : Nat) {x : Str} {pos' : Pos} (he : FE X C e f) (hN : X.N.Nodup) (hi : X.N[i]? = some x := by rfl) (hx : Loc X.env.scope x := by first | exact Or.inl rfl | exact Or.inr rfl) (hf : X.fn x = true ∨ X.env.scope.names.lookup x = some .local := by first | exact .inl rfl | exact .inr rfl | assumption) : FS X C (.AugAssign (.Name x pos') .Sub e pos) (sAug i f dSub) :=
  fs_aug i (r := rI0 fun i j => .int (i - j)) (fun pins s σ H x y v u Q I rx ry h => iop_sub pins s σ H x y v u Q I rx ry h) o_sub he hN hi hx hf
theorem fs_imul (i : Nat) {x : Str} {pos' : Pos} (he : FE X C e f) (hN : X.N.Nodup) (hi : X.N[i]? = some x := by rfl) (hx : Loc X.env.scope x := by first | exact Or.inl rfl | exact Or.inr rfl) (hf : X.fn x = true ∨ X.env.scope.names.lookup x = some .local := by first | exact .inl rfl | exact .inr rfl | assumption) : FS X C (.AugAssign (.Name x pos') .Mult e pos) (sAug i f dMulI) :=
  fs_aug i (r := rI (fun i j => fitM i j = true) fun i j => .int (i * j)) (fun pins s σ H x y v u Q I rx ry h => iop_mulX pins s σ H x y v u Q I rx ry h) o_mulI he hN hi hx hf
theorem fs_ifdiv (i : Nat) {x : Str} {pos' : Pos} (he : FE X C e f) (hN : X.N.Nodup) (hi : X.N[i]? = some x := by rfl) (hx : Loc X.env.scope x := by first | exact Or.inl rfl | exact Or.inr rfl) (hf : X.fn x = true ∨ X.env.scope.names.lookup x = some .local := by first | exact .inl rfl | exact .inr rfl | assumption) : FS X C (.AugAssign (.Name x pos') .FloorDiv e pos) (sAug i f dFdiv) :=
  fs_aug i (r := rI (fun i j => j ≠ 0 ∧ j.natAbs.log2 < 9000) fun i j => .int (i.fdiv j)) (fun pins s σ H x y v u Q I rx ry h => iop_fdivX pins s σ H x y v u Q I rx ry h) o_fdiv he hN hi hx hf
/-- a module's int -/
theorem fe_gint {x : Str} {i : Int} {t : Tok} (hm : X.mg x = some (.int i t)) (hg : Gl X x := by rfl) (hd : (x == ("__debug__" : Str)) = false := by decide) : FE X C (.Name x pos) (eC (.int i)) := ⟨_, pe_glob (v := .int i) hg hm ⟨t, rfl⟩ hd, evC fun _ => rfl⟩
end

/-! ## math.gcd, math.isqrt -/
theorem args_gcd3 (a b c : Value) : argsOk "math.gcd" ⟨[a, b, c], []⟩ := by unfold argsOk; kernel_rfl
theorem run_gcd3 (a : Int) (t : Tok) (b : Int) (u : Tok) (c : Int) (v : Tok) :
    Gives (Builtin.«math.gcd» ⟨[.int a t, .int b u, .int c v], []⟩) (.int (((((Nat.gcd 0 a.natAbs).gcd b.natAbs).gcd c.natAbs : Nat) : Int))) :=
  .of_wp fun M A E s Q h => by obtain ⟨hp, g, d, tk, os⟩ := s; wp_walk; exact ⟨_, rfl, h⟩
def dGcd : List DV → Option DV
  | [.int a, .int b] => some (.int ((Nat.gcd a.natAbs b.natAbs : Nat) : Int))
  | [.int a, .int b, .int c] => some (.int (((Nat.gcd a.natAbs b.natAbs).gcd c.natAbs : Nat) : Int))
  | _ => none
def rGcdX : List V → Hp → VK → Prop := fun vs H Q => (rGcd vs H Q) ∨ ∃ a b c : Int, vs = [.int a, .int b, .int c] ∧ Q (.int (((Nat.gcd a.natAbs b.natAbs).gcd c.natAbs : Nat) : Int)) H
theorem RpL.triple {K : PySem.W.Frag} {G : Hp} {vs : List V} {d d' d'' : DV} (h : RpL K G vs [d, d', d'']) : ∃ v v' v'', vs = [v, v', v''] ∧ Rp K G v d ∧ Rp K G v' d' ∧ Rp K G v'' d'' := by
  obtain ⟨v, r, e, h1, h2⟩ := h
  obtain ⟨w, w', rfl, h3, h4⟩ := h2.double
  exact ⟨v, w, w', e, h1, h3, h4⟩
section
variable {X : Cx} {C : Cn} {e a b c : Expr} {es elts : List Expr} {pos p tpos : Pos} {f g h : EF}
theorem cr_gcdX : CallR X (.builtin "math.gcd") rGcdX := by
  intro pins s σ H vs us Q I r h
  rcases h with h | ⟨a, b, c, rfl, q⟩
  · exact cr_gcd pins s σ H vs us Q I r h
  · cases r with
    | cons r1 r2 =>
      obtain ⟨u, w, e, r3, r4⟩ := vals2 r2
      subst e
      obtain ⟨t, rfl⟩ := r1
      obtain ⟨t', rfl⟩ := r3
      obtain ⟨t'', rfl⟩ := r4
      have gg := run_gcd3 a t b t' c t''
      rw [Nat.gcd_zero_left] at gg
      exact call_function_meets PySem.W.MGF.kind_gcd PySem.W.MGF.plain_gcd PySem.W.MGF.entry_gcd (args_gcd3 _ _ _) gg.meets ⟨.int _, H, I.tok _, ⟨_, rfl⟩, q⟩
theorem o_gcd {K : PySem.W.Frag} : OpA K rGcdX dGcd := by
  intro C G H σ s vs ds d A r ho Q q
  unfold dGcd at ho
  split at ho
  · cases ho
    obtain ⟨v, w, e, e1, e2⟩ := r.double
    rw [show v = .int _ from e1, show w = .int _ from e2] at e
    exact .inl ⟨_, _, e, q _ H G (Fw.refl A.gh) rfl⟩
  · cases ho
    obtain ⟨v, w, z, e, e1, e2, e3⟩ := r.triple
    rw [show v = .int _ from e1, show w = .int _ from e2, show z = .int _ from e3] at e
    exact .inr ⟨_, _, _, e, q _ H G (Fw.refl A.gh) rfl⟩
  · cases ho
theorem fe_gcd {ff : AF} (hm : X.mg "gcd" = some (.builtin "math.gcd")) (ha : FA X C (e :: es) ff) (hg : Gl X "gcd" := by rfl) (he : starEach (e :: es) X.env = (false, eval e X.env) :: starEach es X.env := by rfl) (hpl : (backTo pos (starEach es X.env)).any (·.1) = false := by rfl) :
    FE X C (.Call (.Name "gcd" p) (e :: es) [] pos) (eA ff dGcd) := fe_callM cr_gcdX o_gcd hm ha hg (he := he) (hpl := hpl)
def okSq (i : Int) : Bool := decide (0 ≤ i ∧ i.toNat.log2 < 13500)
def rSq : List V → Hp → VK → Prop := fun vs H Q => ∃ a : Int, vs = [.int a] ∧ okSq a = true ∧ Q (.int ((Float64.isqrt a.toNat : Nat) : Int)) H
theorem cr_sq : CallR X (.builtin "math.isqrt") rSq := by
  intro pins s σ H vs us Q I r h
  obtain ⟨a, rfl, ok, q⟩ := h
  obtain ⟨u, rfl, t, rfl⟩ := vals1 r
  obtain ⟨h0, h1⟩ := of_decide_eq_true ok
  exact call_function_meets PySem.W.MGF.kind_isqrt PySem.W.MGF.plain_isqrt PySem.W.MGF.entry_isqrt (PySem.W.MGF.args_isqrt _) (PySem.W.mg_run_isqrt a t (by omega) (by omega) (by omega)).meets ⟨.int _, H, I.tok _, ⟨_, rfl⟩, q⟩
def dSq : List DV → Option DV
  | [.int a] => if okSq a then some (.int ((Float64.isqrt a.toNat : Nat) : Int)) else none
  | _ => none
theorem o_sq {K : PySem.W.Frag} : OpA K rSq dSq := by
  intro C G H σ s vs ds d A r ho Q q
  unfold dSq at ho
  split at ho
  · split at ho
    · rename_i hk
      cases ho
      obtain ⟨v, e, e1⟩ := r.single
      rw [show v = .int _ from e1] at e
      exact ⟨_, e, hk, q _ H G (Fw.refl A.gh) rfl⟩
    · cases ho
  · cases ho
theorem fe_isqrt {ff : AF} (hm : X.mg "isqrt" = some (.builtin "math.isqrt")) (ha : FA X C [e] ff) (hg : Gl X "isqrt" := by rfl) (he : starEach [e] X.env = (false, eval e X.env) :: starEach [] X.env := by rfl) :
    FE X C (.Call (.Name "isqrt" p) [e] [] pos) (eA ff dSq) := fe_callM cr_sq o_sq hm ha hg (he := he)
end

/-! ## a def of the text, with all that its callers want -/
def DefOk (P : Program) (w : World) (K : PySem.W.Frag) (mg : Str → Option Value) (base : Heap) (k : Nat) (x : Str) (ps : List Str) (sp : Sp) : Prop :=
  ∃ f fd, FnOk P w K mg base CX0 k f fd ps sp ∧ mg x = some (.ref f) ∧ PySem.W.keepIn K (.ref f) = true ∧ Binds K fd ps []
section
variable {X : Cx} {C : Cn} {e a b c : Expr} {es elts : List Expr} {pos p tpos : Pos} {f g h : EF}
theorem fe_def {op : List DV → Option DV} {k j : Nat} {ps : List Str} {x : Str} {ff : AF} (D : DefOk X.prog X.w X.K X.mg X.base j x ps (spP X.K op)) (hr : Room k X.A) (hj : j ≤ k) (ha : FA X C (e :: es) ff) (hg : Gl X x := by rfl) (hdb : (x == ("__debug__" : Str)) = false := by decide) (he : starEach (e :: es) X.env = (false, eval e X.env) :: starEach es X.env := by rfl) (hpl : (backTo pos (starEach es X.env)).any (·.1) = false := by rfl) :
    FE X C (.Call (.Name x p) (e :: es) [] pos) (eA ff op) := by
  obtain ⟨fa, fd, F, hm, hk, hb⟩ := D
  exact fe_call (F.mono hj) hr hm hk hb ha hg hdb he hpl
theorem fe_defS (i : Nat) {op : List DV → Spl → Option (DV × Spl)} {k j : Nat} {ps : List Str} {x y : Str} {ff : AF} {py : Pos} (D : DefOk X.prog X.w X.K X.mg X.base j x ps (spS X.K op)) (hr : Room k X.A) (hj : j ≤ k) (ha : FA X C es ff) (hg : Gl X x := by rfl) (hN : X.N[i]? = some y := by rfl) (hv : Vis X.env.scope y := by first | exact Or.inl rfl | exact Or.inr (Or.inl rfl) | exact Or.inr (Or.inr rfl)) (hd : (y == ("__debug__" : Str)) = false := by decide)
    (hcd : (y == ("__classdict__" : Str)) = false := by decide) (hdb : (x == ("__debug__" : Str)) = false := by decide) (he : starEach (.Name y py :: es) X.env = (false, eval (.Name y py) X.env) :: starEach es X.env := by rfl) (hpl : (backTo pos (starEach es X.env)).any (·.1) = false := by rfl) :
    FE X C (.Call (.Name x p) (.Name y py :: es) [] pos) (eS i ff op) := by
  obtain ⟨fa, fd, F, hm, hk, hb⟩ := D
  exact fe_callS i (F.mono hj) hr hm hk hb ha hg hN hv hd hcd hdb he hpl
end
/-- an int in a slot (0 where none is) -/
def slI (s : S) (i : Nat) : Int := match s.sl[i]? with
  | some (some (.dat (.int n))) => n
  | _ => 0
end FD

set_option maxRecDepth 100000
namespace FD
open PySem PySem.Spec PyProof.Rows L2

/-! ## a reading that serves in every context -/
def tU (K : PySem.W.Frag) (f : EF) : TE := fun σ H Q => ∃ C G s d s', Ab K C G H σ s ∧ f s = some (d, s') ∧ ∀ v H' G', Same G G' → Ab K C G' H' σ s' → Rp K G' v d → Q v H'
def tUt (K : PySem.W.Frag) (f : TF) : TT := fun σ H Q => ∃ C G s d s', Ab K C G H σ s ∧ f s = some (d, s') ∧ ∀ H' G', Same G G' → Ab K C G' H' σ s' → Q d H'
theorem pe_U {X : Cx} {e : Expr} {f : EF} (h : ∀ C, FE X C e f) : PE X e (tU X.K f) := by
  refine ⟨fun pins s σ H Q I z => ?_⟩
  obtain ⟨C, G, st, d, st', A, e1, k⟩ := z
  obtain ⟨te, p, q⟩ := h C
  exact p.run pins s σ H Q I (q G H σ st d st' A e1 Q k)
theorem pt_U {X : Cx} {e : Expr} {f : TF} (h : ∀ C, FT X C e f) : PT X e (tUt X.K f) := by
  refine ⟨fun pins s σ H Q I z => ?_⟩
  obtain ⟨C, G, st, d, st', A, e1, k⟩ := z
  obtain ⟨te, p, q⟩ := h C
  exact p.run pins s σ H Q I (q G H σ st d st' A e1 Q k)
theorem evU {K : PySem.W.Frag} {C : Cn} {f : EF} : EvE K C (tU K f) f := fun G H σ s d s' A e Q k => ⟨C, G, s, d, s', A, e, k⟩
theorem evUt {K : PySem.W.Frag} {C : Cn} {f : TF} : EvT K C (tUt K f) f := fun G H σ s d s' A e Q k => ⟨C, G, s, d, s', A, e, k⟩

section
variable {X : Cx} {C : Cn} {e a b c : Expr} {es elts : List Expr} {pos p tpos : Pos} {f g h : EF}
theorem evOwn {K : PySem.W.Frag} {te : TE} {i : Nat} {ff : LF} (q : EvL K C te ff) : EvS K C (tAsg te (gName i)) (sOwn i ff) := by
  intro G H σ s o A e1 D k
  unfold sOwn at e1
  split at e1
  · rename_i ds s1 e2
    cases e1
    exact q G H σ s ds s1 A e2 _ fun p vs H1 G1 g1 A1 n => k _ H1 G1 g1 (A1.set_own n.at_ n.rp n.g n.h0 n.sp n.no)
  · cases e1
theorem evSet {K : PySem.W.Frag} {te : TE} {i : Nat} {f : EF} (q : EvE K C te f) : EvS K C (tAsg te (gName i)) (sAsg f (gNm i)) := by
  intro G H σ s o A e1 D k
  unfold sAsg at e1
  split at e1
  · rename_i d s1 e2
    cases e1
    exact q G H σ s d s1 A e2 _ fun v H1 G1 g1 A1 r => k _ H1 G1 g1 (A1.set_dat r)
  · cases e1
theorem evFl {K : PySem.W.Frag} {te : TE} {ff : LF} (q : EvL K C te ff) : EvE K C te (eL ff) := by
  intro G H σ s d s' A e1 Q k
  unfold eL at e1
  split at e1
  · rename_i ds s1 e2
    cases e1
    refine q G H σ s ds _ A e2 _ fun p vs H1 G1 g1 A1 n => ?_
    obtain ⟨G2, g2, A2, r⟩ := A1.take_in n
    exact k _ H1 G2 (g1.trans g2) A2 r
  · cases e1
/-- [elt for x in iter], and as a name's list -/
theorem fl_lc (i : Nat) {x : Str} {px : Pos} {elt iter : Expr} {scope : Scope} {it : LF} {f : EF} (hc : X.calm = true) (hN : X.N.Nodup) (ok : BlkOk X.N X.env.scope scope [(x, i)]) (hi : FI X C (.Name x px) iter it)
    (hg : ∀ (s : Shared) (H : Hp) (C : Addr) (cl : List (Str × Addr)) (fp : List Addr), PG (X.blk s H scope (compEnvC scope cl C X.env) fp) (.Name x px) (gName i))
    (he : ∀ (s : Shared) (H : Hp) (Ca : Addr) (cl : List (Str × Addr)) (fp : List Addr) (C' : Cn), FE (X.blk s H scope (compEnvC scope cl Ca X.env) fp) C' elt f) (hs : ∀ x, foldedSetIterable iter X.env x = pure x := by intro _; rfl) :
    FL X C (.ListComp elt [⟨.Name x px, iter, [], 0⟩] scope pos) (lCp it i tY f) :=
  fl_comp i hi hc hN ok hg ⟨tYes, fun _ _ _ _ _ => pts_nil, fun _ => ev_yes⟩ ⟨tU X.K f, fun s H Ca cl fp => pe_U (he s H Ca cl fp), fun _ => evU⟩ hs
theorem fl_lcif (i : Nat) {x : Str} {px : Pos} {elt iter cnd : Expr} {scope : Scope} {it : LF} {f : EF} {t : TF} (hc : X.calm = true) (hN : X.N.Nodup) (ok : BlkOk X.N X.env.scope scope [(x, i)]) (hi : FI X C (.Name x px) iter it)
    (hg : ∀ (s : Shared) (H : Hp) (C : Addr) (cl : List (Str × Addr)) (fp : List Addr), PG (X.blk s H scope (compEnvC scope cl C X.env) fp) (.Name x px) (gName i))
    (ht : ∀ (s : Shared) (H : Hp) (Ca : Addr) (cl : List (Str × Addr)) (fp : List Addr) (C' : Cn), FT (X.blk s H scope (compEnvC scope cl Ca X.env) fp) C' cnd t)
    (he : ∀ (s : Shared) (H : Hp) (Ca : Addr) (cl : List (Str × Addr)) (fp : List Addr) (C' : Cn), FE (X.blk s H scope (compEnvC scope cl Ca X.env) fp) C' elt f) (hs : ∀ x, foldedSetIterable iter X.env x = pure x := by intro _; rfl) :
    FL X C (.ListComp elt [⟨.Name x px, iter, [cnd], 0⟩] scope pos) (lCp it i t f) :=
  fl_comp i hi hc hN ok hg ⟨tUt X.K t, fun s H Ca cl fp => pts_one (pt_U (ht s H Ca cl fp)), fun _ => evUt⟩ ⟨tU X.K f, fun s H Ca cl fp => pe_U (he s H Ca cl fp), fun _ => evU⟩ hs
theorem ps_lc {j : Nat} (i : Nat) {x y : Str} {px py spos : Pos} {elt iter : Expr} {scope : Scope} {it : LF} {f : EF} (hc : X.calm = true) (hN : X.N.Nodup) (hy : X.N[j]? = some y) (hyl : X.env.scope.names.lookup y = some .local)
    (hsw : swapsWith (.ListComp elt [⟨.Name x px, iter, [], 0⟩] scope pos) (some (.Name y py)) spos.line X.env = pure true) (ok : BlkOk X.N X.env.scope scope [(x, i)]) (hi : FI X C (.Name x px) iter it)
    (hg : ∀ (s : Shared) (H : Hp) (C : Addr) (cl : List (Str × Addr)) (fp : List Addr), PG (X.blk s H scope (compEnvC scope cl C X.env) fp) (.Name x px) (gName i))
    (he : ∀ (s : Shared) (H : Hp) (Ca : Addr) (cl : List (Str × Addr)) (fp : List Addr) (C' : Cn), FE (X.blk s H scope (compEnvC scope cl Ca X.env) fp) C' elt f) (hs : ∀ x, foldedSetIterable iter X.env x = pure x := by intro _; rfl) :
    ∃ te, PS X (.Assign [.Name y py] (.ListComp elt [⟨.Name x px, iter, [], 0⟩] scope pos) spos) (tAsg te (gName j)) ∧ EvL X.K C te (lCp it i tY f) := by
  obtain ⟨wi, p1, q1⟩ := hi
  exact ⟨_, ps_setLc hc hN hy hyl hsw p1 ok hg (fun _ _ _ _ _ => pts_nil) (fun s H Ca cl fp => pe_U (he s H Ca cl fp)) hs, evLc q1 (fun _ => ev_yes) (fun _ => evU)⟩
theorem fs_lco (j i : Nat) {x y : Str} {px py spos : Pos} {elt iter : Expr} {scope : Scope} {it : LF} {f : EF} (hc : X.calm = true) (hN : X.N.Nodup) (ok : BlkOk X.N X.env.scope scope [(x, i)]) (hi : FI X C (.Name x px) iter it)
    (hg : ∀ (s : Shared) (H : Hp) (C : Addr) (cl : List (Str × Addr)) (fp : List Addr), PG (X.blk s H scope (compEnvC scope cl C X.env) fp) (.Name x px) (gName i))
    (he : ∀ (s : Shared) (H : Hp) (Ca : Addr) (cl : List (Str × Addr)) (fp : List Addr) (C' : Cn), FE (X.blk s H scope (compEnvC scope cl Ca X.env) fp) C' elt f) (hy : X.N[j]? = some y := by rfl) (hyl : X.env.scope.names.lookup y = some .local := by rfl)
    (hsw : swapsWith (.ListComp elt [⟨.Name x px, iter, [], 0⟩] scope pos) (some (.Name y py)) spos.line X.env = pure true := by exact sw_true rfl rfl rfl (by decide +kernel)) (hs : ∀ x, foldedSetIterable iter X.env x = pure x := by intro _; rfl) :
    FS X C (.Assign [.Name y py] (.ListComp elt [⟨.Name x px, iter, [], 0⟩] scope pos) spos) (sOwn j (lCp it i tY f)) :=
  let ⟨_, p, q⟩ := ps_lc i hc hN hy hyl hsw ok hi hg he hs; ⟨_, p, evOwn q⟩
theorem fs_lcd (j i : Nat) {x y : Str} {px py spos : Pos} {elt iter : Expr} {scope : Scope} {it : LF} {f : EF} (hc : X.calm = true) (hN : X.N.Nodup) (ok : BlkOk X.N X.env.scope scope [(x, i)]) (hi : FI X C (.Name x px) iter it)
    (hg : ∀ (s : Shared) (H : Hp) (C : Addr) (cl : List (Str × Addr)) (fp : List Addr), PG (X.blk s H scope (compEnvC scope cl C X.env) fp) (.Name x px) (gName i))
    (he : ∀ (s : Shared) (H : Hp) (Ca : Addr) (cl : List (Str × Addr)) (fp : List Addr) (C' : Cn), FE (X.blk s H scope (compEnvC scope cl Ca X.env) fp) C' elt f) (hy : X.N[j]? = some y := by rfl) (hyl : X.env.scope.names.lookup y = some .local := by rfl)
    (hsw : swapsWith (.ListComp elt [⟨.Name x px, iter, [], 0⟩] scope pos) (some (.Name y py)) spos.line X.env = pure true := by exact sw_true rfl rfl rfl (by decide +kernel)) (hs : ∀ x, foldedSetIterable iter X.env x = pure x := by intro _; rfl) :
    FS X C (.Assign [.Name y py] (.ListComp elt [⟨.Name x px, iter, [], 0⟩] scope pos) spos) (sAsg (eL (lCp it i tY f)) (gNm j)) :=
  let ⟨_, p, q⟩ := ps_lc i hc hN hy hyl hsw ok hi hg he hs; ⟨_, p, evSet (evFl q)⟩
end

/-! ## the spool made, the law -/
/-- a def that hands back a new list -/
def spN (K : PySem.W.Frag) (f : List DV → Option (List DV)) : Sp := fun vs H Q _ => ∃ G ds es, Same G H ∧ RpL K G vs ds ∧ f ds = some es ∧ ∀ p us H' G', Fw G H G' H' none → H' p = some (.lst us) → RpL K G' us es → G' p = none → H p = none → Q (.ref p) H'
def bodyN (n m : Nat) (g1 g2 : SF) (f : LF) : List DV → Option (List DV) := fun ds =>
  if ds.length = n then match g1 ⟨ds.map (fun d => some (.dat d)) ++ List.replicate (m - n) none, spl0⟩ with
    | some (.nx s1) => match g2 s1 with
      | some (.nx s2) => match f s2 with
        | some (es, _) => some es
        | none => none
      | _ => none
    | _ => none
  else none
section
variable {P : Program} {w : World} {K : PySem.W.Frag} {mg : Str → Option Value} {base : Heap}
theorem fn_new {x qual : Str} {params : Arguments} {body : List Stmt} {scope : Scope} {dvs : List V} {kws : List (Str × V)} {f : Addr} {fd : FuncData} {N ps : List Str} {k : Nat} {g1 g2 : SF} {ff : LF} {s1 s2 : Stmt} {e : Expr} {pos : Pos} (F : FunD K x qual params body scope dvs kws f fd) (Sc : FnScope N ps scope) (hbd : body = [s1, s2, .Return (some e) pos])
    (h : ∀ (C : Cn) (cdv : Value) (A : Around) (outer : List Env) (s : Shared) (H : Hp) (E : XK), Room k (A.deeper (envOfC qual scope s.heap.objs.size f cdv)) →
      FS (cxOf CX0 P w K mg base N qual scope f cdv A outer s H E).nox C s1 g1 ∧ FS (cxOf CX0 P w K mg base N qual scope f cdv A outer s H E).nox C s2 g2 ∧ FL (cxOf CX0 P w K mg base N qual scope f cdv A outer s H E).nox C e ff) :
    FnOk P w K mg base CX0 (k + 1) f fd ps (spN K (bodyN ps.length N.length g1 g2 ff)) := by
  refine F.ok Sc (fun vs H Q E h => ?_) (fun cdv A outer s H vs Q E hr hsp => ?_)
  · obtain ⟨G, ds, d, _, r, e, _⟩ := h
    unfold bodyN at e
    split at e
    · rename_i hl
      rw [r.length, hl]
    · cases e
  · obtain ⟨G, ds, es, g0, r, e, q⟩ := hsp
    unfold bodyN at e
    split at e
    · rename_i hl
      obtain ⟨⟨t1, p1, q1⟩, ⟨t2, p2, q2⟩, ⟨t3, p3, q3⟩⟩ := h ⟨G, H, none⟩ cdv A outer s H E hr
      have A0 := ab_start (K := K) g0 r (N.length - ps.length) spl0
      have es' : L2.start N vs = vs.map some ++ List.replicate (N.length - ps.length) none := by
        unfold L2.start
        rw [r.length, hl]
      rw [hbd]
      refine ⟨_, (pss_cons p1 (pss_cons p2 (pss_one (ps_ret p3)))).nox, ?_⟩
      rw [es']
      split at e
      · rename_i sa e1
        split at e
        · rename_i sb e2
          split at e
          · rename_i es'' sc e3
            cases e
            refine q1 G H _ _ _ A0 e1 _ ?_
            intro σ1 H1 G1 g1' A1
            refine q2 G1 H1 _ _ _ A1 e2 _ ?_
            intro σ2 H2 G2 g2' A2
            refine q3 G2 H2 _ _ _ _ A2 e3 _ ?_
            intro p us H3 G3 g3 A3 n
            exact q p us H3 G3 ⟨(g1'.trans g2').trans g3, A3.gh, fun b o e n => A3.fr b o e n, A3.gn⟩ n.at_ n.rp n.g n.h0
          · cases e
        · cases e
      · cases e
    · cases e
/-- the law: it draws from a spool that it makes of the script -/
def spLaw (K : PySem.W.Frag) : Sp := fun vs H Q _ => ∃ (a : Addr) (ns : List Int), vs = [.ref a] ∧ SqL K H a (ns.map V.int) ∧ ns.length ≤ 63 ∧ ∀ H', Q (.bl true) H'
theorem fn_law {x qual : Str} {params : Arguments} {body rest : List Stmt} {scope : Scope} {dvs : List V} {kws : List (Str × V)} {f : Addr} {fd : FuncData} {N : List Str} {k : Nat} {g : SF} {e : Expr} {pos p1 : Pos} {y : Str} (sf : List Int → Option (List Int)) (F : FunD K x qual params body scope dvs kws f fd) (Sc : FnScope N ["script"] scope) (hbd : body = .Assign [.Name y p1] e pos :: rest)
    (h1 : ∀ (C : Cn) (cdv : Value) (A : Around) (outer : List Env) (s : Shared) (H : Hp) (E : XK), Room k (A.deeper (envOfC qual scope s.heap.objs.size f cdv)) →
      PS (cxOf CX0 P w K mg base N qual scope f cdv A outer s H E).nox (.Assign [.Name y p1] e pos) (tAsg (tCall (spN K fun ds => match ds with
        | [.scr ns] => (sf ns).map fun nums => [.lst (nums.map .int), .int 0, .int 0, .int 0]
        | _ => none) [] E0 (tCons (tVar 0) tNil)) (gName 1)))
    (h2 : ∀ (C : Cn) (cdv : Value) (A : Around) (outer : List Env) (s : Shared) (H : Hp) (E : XK), Room k (A.deeper (envOfC qual scope s.heap.objs.size f cdv)) → FSs (cxOf CX0 P w K mg base N qual scope f cdv A outer s H E).nox C rest g)
    (hN : 2 ≤ N.length)
    (hm : ∀ ns : List Int, ns.length ≤ 63 → ∃ nums s', sf ns = some nums ∧ g ⟨some (.dat (.scr ns)) :: some .spl :: List.replicate (N.length - 2) none, ⟨nums, 0, 0, 0⟩⟩ = some (.rt (.bl true) s')) :
    FnOk P w K mg base CX0 (k + 1) f fd ["script"] (spLaw K) := by
  refine F.ok Sc (fun vs H Q E h => ?_) (fun cdv A outer s H vs Q E hr hsp => ?_)
  · obtain ⟨a, ns, rfl, _⟩ := h
    rfl
  · obtain ⟨a, ns, rfl, hS, hl, q⟩ := hsp
    obtain ⟨nums, s', e1, e2⟩ := hm ns hl
    rw [hbd]
    have P1 := h1 ⟨H, H, none⟩ cdv A outer s H E hr
    have P2 : PSs (cxOf CX0 P w K mg base N qual scope f cdv A outer s H E).nox rest (fun D σ H1 => ∃ C t, PSs (cxOf CX0 P w K mg base N qual scope f cdv A outer s H E).nox rest t ∧ EvS K C t g ∧ t D σ H1) := by
      refine ⟨fun pins s1 σ H1 D I z => ?_⟩
      obtain ⟨C, t, p, _, z⟩ := z
      exact p.run pins s1 σ H1 D I z
    refine ⟨_, (pss_cons P1 P2).nox, ?_⟩
    obtain ⟨n, hn⟩ : ∃ n, N.length = n + 2 := ⟨N.length - 2, by omega⟩
    have es : L2.start N [.ref a] = some (.ref a) :: none :: List.replicate n none := by
      unfold L2.start
      rw [hn]
      show some (V.ref a) :: List.replicate (n + 2 - 1) none = _
      rw [show n + 2 - 1 = n + 1 by omega, List.replicate_succ]
    rw [es]
    rw [hn, show n + 2 - 2 = n by omega] at e2
    refine ⟨.ref a, rfl, ?_⟩
    refine ⟨H, [.scr ns], [.lst (nums.map .int), .int 0, .int 0, .int 0], Same.refl _, RpL.one ⟨a, rfl, hS⟩, (by show (sf ns).map _ = _; rw [e1]; rfl), fun p us H' G' F' hp rp gp hp0 => ?_⟩
    obtain ⟨t, pt, qt⟩ := h2 ⟨G', H', some p⟩ cdv A outer s H E hr
    refine ⟨⟨G', H', some p⟩, t, pt, qt, ?_⟩
    obtain ⟨v0, r0, rfl, h0, rp1⟩ := rp
    obtain ⟨v1, r1, rfl, h1', rp2⟩ := rp1
    obtain ⟨v2, r2, rfl, h2', rp3⟩ := rp2
    obtain ⟨v3, r3, rfl, h3', rp4⟩ := rp3
    obtain ⟨nb, us0, rfl, h3, h4⟩ := h0
    have e1' : v1 = .int 0 := h1'
    have e2' : v2 = .int 0 := h2'
    have e3' : v3 = .int 0 := h3'
    have e4' : r3 = [] := rp4
    subst e1' e2' e3' e4'
    refine qt G' H' _ _ (s := ⟨some (.dat (.scr ns)) :: some .spl :: List.replicate n none, ⟨nums, 0, 0, 0⟩⟩) ⟨F'.gh, fun b o e n => e, Same.refl _, fun b _ => rfl, ?_, ?_, ?_, ?_⟩ e2 _ ?_
    · simp
    · intro i v x q1 q2
      match i with
      | 0 =>
        cases q1
        cases q2
        exact ⟨_, rfl, a, rfl, F'.g.seq hS⟩
      | 1 =>
        cases q1
        cases q2
        exact ⟨p, rfl, rfl⟩
      | i + 2 =>
        have q3 : (List.replicate n (none : Option SV))[i]? = some x := by simpa using q2
        rw [List.getElem?_replicate] at q3
        split at q3
        · cases q3
          trivial
        · cases q3
    · intro i j b ds fs _ q1
      exfalso
      match i with
      | 0 => cases q1
      | 1 => cases q1
      | i + 2 =>
        have q3 : (List.replicate n (none : Option SV))[i]? = some (some (.own ds)) := by simpa using q1
        rw [List.getElem?_replicate] at q3
        split at q3 <;> cases q3
    · exact ⟨gp, nb, hp, ⟨nb, us0, rfl, h3, h4⟩⟩
    · intro v σ' H2 G2 g2 A2 rv
      have ev : v = .bl true := rv
      subst ev
      exact q H2
end
end FD

set_option maxRecDepth 100000
namespace FD
open PySem PySem.Spec PyProof.Rows L2
/-! ## the head's facts, and one more Bool over the written part -/
abbrev AlX : Type := He.AlD × Bool
def fragX (n : Nat) (g : Addr → Option Obj) : PySem.W.Frag := He.frG g (cStatics :: He.asD g n)
def obsX (n : Nat) (fa : List He.Fa) (fn : List He.DefD) (ex : PySem.W.Frag → Bool) (g : Addr → Option Obj) : AlX := (He.obsD fa fn (fragX n g), ex (fragX n g))
def hookX (n : Nat) (fa : List He.Fa) (fn : List He.DefD) (ex : PySem.W.Frag → Bool) : PySem.W.Hook where
  α := AlX
  obs := fun s => obsX n fa fn ex s.heap.get?
  val := fun _ => (He.valD fn, true)
  says := fun _ h => ∃ K : PySem.W.Frag, K.In h ∧ He.SaysD fa fn K ∧ ex K = true
  of := fun _ _ e => ⟨_, He.frG_in, congrArg (fun z : AlX => z.1) e, congrArg (fun z : AlX => z.2) e⟩
  keeps := fun _ _ _ ⟨K, hK, c⟩ k => ⟨K, PySem.W.Frag.In.keeps hK k, c⟩
def obT (n : Nat) (fa : List He.Fa) (fn : List He.DefD) (ex : PySem.W.Frag → Bool) (s : PySem.W.SharedT) : AlX := obsX n fa fn ex (HandSHeadRun.getT s)
theorem obT_eq (n : Nat) (fa : List He.Fa) (fn : List He.DefD) (ex : PySem.W.Frag → Bool) (s : PySem.W.SharedT) : obT n fa fn ex s = (hookX n fa fn ex).obs s.abs := by
  have e : HandSHeadRun.getT s = s.abs.heap.get? := funext (HandSHeadRun.getT_eq s)
  show obsX n fa fn ex (HandSHeadRun.getT s) = obsX n fa fn ex s.abs.heap.get?
  rw [e]
/-- a global that stands for a built-in of a module -/
def bltB (x : Str) (id : String) (K : PySem.W.Frag) : Bool := decide (PySem.W.nsIn K mainGlobals x = some (some (.builtin id)))
theorem blt_ok {K : PySem.W.Frag} {h : Heap} {mg : Str → Option Value} (X : K.In h) (G : h.Ns mainGlobals mg) {x : Str} {id : String} (c : bltB x id K = true) : mg x = some (.builtin id) := PySem.W.mg_of X G (of_decide_eq_true c)
theorem def_ok {P : Program} {w : World} {K : PySem.W.Frag} {mg : Str → Option Value} {base : Heap} {k : Nat} {x : Str} {st : Stmt} {f : Addr} {fd : FuncData} {ps : List Str} {sp : Sp} (F : L2.FunD K x x (defArgs st) (defBody st) (defScope st) [] [] f fd)
    (g : mg x = some (.ref f)) (ok : FnOk P w K mg base CX0 k f fd ps sp)
    (h : ∀ (kV doc pm : Value) (an : Option Addr) (cdv ct : Value) (us : List Value), us.length = ps.length → bindArgs (PySem.W.fnOf x x (defArgs st) (defBody st) (defScope st) .none kV doc pm an cdv ct) ⟨us, []⟩ = pure (ps.zip us)) :
    DefOk P w K mg base k x ps sp := ⟨f, fd, ok, g, F.kp, L2.FunD.bindsN F h⟩
end FD

set_option maxRecDepth 100000
set_option maxHeartbeats 4000000
namespace TS
open PySem L2 FD
/-! ## sizes -/
/-- below 2 ^ b in size -/
def Sz (b : Nat) (n : Int) : Prop := n.natAbs < 2 ^ b
instance (b : Nat) (n : Int) : Decidable (Sz b n) := inferInstanceAs (Decidable (n.natAbs < 2 ^ b))
theorem log2_lt_of {n k : Nat} (h : n < 2 ^ k) : n.log2 ≤ k := by
  by_cases h0 : n = 0
  · subst h0; simp
  · exact Nat.le_of_lt ((Nat.log2_lt h0).mpr h)
theorem fit_of {i j : Int} {a b : Nat} (ha : i.natAbs < 2 ^ a) (hb : j.natAbs < 2 ^ b) (h : a + b < 134217000 := by decide) : fitM i j = true := by
  have h1 := log2_lt_of ha
  have h2 := log2_lt_of hb
  exact decide_eq_true (by omega)
theorem mul_lt {i j : Int} {a b : Nat} (ha : i.natAbs < 2 ^ a) (hb : j.natAbs < 2 ^ b) : (i * j).natAbs < 2 ^ (a + b) := by
  rw [Int.natAbs_mul, Nat.pow_add]
  exact Nat.mul_lt_mul'' ha hb
theorem add_lt {i j : Int} {a : Nat} (ha : i.natAbs < 2 ^ a) (hb : j.natAbs < 2 ^ a) : (i + j).natAbs < 2 ^ (a + 1) := by
  rw [Nat.pow_succ]; omega
theorem sub_lt {i j : Int} {a : Nat} (ha : i.natAbs < 2 ^ a) (hb : j.natAbs < 2 ^ a) : (i - j).natAbs < 2 ^ (a + 1) := by
  rw [Nat.pow_succ]; omega
theorem neg_lt {i : Int} {a : Nat} (ha : i.natAbs < 2 ^ a) : (-i).natAbs < 2 ^ a := by omega
theorem lt_up {i : Int} {a b : Nat} (ha : i.natAbs < 2 ^ a) (h : a ≤ b := by decide) : i.natAbs < 2 ^ b := Nat.lt_of_lt_of_le ha (Nat.pow_le_pow_right (by decide) h)
/-! ## signs -/
def isg (n : Int) : Int := if 0 < n then 1 else if n < 0 then -1 else 0
def b_integer_sign : SF :=
  sSeq (sIf (tBl (e2 (eV 0) (eC (.int 0)) dGt)) (sRt (eC (.int 1))) (sNx))
  (sSeq (sIf (tBl (e2 (eV 0) (eC (.int 0)) dLt)) (sRt (e1 (eC (.int 1)) dNeg)) (sNx))
  (sRt (eC (.int 0))))
def m_integer_sign : List DV → Option DV
  | [.int n] => some (.int (isg n))
  | _ => none
theorem t_integer_sign : ∀ ds d, m_integer_sign ds = some d → bodyP 1 1 b_integer_sign ds = some d := by
  intro ds d h
  unfold m_integer_sign at h
  split at h
  · rename_i n
    cases h
    unfold isg
    by_cases h1 : 0 < n
    · simp [bodyP, b_integer_sign, sSeq, sIf, tBl, e2, eV, eC, dI, sRt, sNx, h1, e1, dNeg]
    · by_cases h2 : n < 0
      · simp [bodyP, b_integer_sign, sSeq, sIf, tBl, e2, eV, eC, dI, sRt, sNx, h1, h2, e1, dNeg]
      · simp [bodyP, b_integer_sign, sSeq, sIf, tBl, e2, eV, eC, dI, sRt, sNx, h1, h2, e1, dNeg]
  · cases h
def sgS (p q d : Int) : Int := if q * q * d < p * p then isg p else isg q
def b_surd_sign : SF :=
  sSeq (sIf (tBl (e2 (e2 (eV 0) (eV 0) dMul) (e2 (e2 (eV 1) (eV 1) dMul) (eV 2) dMul) dGt)) (sRt (eA (aCons (eV 0) (aNil)) m_integer_sign)) (sNx))
  (sRt (eA (aCons (eV 1) (aNil)) m_integer_sign))
def m_surd_sign : List DV → Option DV
  | [.int p, .int q, .int d] => if Sz 1000000 p ∧ Sz 1000000 q ∧ Sz 1000000 d then some (.int (sgS p q d)) else none
  | _ => none
theorem t_surd_sign : ∀ ds d, m_surd_sign ds = some d → bodyP 3 3 b_surd_sign ds = some d := by
  intro ds d h
  unfold m_surd_sign at h
  split at h
  · rename_i p q e
    split at h
    · rename_i hs
      obtain ⟨h1, h2, h3⟩ := hs
      cases h
      have f1 := fit_of h1 h1
      have f2 := fit_of h2 h2
      have f3 := fit_of (mul_lt h2 h2) h3
      unfold sgS
      by_cases h4 : q * q * e < p * p
      · simp [bodyP, b_surd_sign, sSeq, sIf, tBl, e2, eV, eC, dI, sRt, sNx, dMul, eA, aCons, aNil, f1, f2, f3, h4, m_integer_sign]
      · simp [bodyP, b_surd_sign, sSeq, sIf, tBl, e2, eV, eC, dI, sRt, sNx, dMul, eA, aCons, aNil, f1, f2, f3, h4, m_integer_sign]
    · cases h
  · cases h
end TS

set_option maxRecDepth 100000
set_option maxHeartbeats 4000000
namespace TS
open PySem L2 FD
theorem dEq_int (a b : Int) : dEq (.int a) (.int b) = some (.bl (a == b)) := rfl
theorem dNe_int (a b : Int) : dNe (.int a) (.int b) = some (.bl (!(a == b))) := rfl
theorem idx0 {α : Type} {a : α} {l : List α} : (a :: l)[0]? = some a := rfl
theorem idxS {α : Type} {a : α} {l : List α} {n : Nat} : (a :: l)[n + 1]? = l[n]? := rfl
local macro_rules | `(tactic| walk_at "fd") => `(tactic| simp only [bodyP, bodyS, sSeq, sIf, sNx, sRt, sAsg, sDr, sPar, sAug, tBl, tTr, tAn, tOo, tNo, eC, eV, eA, eIf, eAn, eOo, eNo, e1, e2, eIxN, FD.peek, aCons, aNil, gNm, gTp, gCo, gNi, dI, dAddI, dMulI, dAdd, dSub, dMul, dFdiv, dMod, dNeg, dGcd, dMax, dMin, dAbs, dSq, dEq_int, dNe_int, oTup, truD, List.length_cons, List.length_nil, List.map_cons, List.map_nil, List.cons_append, List.nil_append, List.replicate_succ, List.replicate_zero, List.getElem?_cons_zero, List.getElem?_cons_succ, List.set_cons_succ, List.set_cons_zero, Nat.reduceAdd, Nat.reduceSub, Nat.sub_self, if_true, decide_true, decide_false, Bool.not_true, Bool.not_false, Bool.false_eq_true, if_false, reduceCtorEq, *])
abbrev Num := Int × Int × Int × Int
def nm (x : Num) : DV := .tup [.int x.1, .int x.2.1, .int x.2.2.1, .int x.2.2.2]
def SzN (b : Nat) (x : Num) : Prop := Sz b x.1 ∧ Sz b x.2.1 ∧ Sz b x.2.2.1 ∧ Sz b x.2.2.2
/-! ## lowest terms -/
def gc (p q s : Int) : Int := (((p.natAbs.gcd q.natAbs).gcd s.natAbs : Nat) : Int)
def sgc (p q s : Int) : Int := if s < 0 then -gc p q s else gc p q s
def low (p q d s : Int) : Num := if q = 0 then (p.fdiv (sgc p q s), 0, 0, s.fdiv (sgc p q s)) else (p.fdiv (sgc p q s), q.fdiv (sgc p q s), d, s.fdiv (sgc p q s))
theorem gc_pos {p q s : Int} (h : s ≠ 0) : 0 < gc p q s := by
  unfold gc
  have : 0 < ((p.natAbs.gcd q.natAbs).gcd s.natAbs) := Nat.gcd_pos_of_pos_right _ (by omega)
  omega
theorem gc_le {p q s : Int} (h : s ≠ 0) : (gc p q s).natAbs ≤ s.natAbs := by
  unfold gc
  have : ((p.natAbs.gcd q.natAbs).gcd s.natAbs) ≤ s.natAbs := Nat.gcd_le_right _ (by omega)
  omega
theorem sgc_ne {p q s : Int} (h : s ≠ 0) : sgc p q s ≠ 0 := by
  have := gc_pos (p := p) (q := q) h
  unfold sgc
  split <;> omega
theorem sgc_le {p q s : Int} (h : s ≠ 0) : (sgc p q s).natAbs ≤ s.natAbs := by
  have := gc_le (p := p) (q := q) h
  unfold sgc
  split <;> omega
theorem div_ok {c : Int} (h : c ≠ 0) (h9 : c.natAbs < 2 ^ 8999) : (c ≠ 0 ∧ c.natAbs.log2 < 9000) := ⟨h, by have := log2_lt_of h9; omega⟩
def b_lowest : SF :=
  sSeq (sAsg (eA (aCons (eV 0) (aCons (eV 1) (aCons (eV 3) (aNil)))) dGcd) (gNm 4))
  (sSeq (sIf (tBl (e2 (eV 3) (eC (.int 0)) dLt)) (sAsg (e1 (eV 4) dNeg) (gNm 4)) (sNx))
  (sSeq (sIf (tBl (e2 (eV 1) (eC (.int 0)) dEq)) (sRt (eA (aCons (e2 (eV 0) (eV 4) dFdiv) (aCons (eC (.int 0)) (aCons (eC (.int 0)) (aCons (e2 (eV 3) (eV 4) dFdiv) (aNil))))) oTup)) (sNx))
  (sRt (eA (aCons (e2 (eV 0) (eV 4) dFdiv) (aCons (e2 (eV 1) (eV 4) dFdiv) (aCons (eV 2) (aCons (e2 (eV 3) (eV 4) dFdiv) (aNil))))) oTup))))
def m_lowest : List DV → Option DV
  | [.int p, .int q, .int d, .int s] => if s ≠ 0 ∧ s.natAbs < 2 ^ 8999 then some (nm (low p q d s)) else none
  | _ => none
theorem t_lowest : ∀ ds d, m_lowest ds = some d → bodyP 4 5 b_lowest ds = some d := by
  intro ds d h
  unfold m_lowest at h
  split at h
  · rename_i p q e s
    split at h
    · rename_i hs
      obtain ⟨h1, h2⟩ := hs
      cases h
      have hc : decide (sgc p q s ≠ 0 ∧ (sgc p q s).natAbs.log2 < 9000) = true := decide_eq_true (div_ok (sgc_ne h1) (Nat.lt_of_le_of_lt (sgc_le h1) h2))
      have hl : (4 : Nat) ≤ sizeLine := by decide
      by_cases h3 : s < 0
      · have e1' : -((((p.natAbs.gcd q.natAbs).gcd s.natAbs : Nat)) : Int) = sgc p q s := by unfold sgc gc; rw [if_pos h3]
        by_cases h4 : q = 0
        · have h5 : (q == 0) = true := beq_iff_eq.mpr h4
          rw [show low p q e s = _ from if_pos h4]
          clear h4
          unfold nm b_lowest
          walk_at "fd"
        · have h5 : (q == 0) = false := beq_eq_false_iff_ne.mpr h4
          rw [show low p q e s = _ from if_neg h4]
          clear h4
          unfold nm b_lowest
          walk_at "fd"
      · have e1' : (((((p.natAbs.gcd q.natAbs).gcd s.natAbs : Nat)) : Int)) = sgc p q s := by unfold sgc gc; rw [if_neg h3]
        by_cases h4 : q = 0
        · have h5 : (q == 0) = true := beq_iff_eq.mpr h4
          rw [show low p q e s = _ from if_pos h4]
          clear h4
          unfold nm b_lowest
          walk_at "fd"
        · have h5 : (q == 0) = false := beq_eq_false_iff_ne.mpr h4
          rw [show low p q e s = _ from if_neg h4]
          clear h4
          unfold nm b_lowest
          walk_at "fd"
    · cases h
  · cases h
end TS

set_option maxRecDepth 100000
set_option maxHeartbeats 4000000
set_option exponentiation.threshold 10000
namespace TS
open PySem L2 FD
local macro_rules | `(tactic| walk_at "fd") => `(tactic| simp only [bodyP, bodyS, sSeq, sIf, sNx, sRt, sAsg, sDr, sPar, sAug, tBl, tTr, tAn, tOo, tNo, eC, eV, eA, eIf, eAn, eOo, eNo, e1, e2, eIxN, FD.peek, aCons, aNil, gNm, gTp, gCo, gNi, dI, dAddI, dMulI, dAdd, dSub, dMul, dFdiv, dMod, dNeg, dGcd, dMax, dMin, dAbs, dSq, dEq_int, dNe_int, dIx, oTup, truD, List.length_cons, List.length_nil, List.map_cons, List.map_nil, List.cons_append, List.nil_append, List.replicate_succ, List.replicate_zero, List.getElem?_cons_zero, List.getElem?_cons_succ, List.set_cons_succ, List.set_cons_zero, Nat.reduceAdd, Nat.reduceSub, Nat.sub_self, if_true, decide_true, decide_false, Bool.not_true, Bool.not_false, Bool.false_eq_true, if_false, reduceCtorEq, *])
theorem four_le : (4 : Nat) ≤ sizeLine := by decide
theorem two_le : (2 : Nat) ≤ sizeLine := by decide
theorem beq_t {a b : Int} (h : a = b) : (a == b) = true := beq_iff_eq.mpr h
theorem beq_f {a b : Int} (h : a ≠ b) : (a == b) = false := beq_eq_false_iff_ne.mpr h
def b_sign : SF :=
  sRt (eA (aCons (eIxN 0 (eC (.int 0))) (aCons (eIxN 0 (eC (.int 1))) (aCons (eIxN 0 (eC (.int 2))) (aNil)))) m_surd_sign)
def m_sign : List DV → Option DV
  | [.tup [.int p, .int q, .int d, .int s]] => if Sz 1000000 p ∧ Sz 1000000 q ∧ Sz 1000000 d then some (.int (sgS p q d)) else none
  | _ => none
theorem t_sign : ∀ ds d, m_sign ds = some d → bodyP 1 1 b_sign ds = some d := by
  intro ds d h
  unfold m_sign at h
  split at h
  · rename_i p q e s
    have h1 : m_surd_sign [.int p, .int q, .int e] = some d := h
    clear h
    have i0 : atI [DV.int p, .int q, .int e, .int s] 0 = some (.int p) := rfl
    have i1 : atI [DV.int p, .int q, .int e, .int s] 1 = some (.int q) := rfl
    have i2 : atI [DV.int p, .int q, .int e, .int s] 2 = some (.int e) := rfl
    unfold b_sign
    walk_at "fd"
  · cases h
def b_opposite : SF :=
  sSeq (sAsg (eV 0) (gTp 4 (gCo (gNm 1) (gCo (gNm 2) (gCo (gNm 3) (gCo (gNm 4) (gNi)))))))
  (sRt (eA (aCons (e1 (eV 1) dNeg) (aCons (e1 (eV 2) dNeg) (aCons (eV 3) (aCons (eV 4) (aNil))))) oTup))
def m_opposite : List DV → Option DV
  | [.tup [.int p, .int q, .int d, .int s]] => some (nm (-p, -q, d, s))
  | _ => none
theorem t_opposite : ∀ ds d, m_opposite ds = some d → bodyP 1 5 b_opposite ds = some d := by
  intro ds d h
  unfold m_opposite at h
  split at h
  · cases h
    have h4 := four_le
    unfold b_opposite nm
    walk_at "fd"
  · cases h
def rootOf (d e : Int) : Int := if e > d then e else d
def b_common_root : SF :=
  sSeq (sAsg (eIxN 0 (eC (.int 2))) (gNm 2))
  (sSeq (sAsg (eIxN 1 (eC (.int 2))) (gNm 3))
  (sSeq (sIf (tAn (tBl (e2 (eV 2) (eV 3) dNe)) (tAn (tBl (e2 (eV 2) (eC (.int 0)) dNe)) (tBl (e2 (eV 3) (eC (.int 0)) dNe)))) (sNo) (sNx))
  (sRt (eA (aCons (eV 2) (aCons (eV 3) (aNil))) dMax))))
def m_common_root : List DV → Option DV
  | [.tup [.int p, .int q, .int d, .int s], .tup [.int p', .int q', .int d', .int s']] => if d = d' ∨ d = 0 ∨ d' = 0 then some (.int (rootOf d d')) else none
  | _ => none
theorem t_common_root : ∀ ds d, m_common_root ds = some d → bodyP 2 4 b_common_root ds = some d := by
  intro ds d h
  unfold m_common_root at h
  split at h
  · rename_i p q e s p' q' e' s'
    split at h
    · rename_i hc
      cases h
      have i0 : atI [DV.int p, .int q, .int e, .int s] 2 = some (.int e) := rfl
      have i1 : atI [DV.int p', .int q', .int e', .int s'] 2 = some (.int e') := rfl
      unfold b_common_root rootOf
      by_cases h1 : e = e'
      · have h1' := beq_t h1
        clear h1 hc
        simp only [bodyP, sSeq, sIf, sNx, sRt, sAsg, tBl, tAn, eC, eV, eA, e2, eIxN, FD.peek, aCons, aNil, gNm, dMax, dIx, dNe_int, List.length_cons, List.length_nil, List.map_cons, List.map_nil, List.cons_append, List.nil_append, List.replicate_succ, List.replicate_zero, List.getElem?_cons_zero, List.getElem?_cons_succ, List.set_cons_succ, List.set_cons_zero, Nat.reduceAdd, Nat.reduceSub, if_true, Bool.not_true, Bool.not_false, i0, i1, h1']
      · have h1' := beq_f h1
        by_cases h2 : e = 0
        · have h2' := beq_t h2
          clear h1 hc h2
          simp only [bodyP, sSeq, sIf, sNx, sRt, sAsg, tBl, tAn, eC, eV, eA, e2, eIxN, FD.peek, aCons, aNil, gNm, dMax, dIx, dNe_int, List.length_cons, List.length_nil, List.map_cons, List.map_nil, List.cons_append, List.nil_append, List.replicate_succ, List.replicate_zero, List.getElem?_cons_zero, List.getElem?_cons_succ, List.set_cons_succ, List.set_cons_zero, Nat.reduceAdd, Nat.reduceSub, if_true, Bool.not_true, Bool.not_false, i0, i1, h1', h2']
        · have h3 : e' = 0 := by rcases hc with h | h | h <;> first | exact absurd h h1 | exact absurd h h2 | exact h
          have h2' := beq_f h2
          have h3' := beq_t h3
          clear h1 hc h2 h3
          simp only [bodyP, sSeq, sIf, sNx, sRt, sAsg, tBl, tAn, eC, eV, eA, e2, eIxN, FD.peek, aCons, aNil, gNm, dMax, dIx, dNe_int, List.length_cons, List.length_nil, List.map_cons, List.map_nil, List.cons_append, List.nil_append, List.replicate_succ, List.replicate_zero, List.getElem?_cons_zero, List.getElem?_cons_succ, List.set_cons_succ, List.set_cons_zero, Nat.reduceAdd, Nat.reduceSub, if_true, Bool.not_true, Bool.not_false, i0, i1, h1', h2', h3']
    · cases h
  · cases h
/-- the sum and the product, as the text reckons them -/
def addN (x y : Num) : Num := low (x.1 * y.2.2.2 + y.1 * x.2.2.2) (x.2.1 * y.2.2.2 + y.2.1 * x.2.2.2) (rootOf x.2.2.1 y.2.2.1) (x.2.2.2 * y.2.2.2)
def mulN (x y : Num) : Num := low (x.1 * y.1 + x.2.1 * y.2.1 * rootOf x.2.2.1 y.2.2.1) (x.1 * y.2.1 + x.2.1 * y.1) (rootOf x.2.2.1 y.2.2.1) (x.2.2.2 * y.2.2.2)
def negN (x : Num) : Num := (-x.1, -x.2.1, x.2.2.1, x.2.2.2)
def okPair (x y : Num) : Prop := (x.2.2.1 = y.2.2.1 ∨ x.2.2.1 = 0 ∨ y.2.2.1 = 0) ∧ x.2.2.2 ≠ 0 ∧ y.2.2.2 ≠ 0 ∧ SzN 4000 x ∧ SzN 4000 y
instance (b : Nat) (x : Num) : Decidable (SzN b x) := by unfold SzN; exact inferInstance
instance (x y : Num) : Decidable (okPair x y) := by unfold okPair SzN; exact inferInstance
theorem root_sz {x y : Num} {b : Nat} (h1 : SzN b x) (h2 : SzN b y) : (rootOf x.2.2.1 y.2.2.1).natAbs < 2 ^ b := by
  unfold rootOf
  split
  · exact h2.2.2.1
  · exact h1.2.2.1
def b_plus : SF :=
  sSeq (sAsg (eA (aCons (eV 0) (aCons (eV 1) (aNil))) m_common_root) (gNm 2))
  (sSeq (sAsg (eV 0) (gTp 4 (gCo (gNm 3) (gCo (gNm 4) (gCo (gNm 5) (gCo (gNm 6) (gNi)))))))
  (sSeq (sAsg (eV 1) (gTp 4 (gCo (gNm 7) (gCo (gNm 8) (gCo (gNm 5) (gCo (gNm 9) (gNi)))))))
  (sRt (eA (aCons (e2 (e2 (eV 3) (eV 9) dMul) (e2 (eV 7) (eV 6) dMul) dAdd) (aCons (e2 (e2 (eV 4) (eV 9) dMul) (e2 (eV 8) (eV 6) dMul) dAdd) (aCons (eV 2) (aCons (e2 (eV 6) (eV 9) dMul) (aNil))))) m_lowest))))
def m_plus : List DV → Option DV
  | [.tup [.int p, .int q, .int d, .int s], .tup [.int p', .int q', .int d', .int s']] => if okPair (p, q, d, s) (p', q', d', s') then some (nm (addN (p, q, d, s) (p', q', d', s'))) else none
  | _ => none
theorem t_plus : ∀ ds d, m_plus ds = some d → bodyP 2 10 b_plus ds = some d := by
  intro ds d h
  unfold m_plus at h
  split at h
  · rename_i p q e s p' q' e' s'
    split at h
    · rename_i ok
      obtain ⟨hc, hs, hs', ⟨z1, z2, z3, z4⟩, z5, z6, z7, z8⟩ := ok
      cases h
      have c1 : m_common_root [.tup [.int p, .int q, .int e, .int s], .tup [.int p', .int q', .int e', .int s']] = some (.int (rootOf e e')) := if_pos hc
      have f1 := fit_of z1 z8
      have f2 := fit_of z5 z4
      have f3 := fit_of z2 z8
      have f4 := fit_of z6 z4
      have f5 := fit_of z4 z8
      have c2 : m_lowest [.int (p * s' + p' * s), .int (q * s' + q' * s), .int (rootOf e e'), .int (s * s')] = some (nm (low (p * s' + p' * s) (q * s' + q' * s) (rootOf e e') (s * s'))) :=
        if_pos ⟨Int.mul_ne_zero hs hs', lt_up (mul_lt z4 z8)⟩
      clear hc hs hs' z1 z2 z3 z4 z5 z6 z7 z8
      unfold b_plus addN
      walk_at "fd"
    · cases h
  · cases h
def b_times : SF :=
  sSeq (sAsg (eA (aCons (eV 0) (aCons (eV 1) (aNil))) m_common_root) (gNm 2))
  (sSeq (sAsg (eV 0) (gTp 4 (gCo (gNm 3) (gCo (gNm 4) (gCo (gNm 5) (gCo (gNm 6) (gNi)))))))
  (sSeq (sAsg (eV 1) (gTp 4 (gCo (gNm 7) (gCo (gNm 8) (gCo (gNm 5) (gCo (gNm 9) (gNi)))))))
  (sRt (eA (aCons (e2 (e2 (eV 3) (eV 7) dMul) (e2 (e2 (eV 4) (eV 8) dMul) (eV 2) dMul) dAdd) (aCons (e2 (e2 (eV 3) (eV 8) dMul) (e2 (eV 4) (eV 7) dMul) dAdd) (aCons (eV 2) (aCons (e2 (eV 6) (eV 9) dMul) (aNil))))) m_lowest))))
def m_times : List DV → Option DV
  | [.tup [.int p, .int q, .int d, .int s], .tup [.int p', .int q', .int d', .int s']] => if okPair (p, q, d, s) (p', q', d', s') then some (nm (mulN (p, q, d, s) (p', q', d', s'))) else none
  | _ => none
theorem t_times : ∀ ds d, m_times ds = some d → bodyP 2 10 b_times ds = some d := by
  intro ds d h
  unfold m_times at h
  split at h
  · rename_i p q e s p' q' e' s'
    split at h
    · rename_i ok
      have hr := root_sz ok.2.2.2.1 ok.2.2.2.2
      obtain ⟨hc, hs, hs', ⟨z1, z2, z3, z4⟩, z5, z6, z7, z8⟩ := ok
      cases h
      have c1 : m_common_root [.tup [.int p, .int q, .int e, .int s], .tup [.int p', .int q', .int e', .int s']] = some (.int (rootOf e e')) := if_pos hc
      have f1 := fit_of z1 z5
      have f2 := fit_of z2 z6
      have f3 := fit_of (mul_lt z2 z6) hr
      have f4 := fit_of z1 z6
      have f5 := fit_of z2 z5
      have f6 := fit_of z4 z8
      have c2 : m_lowest [.int (p * p' + q * q' * rootOf e e'), .int (p * q' + q * p'), .int (rootOf e e'), .int (s * s')] = some (nm (low (p * p' + q * q' * rootOf e e') (p * q' + q * p') (rootOf e e') (s * s'))) :=
        if_pos ⟨Int.mul_ne_zero hs hs', lt_up (mul_lt z4 z8)⟩
      clear hc hs hs' z1 z2 z3 z4 z5 z6 z7 z8 hr
      unfold b_times mulN
      walk_at "fd"
    · cases h
  · cases h
def b_minus : SF :=
  sRt (eA (aCons (eV 0) (aCons (eA (aCons (eV 1) (aNil)) m_opposite) (aNil))) m_plus)
def m_minus : List DV → Option DV
  | [.tup [.int p, .int q, .int d, .int s], .tup [.int p', .int q', .int d', .int s']] => if okPair (p, q, d, s) (negN (p', q', d', s')) then some (nm (addN (p, q, d, s) (negN (p', q', d', s')))) else none
  | _ => none
theorem t_minus : ∀ ds d, m_minus ds = some d → bodyP 2 2 b_minus ds = some d := by
  intro ds d h
  unfold m_minus at h
  split at h
  · rename_i p q e s p' q' e' s'
    have c1 : m_opposite [.tup [.int p', .int q', .int e', .int s']] = some (.tup [.int (-p'), .int (-q'), .int e', .int s']) := rfl
    have c2 : m_plus [.tup [.int p, .int q, .int e, .int s], .tup [.int (-p'), .int (-q'), .int e', .int s']] = some d := h
    clear h
    unfold b_minus
    walk_at "fd"
  · cases h
def invN (x : Num) : Num := low (x.1 * x.2.2.2) (-x.2.1 * x.2.2.2) x.2.2.1 (x.1 * x.1 - x.2.1 * x.2.1 * x.2.2.1)
def b_over : SF :=
  sSeq (sAsg (eV 1) (gTp 4 (gCo (gNm 2) (gCo (gNm 3) (gCo (gNm 4) (gCo (gNm 5) (gNi)))))))
  (sSeq (sIf (tAn (tBl (e2 (eV 2) (eC (.int 0)) dEq)) (tBl (e2 (eV 3) (eC (.int 0)) dEq))) (sNo) (sNx))
  (sRt (eA (aCons (eV 0) (aCons (eA (aCons (e2 (eV 2) (eV 5) dMul) (aCons (e2 (e1 (eV 3) dNeg) (eV 5) dMul) (aCons (eV 4) (aCons (e2 (e2 (eV 2) (eV 2) dMul) (e2 (e2 (eV 3) (eV 3) dMul) (eV 4) dMul) dSub) (aNil))))) m_lowest) (aNil))) m_times)))
def m_over : List DV → Option DV
  | [.tup [.int p, .int q, .int d, .int s], .tup [.int p', .int q', .int d', .int s']] => if (p' ≠ 0 ∨ q' ≠ 0) ∧ p' * p' - q' * q' * d' ≠ 0 ∧ SzN 1200 (p', q', d', s') ∧ okPair (p, q, d, s) (invN (p', q', d', s')) then some (nm (mulN (p, q, d, s) (invN (p', q', d', s')))) else none
  | _ => none
theorem t_over : ∀ ds d, m_over ds = some d → bodyP 2 6 b_over ds = some d := by
  intro ds d h
  unfold m_over at h
  split at h
  · rename_i p q e s p' q' e' s'
    split at h
    · rename_i ok
      obtain ⟨hz, hn, ⟨z1, z2, z3, z4⟩, ok⟩ := ok
      cases h
      have hnz : (p' * p' - q' * q' * e').natAbs < 2 ^ 8999 := lt_up (sub_lt (lt_up (mul_lt z1 z1) (b := 3600)) (mul_lt (mul_lt z2 z2) z3))
      have c2 : m_lowest [.int (p' * s'), .int (-q' * s'), .int e', .int (p' * p' - q' * q' * e')] = some (nm (invN (p', q', e', s'))) := if_pos ⟨hn, hnz⟩
      have c3 : m_times [.tup [.int p, .int q, .int e, .int s], nm (invN (p', q', e', s'))] = some (nm (mulN (p, q, e, s) (invN (p', q', e', s')))) := if_pos ok
      have f1 := fit_of z1 z4
      have f2 := fit_of (neg_lt z2) z4
      have f3 := fit_of z1 z1
      have f4 := fit_of z2 z2
      have f5 := fit_of (mul_lt z2 z2) z3
      unfold b_over
      by_cases h1 : p' = 0
      · have h2 : q' ≠ 0 := by rcases hz with h | h; exact absurd h1 h; exact h
        have h1' := beq_t h1
        have h2' := beq_f h2
        clear hz hn z1 z2 z3 z4 ok hnz h1 h2
        walk_at "fd"
      · have h1' := beq_f h1
        clear hz hn z1 z2 z3 z4 ok hnz h1
        walk_at "fd"
    · cases h
  · cases h
end TS

set_option maxRecDepth 100000
set_option maxHeartbeats 4000000
set_option exponentiation.threshold 10000
namespace TS
open PySem L2 FD
local macro_rules | `(tactic| walk_at "fd") => `(tactic| simp only [bodyP, bodyS, sSeq, sIf, sNx, sRt, sAsg, sDr, sPar, sAug, sSp, eSp, tBl, tTr, tAn, tOo, tNo, eC, eV, eA, eIf, eAn, eOo, eNo, e1, e2, eIxN, FD.peek, aCons, aNil, gNm, gTp, gCo, gNi, dI, dAddI, dMulI, dAdd, dSub, dMul, dFdiv, dMod, dNeg, dGcd, dMax, dMin, dAbs, dSq, dEq_int, dNe_int, dIx, oTup, truD, List.length_cons, List.length_nil, List.map_cons, List.map_nil, List.cons_append, List.nil_append, List.replicate_succ, List.replicate_zero, List.getElem?_cons_zero, List.getElem?_cons_succ, List.set_cons_succ, List.set_cons_zero, Nat.reduceAdd, Nat.reduceSub, Nat.sub_self, if_true, decide_true, decide_false, Bool.not_true, Bool.not_false, Bool.false_eq_true, if_false, reduceCtorEq, *])
/-! ## floor, compare -/
def sq (n : Int) : Int := ((Float64.isqrt n.toNat : Nat) : Int)
def flo (p q d s : Int) : Int := if q < 0 then (p - sq (q * q * d) - 1).fdiv s else (p + sq (q * q * d)).fdiv s
def okFl (p q d s : Int) : Prop := s ≠ 0 ∧ 0 ≤ q * q * d ∧ Sz 4000 p ∧ Sz 4000 q ∧ Sz 4000 d ∧ Sz 4000 s
instance (p q d s : Int) : Decidable (okFl p q d s) := by unfold okFl; exact inferInstance
def b_floor : SF :=
  sSeq (sAsg (eV 0) (gTp 4 (gCo (gNm 1) (gCo (gNm 2) (gCo (gNm 3) (gCo (gNm 4) (gNi)))))))
  (sSeq (sAsg (eA (aCons (e2 (e2 (eV 2) (eV 2) dMul) (eV 3) dMul) (aNil)) dSq) (gNm 5))
  (sSeq (sIf (tBl (e2 (eV 2) (eC (.int 0)) dLt)) (sRt (e2 (e2 (e2 (eV 1) (eV 5) dSub) (eC (.int 1)) dSub) (eV 4) dFdiv)) (sNx))
  (sRt (e2 (e2 (eV 1) (eV 5) dAdd) (eV 4) dFdiv))))
def m_floor : List DV → Option DV
  | [.tup [.int p, .int q, .int d, .int s]] => if okFl p q d s then some (.int (flo p q d s)) else none
  | _ => none
theorem t_floor : ∀ ds d, m_floor ds = some d → bodyP 1 6 b_floor ds = some d := by
  intro ds d h
  unfold m_floor at h
  split at h
  · rename_i p q e s
    split at h
    · rename_i ok
      obtain ⟨hs, h0, z1, z2, z3, z4⟩ := ok
      cases h
      have f1 := fit_of z2 z2
      have f2 := fit_of (mul_lt z2 z2) z3
      have hq : okSq (q * q * e) = true := by
        have := log2_lt_of (mul_lt (mul_lt z2 z2) z3)
        refine decide_eq_true ⟨h0, ?_⟩
        have e : (q * q * e).toNat = (q * q * e).natAbs := by omega
        rw [e]; omega
      have hc : decide (s ≠ 0 ∧ s.natAbs.log2 < 9000) = true := decide_eq_true (div_ok hs (lt_up z4))
      have e1' : ((Float64.isqrt (q * q * e).toNat : Nat) : Int) = sq (q * q * e) := rfl
      unfold b_floor flo
      clear hs h0 z1 z2 z3 z4
      by_cases h1 : q < 0
      · walk_at "fd"
      · walk_at "fd"
    · cases h
  · cases h
theorem surd_ok {p q d : Int} (h1 : Sz 1000000 p) (h2 : Sz 1000000 q) (h3 : Sz 1000000 d) : m_surd_sign [.int p, .int q, .int d] = some (.int (sgS p q d)) := by
  unfold m_surd_sign
  simp only [h1, h2, h3, and_self, if_true]
def cmpN (x y : Num) : Int :=
  let whole := x.1 * y.2.2.2 - y.1 * x.2.2.2
  let left := x.2.1 * y.2.2.2
  let right := -y.2.1 * x.2.2.2
  if x.2.2.1 = y.2.2.1 then sgS whole (left + right) x.2.2.1 else
  if sgS whole left x.2.2.1 = isg right ∨ isg right = 0 then sgS whole left x.2.2.1 else
  if sgS whole left x.2.2.1 = 0 then isg right else
  sgS whole left x.2.2.1 * sgS (whole * whole + left * left * x.2.2.1 - right * right * y.2.2.1) (2 * whole * left) x.2.2.1
theorem isg_sz (n : Int) : (isg n).natAbs < 2 ^ 2 := by unfold isg; split <;> (try split) <;> decide
theorem sgS_sz (p q d : Int) : (sgS p q d).natAbs < 2 ^ 2 := by unfold sgS; split <;> exact isg_sz _
def b_compare : SF :=
  sSeq (sAsg (eV 0) (gTp 4 (gCo (gNm 2) (gCo (gNm 3) (gCo (gNm 4) (gCo (gNm 5) (gNi)))))))
  (sSeq (sAsg (eV 1) (gTp 4 (gCo (gNm 6) (gCo (gNm 7) (gCo (gNm 8) (gCo (gNm 9) (gNi)))))))
  (sSeq (sAsg (e2 (e2 (eV 2) (eV 9) dMul) (e2 (eV 6) (eV 5) dMul) dSub) (gNm 10))
  (sSeq (sAsg (e2 (eV 3) (eV 9) dMul) (gNm 11))
  (sSeq (sAsg (e2 (e1 (eV 7) dNeg) (eV 5) dMul) (gNm 12))
  (sSeq (sIf (tBl (e2 (eV 4) (eV 8) dEq)) (sRt (eA (aCons (eV 10) (aCons (e2 (eV 11) (eV 12) dAdd) (aCons (eV 4) (aNil)))) m_surd_sign)) (sNx))
  (sSeq (sAsg (eA (aCons (eV 10) (aCons (eV 11) (aCons (eV 4) (aNil)))) m_surd_sign) (gNm 13))
  (sSeq (sAsg (eA (aCons (eV 12) (aNil)) m_integer_sign) (gNm 14))
  (sSeq (sIf (tOo (tBl (e2 (eV 13) (eV 14) dEq)) (tBl (e2 (eV 14) (eC (.int 0)) dEq))) (sRt (eV 13)) (sNx))
  (sSeq (sIf (tBl (e2 (eV 13) (eC (.int 0)) dEq)) (sRt (eV 14)) (sNx))
  (sSeq (sAsg (e2 (e2 (e2 (eV 10) (eV 10) dMul) (e2 (e2 (eV 11) (eV 11) dMul) (eV 4) dMul) dAdd) (e2 (e2 (eV 12) (eV 12) dMul) (eV 8) dMul) dSub) (gNm 15))
  (sRt (e2 (eV 13) (eA (aCons (eV 15) (aCons (e2 (e2 (eC (.int 2)) (eV 10) dMul) (eV 11) dMul) (aCons (eV 4) (aNil)))) m_surd_sign) dMul))))))))))))
def m_compare : List DV → Option DV
  | [.tup [.int p, .int q, .int d, .int s], .tup [.int p', .int q', .int d', .int s']] => if SzN 4000 (p, q, d, s) ∧ SzN 4000 (p', q', d', s') then some (.int (cmpN (p, q, d, s) (p', q', d', s'))) else none
  | _ => none
theorem t_compare : ∀ ds d, m_compare ds = some d → bodyP 2 16 b_compare ds = some d := by
  intro ds d h
  unfold m_compare at h
  split at h
  · rename_i p q e s p' q' e' s'
    split at h
    · rename_i ok
      obtain ⟨⟨z1, z2, z3, z4⟩, z5, z6, z7, z8⟩ := ok
      cases h
      have f1 := fit_of z1 z8
      have f2 := fit_of z5 z4
      have f3 := fit_of z2 z8
      have f4 := fit_of (neg_lt z6) z4
      have w1 := sub_lt (mul_lt z1 z8) (mul_lt z5 z4)
      have w2 := mul_lt z2 z8
      have w3 := mul_lt (neg_lt z6) z4
      unfold cmpN
      dsimp only
      generalize hW : p * s' - p' * s = W at *
      generalize hL : q * s' = L at *
      generalize hR : -q' * s = R at *
      have c1 : m_surd_sign [.int W, .int (L + R), .int e] = some (.int (sgS W (L + R) e)) := surd_ok (lt_up w1) (lt_up (add_lt w2 w3)) (lt_up z3)
      have c2 : m_surd_sign [.int W, .int L, .int e] = some (.int (sgS W L e)) := surd_ok (lt_up w1) (lt_up w2) (lt_up z3)
      have c3 : m_integer_sign [.int R] = some (.int (isg R)) := rfl
      have f5 := fit_of w1 w1
      have f6 := fit_of w2 w2
      have f7 := fit_of (mul_lt w2 w2) z3
      have f8 := fit_of w3 w3
      have f9 := fit_of (mul_lt w3 w3) z7
      have f10 : fitM 2 W = true := fit_of (a := 2) (by decide) w1
      have w4 : (2 * W).natAbs < 2 ^ (2 + (4000 + 4000 + 1)) := mul_lt (by decide) w1
      have f11 := fit_of w4 w2
      have f12 := fit_of (sgS_sz W L e) (sgS_sz (W * W + L * L * e - R * R * e') (2 * W * L) e)
      have w5 : (W * W).natAbs < 2 ^ 30000 := lt_up (mul_lt w1 w1)
      have w6 : (L * L * e).natAbs < 2 ^ 30000 := lt_up (mul_lt (mul_lt w2 w2) z3)
      have w7 : (R * R * e').natAbs < 2 ^ 30001 := lt_up (mul_lt (mul_lt w3 w3) z7)
      have w9 : (W * W + L * L * e - R * R * e').natAbs < 2 ^ 30002 := sub_lt (add_lt w5 w6) w7
      have w10 : (2 * W * L).natAbs < 2 ^ 30000 := lt_up (mul_lt w4 w2)
      have c4 : m_surd_sign [.int (W * W + L * L * e - R * R * e'), .int (2 * W * L), .int e] = some (.int (sgS (W * W + L * L * e - R * R * e') (2 * W * L) e)) :=
        surd_ok (lt_up w9) (lt_up w10) (lt_up z3)
      clear z1 z2 z3 z4 z5 z6 z7 z8 w1 w2 w3 w4 w5 w6 w7 w9 w10
      unfold b_compare
      by_cases h1 : e = e'
      · have h1' := beq_t h1
        rw [if_pos h1]
        clear h1
        walk_at "fd"
      · have h1' := beq_f h1
        rw [if_neg h1]
        clear h1
        by_cases h2 : sgS W L e = isg R
        · have h2' := beq_t h2
          rw [if_pos (.inl h2)]
          clear h2
          walk_at "fd"
        · have h2' := beq_f h2
          by_cases h3 : isg R = 0
          · have h3' := beq_t h3
            rw [if_pos (.inr h3)]
            clear h2 h3
            walk_at "fd"
          · have h3' := beq_f h3
            rw [if_neg (fun z => z.elim h2 h3)]
            by_cases h4 : sgS W L e = 0
            · have h4' := beq_t h4
              rw [if_pos h4]
              clear h2 h3 h4
              walk_at "fd"
            · have h4' := beq_f h4
              rw [if_neg h4]
              clear h2 h3 h4
              walk_at "fd"
    · cases h
  · cases h
/-! ## the spool -/
def Md : Int := 1180591620717411303449
def stirStep (place v turn : Int) : Int := (v * v + 3 * v + 32452843 * turn + place).fmod Md
def stir0 (cell place : Int) : Int := (cell * 2685821657736338717 + place * 2891336453 + 19).fmod Md
def stirV (cell place : Int) : Int := stirStep place (stirStep place (stirStep place (stirStep place (stir0 cell place) 0) 1) 2) 3
def stir (cell place : Int) : Int := stirV cell place * Md + (stirV cell place * 1103515245 + place).fmod Md
theorem fmod_sz (a : Int) : (a.fmod Md).natAbs < 2 ^ 71 := by
  have h1 := Int.fmod_nonneg_of_pos a (show (0 : Int) < Md by decide)
  have h2 := Int.fmod_lt_of_pos a (show (0 : Int) < Md by decide)
  have h3 : Md < 2 ^ 71 := by decide
  omega
theorem md_ne : (Md ≠ 0) = True := by decide
def b_law_stirred : SF :=
  sSeq (sAsg (eC (.int 1180591620717411303449)) (gNm 2))
  (sSeq (sAsg (e2 (e2 (e2 (e2 (eV 0) (eC (.int 2685821657736338717)) dMul) (e2 (eV 1) (eC (.int 2891336453)) dMul) dAdd) (eC (.int 19)) dAdd) (eV 2) dMod) (gNm 3))
  (sSeq (sFr (iRg1 (aCons (eC (.int 4)) (aNil))) (gNm 4) (sAsg (e2 (e2 (e2 (e2 (e2 (eV 3) (eV 3) dMul) (e2 (eC (.int 3)) (eV 3) dMul) dAdd) (e2 (eC (.int 32452843)) (eV 4) dMul) dAdd) (eV 1) dAdd) (eV 2) dMod) (gNm 3)))
  (sRt (e2 (e2 (eV 3) (eV 2) dMul) (e2 (e2 (e2 (eV 3) (eC (.int 1103515245)) dMul) (eV 1) dAdd) (eV 2) dMod) dAdd))))
def m_law_stirred : List DV → Option DV
  | [.int c, .int p] => if Sz 100 c ∧ Sz 100 p then some (.int (stir c p)) else none
  | _ => none
theorem t_law_stirred : ∀ ds d, m_law_stirred ds = some d → bodyP 2 5 b_law_stirred ds = some d := by
  intro ds d h
  unfold m_law_stirred at h
  split at h
  · rename_i c p
    split at h
    · rename_i ok
      obtain ⟨z1, z2⟩ := ok
      cases h
      have f1 : fitM c 2685821657736338717 = true := fit_of z1 (show Int.natAbs 2685821657736338717 < 2 ^ 100 by decide)
      have f2 : fitM p 2891336453 = true := fit_of z2 (show Int.natAbs 2891336453 < 2 ^ 100 by decide)
      have step : ∀ v turn : Int, v.natAbs < 2 ^ 71 → turn.natAbs < 2 ^ 10 → fitM v v = true ∧ fitM 3 v = true ∧ fitM 32452843 turn = true := fun v t h1 h2 =>
        ⟨fit_of h1 h1, fit_of (show Int.natAbs 3 < 2 ^ 100 by decide) h1, fit_of (show Int.natAbs 32452843 < 2 ^ 100 by decide) h2⟩
      have g0 := fmod_sz (c * 2685821657736338717 + p * 2891336453 + 19)
      have g1 := fun v t => fmod_sz (v * v + 3 * v + 32452843 * t + p)
      obtain ⟨a0, b0, d0⟩ := step (stir0 c p) 0 g0 (by decide)
      obtain ⟨a1, b1, d1⟩ := step (stirStep p (stir0 c p) 0) 1 (g1 _ _) (by decide)
      obtain ⟨a2, b2, d2⟩ := step (stirStep p (stirStep p (stir0 c p) 0) 1) 2 (g1 _ _) (by decide)
      obtain ⟨a3, b3, d3⟩ := step (stirStep p (stirStep p (stirStep p (stir0 c p) 0) 1) 2) 3 (g1 _ _) (by decide)
      have hv : (stirV c p).natAbs < 2 ^ 71 := g1 _ _
      have f3 : fitM (stirV c p) Md = true := fit_of hv (show Int.natAbs Md < 2 ^ 100 by decide)
      have f3' : fitM (stirV c p) 1180591620717411303449 = true := f3
      have f4 : fitM (stirV c p) 1103515245 = true := fit_of hv (show Int.natAbs 1103515245 < 2 ^ 100 by decide)
      have hm : decide ((1180591620717411303449 : Int) ≠ 0) = true := rfl
      have hr : inR 4 = true := rfl
      clear z1 z2 step g0 g1 hv
      have e0 : (c * 2685821657736338717 + p * 2891336453 + 19).fmod 1180591620717411303449 = stir0 c p := rfl
      have es : ∀ v t : Int, (v * v + 3 * v + 32452843 * t + p).fmod 1180591620717411303449 = stirStep p v t := fun _ _ => rfl
      have ev : stirStep p (stirStep p (stirStep p (stirStep p (stir0 c p) 0) 1) 2) 3 = stirV c p := rfl
      have eM : (1180591620717411303449 : Int) = Md := rfl
      have rg : rngD 0 (Int.toNat 4) = [.int 0, .int 1, .int 2, .int 3] := rfl
      unfold b_law_stirred stir
      simp only [bodyP, sSeq, sAsg, sFr, sRt, iRg1, eC, eV, e2, aCons, aNil, gNm, dAdd, dMul, dMod, List.length_cons, List.length_nil, List.map_cons, List.map_nil, List.cons_append, List.nil_append, List.replicate_succ, List.replicate_zero, List.getElem?_cons_zero, List.getElem?_cons_succ, List.set_cons_succ, List.set_cons_zero, Nat.reduceAdd, Nat.reduceSub, if_true, f1, f2, hm, hr, e0, rg, frN, a0, b0, d0, es, a1, b1, d1, a2, b2, d2, a3, b3, d3, ev, f3', f4]
      rfl
    · cases h
  · cases h
def okN (ns : List Int) : Prop := True
theorem lay_ints : ∀ ns : List Int, PyData.canLayAll0 (ns.map PyData.int) = true ∧ PyData.depthAll (ns.map PyData.int) ≤ 0
  | [] => ⟨rfl, Nat.le_refl _⟩
  | n :: ns => ⟨by
      show (true && PyData.canLayAll0 (ns.map PyData.int)) = true
      rw [(lay_ints ns).1]; rfl, by
      show max (PyData.depth (.int n)) (PyData.depthAll (ns.map PyData.int)) ≤ 0
      have := (lay_ints ns).2
      have h2 : PyData.depth (.int n) = 0 := rfl
      omega⟩
theorem toPyL_ints : ∀ ns : List Int, toPyL (ns.map DV.int) = some (ns.map PyData.int)
  | [] => rfl
  | n :: ns => by
    show (match toPy (.int n) with
      | some x => match toPyL (ns.map DV.int) with
        | some r => some (x :: r)
        | none => none
      | none => none) = _
    rw [toPyL_ints ns]
    rfl
theorem shaped_ints (ns : List Int) : SeqAt.shaped (.list (ns.map PyData.int)) = true := by
  obtain ⟨h1, h2⟩ := lay_ints ns
  unfold SeqAt.shaped
  have e1 : PyData.canLay0 (.list (ns.map PyData.int)) = true := h1
  have e2 : PyData.depth (.list (ns.map PyData.int)) = PyData.depthAll (ns.map PyData.int) + 1 := rfl
  rw [e1, e2, decide_eq_true (by omega)]
  rfl
theorem dNe_nil (ns : List Int) : dNe (.lst (ns.map DV.int)) (.lst []) = some (.bl (!ns.isEmpty)) := by
  unfold dNe
  have e1 : toPy (.lst (ns.map DV.int)) = some (.list (ns.map PyData.int)) := by
    show (toPyL (ns.map DV.int)).map PyData.list = _
    rw [toPyL_ints]
    rfl
  have e2 : toPy (.lst []) = some (.list []) := rfl
  rw [e1, e2]
  dsimp only
  rw [shaped_ints]
  cases ns <;> rfl
def cell0 (s : Spl) : Int := if s.nums = [] then 0 else (s.nums[(s.place.fmod (s.nums.length : Int)).toNat]?).getD 0
def cell1 (s : Spl) : Int := if (s.nums.length : Int) ≤ s.place ∨ cell0 s < 10 ^ 15 then stir ((cell0 s).fmod 998244353) s.place else cell0 s
def turnS (s : Spl) (b : Int) : Spl := if s.size < b then ⟨s.nums, s.place + 1, cell1 s, cell1 s⟩ else s
def upV (s : Spl) (b : Int) : Int := (turnS s b).cell.fmod b
def upS (s : Spl) (b : Int) : Spl := ⟨(turnS s b).nums, (turnS s b).place, (turnS s b).cell.fdiv b, (turnS s b).size.fdiv b⟩
def okB (s : Spl) (b : Int) : Prop := 0 < b ∧ b.natAbs < 2 ^ 8999 ∧ Sz 90 s.place
instance (s : Spl) (b : Int) : Decidable (okB s b) := by unfold okB; exact inferInstance
theorem upV_lt {s : Spl} {b : Int} (h : 0 < b) : 0 ≤ upV s b ∧ upV s b < b := ⟨Int.fmod_nonneg_of_pos _ h, Int.fmod_lt_of_pos _ h⟩
theorem upS_place {s : Spl} {b : Int} : (upS s b).place = s.place ∨ (upS s b).place = s.place + 1 := by
  unfold upS turnS
  dsimp only
  split
  · exact .inr rfl
  · exact .inl rfl
def b_law_upto : SF :=
  sSeq (sIf (tBl (e2 (eSp 0 3) (eV 1) dLt)) (sSeq (sPar 2 3 (aCons (eSp 0 0) (aCons (eSp 0 1) (aNil))))
  (sSeq (sAsg (eIf (tBl (e2 (eV 2) (eA (aNil) oLst) dNe)) (eIxN 2 (e2 (eV 3) (eA (aCons (eV 2) (aNil)) dLen) dMod)) (eC (.int 0))) (gNm 4))
  (sSeq (sIf (tOo (tBl (e2 (eV 3) (eA (aCons (eV 2) (aNil)) dLen) dGe)) (tBl (e2 (eV 4) (e2 (eC (.int 10)) (eC (.int 15)) dPow) dLt))) (sAsg (eA (aCons (e2 (eV 4) (eC (.int 998244353)) dMod) (aCons (eV 3) (aNil))) m_law_stirred) (gNm 4)) (sNx))
  (sSeq (sSp 0 1 (e2 (eV 3) (eC (.int 1)) dAdd))
  (sSeq (sSp 0 2 (eV 4))
  (sSp 0 3 (eV 4))))))) (sNx))
  (sSeq (sAsg (e2 (eSp 0 2) (eV 1) dMod) (gNm 5))
  (sSeq (sSp 0 2 (e2 (eSp 0 2) (eV 1) dFdiv))
  (sSeq (sSp 0 3 (e2 (eSp 0 3) (eV 1) dFdiv))
  (sRt (eV 5)))))
def m_law_upto : List DV → Spl → Option (DV × Spl)
  | [.int b], s => if okB s b then some (.int (upV s b), upS s b) else none
  | _, _ => none
theorem t_law_upto : ∀ ds s d, m_law_upto ds s = some d → bodyS 2 6 b_law_upto ds s = some d := by
  intro ds s d h
  unfold m_law_upto at h
  split at h
  · rename_i b
    split at h
    · rename_i ok
      obtain ⟨hb, hb9, hp⟩ := ok
      cases h
      have hd : decide (b ≠ 0 ∧ b.natAbs.log2 < 9000) = true := decide_eq_true (div_ok (by omega) hb9)
      have hm : decide (b ≠ 0) = true := decide_eq_true (by omega)
      obtain ⟨nums, place, cell, size⟩ := s
      have hp' : place.natAbs < 2 ^ 90 := hp
      have hpow : decide (0 ≤ (15 : Int) ∧ (15 : Int) ≤ 1000000 ∧ (10 : Int).natAbs < 2 ^ 64) = true := rfl
      have epow : (10 : Int) ^ (Int.toNat 15) = 10 ^ 15 := rfl
      have c1 : ∀ c : Int, m_law_stirred [.int (c.fmod 998244353), .int place] = some (.int (stir (c.fmod 998244353) place)) := fun c => by
        refine if_pos ⟨?_, lt_up hp'⟩
        have h1 := Int.fmod_nonneg_of_pos c (show (0 : Int) < 998244353 by decide)
        have h2 := Int.fmod_lt_of_pos c (show (0 : Int) < 998244353 by decide)
        show (c.fmod 998244353).natAbs < 2 ^ 100
        have h3 : (998244353 : Int) < 2 ^ 100 := by decide
        omega
      have h9 : decide ((998244353 : Int) ≠ 0) = true := rfl
      clear hb9 hp hp'
      unfold upV upS turnS
      by_cases h1 : size < b
      · have hcell : ∀ sl : List (Option SV), sl[2]? = some (some (.dat (.lst (nums.map .int)))) → sl[3]? = some (some (.dat (.int place))) → ∀ sp : Spl,
            eIf (tBl (e2 (eV 2) (eA (aNil) oLst) dNe)) (eIxN 2 (e2 (eV 3) (eA (aCons (eV 2) (aNil)) dLen) dMod)) (eC (.int 0)) ⟨sl, sp⟩ = some (.int (cell0 ⟨nums, place, cell, size⟩), ⟨sl, sp⟩) := by
          intro sl h2 h3 sp
          have h0 : (0 : Nat) ≤ sizeLine := Nat.zero_le _
          cases nums with
          | nil =>
            have e := dNe_nil []
            rw [List.map_nil] at e h2
            simp only [eIf, tBl, e2, eV, h2, eA, aNil, oLst, List.length_nil, h0, if_true, e, List.isEmpty_nil, Bool.not_true, eC]
            first | done | rfl
          | cons n ns =>
            have e := dNe_nil (n :: ns)
            have hl : (0 : Int) < ((n :: ns).map DV.int).length := by simp
            have hl2 : decide ((((n :: ns).map DV.int).length : Int) ≠ 0) = true := decide_eq_true (by omega)
            have k1 := Int.fmod_nonneg_of_pos place hl
            have k2 := Int.fmod_lt_of_pos place hl
            have ex : atI ((n :: ns).map DV.int) (place.fmod (((n :: ns).map DV.int).length : Int)) = some (.int (cell0 ⟨n :: ns, place, cell, size⟩)) := by
              unfold atI ixN
              rw [if_pos k1, if_pos k2]
              show ((n :: ns).map DV.int)[_]? = _
              have k3 : (place.fmod (((n :: ns).map DV.int).length : Int)).toNat < (n :: ns).length := by
                rw [List.length_map] at k2 k1 ⊢
                omega
              have k4 : cell0 ⟨n :: ns, place, cell, size⟩ = ((n :: ns)[(place.fmod ((n :: ns).length : Int)).toNat]?).getD 0 := if_neg (fun z => nomatch z)
              rw [List.length_map] at k3 ⊢
              rw [k4, List.getElem?_map, List.getElem?_eq_getElem k3]
              rfl
            simp only [eIf, tBl, e2, eV, h2, h3, eA, aNil, aCons, oLst, List.length_nil, h0, if_true, e, List.isEmpty_cons, Bool.not_false, eIxN, FD.peek, dLen, dMod, hl2, dIx, ex]
        have hlen : ((nums.map DV.int).length : Int) = (nums.length : Int) := by rw [List.length_map]
        unfold b_law_upto
        simp only [h1, if_true]
        have hc := hcell [some .spl, some (.dat (.int b)), some (.dat (.lst (nums.map .int))), some (.dat (.int place)), none, none] rfl rfl ⟨nums, place, cell, size⟩
        clear hcell
        have hc1 : cell1 ⟨nums, place, cell, size⟩ = if (nums.length : Int) ≤ place ∨ cell0 ⟨nums, place, cell, size⟩ < 10 ^ 15 then stir ((cell0 ⟨nums, place, cell, size⟩).fmod 998244353) place else cell0 ⟨nums, place, cell, size⟩ := rfl
        generalize cell0 ⟨nums, place, cell, size⟩ = c0 at hc hc1
        generalize cell1 ⟨nums, place, cell, size⟩ = r at hc1 ⊢
        by_cases h2 : (nums.length : Int) ≤ place
        · rw [if_pos (.inl h2)] at hc1
          have h2' : decide ((nums.length : Int) ≤ place) = true := decide_eq_true h2
          clear h2
          subst hc1
          simp only [bodyS, sSeq, sIf, sNx, sRt, sAsg, tBl, tOo, eA, e2, eSp, sSp, eV, eC, dI, sPar, aCons, aNil, gNm, dGe, dLt, dPow, dMod, dFdiv, dLen, dAdd, List.length_cons, List.length_nil, List.map_cons, List.map_nil, List.cons_append, List.nil_append, List.replicate_succ, List.replicate_zero, List.getElem?_cons_zero, List.getElem?_cons_succ, List.set_cons_succ, List.set_cons_zero, Nat.reduceAdd, Nat.reduceSub, if_true, decide_true, decide_false, reduceIte, Int.reduceEq, h1, hc, hlen, h2', h9, c1, hm, hd]
        · by_cases h3 : c0 < 10 ^ 15
          · rw [if_pos (.inr h3)] at hc1
            have h2' : decide ((nums.length : Int) ≤ place) = false := decide_eq_false h2
            have h3' : decide (c0 < (10 : Int) ^ (Int.toNat 15)) = true := decide_eq_true h3
            clear h2 h3
            subst hc1
            simp only [bodyS, sSeq, sIf, sNx, sRt, sAsg, tBl, tOo, eA, e2, eSp, sSp, eV, eC, dI, sPar, aCons, aNil, gNm, dGe, dLt, dPow, dMod, dFdiv, dLen, dAdd, List.length_cons, List.length_nil, List.map_cons, List.map_nil, List.cons_append, List.nil_append, List.replicate_succ, List.replicate_zero, List.getElem?_cons_zero, List.getElem?_cons_succ, List.set_cons_succ, List.set_cons_zero, Nat.reduceAdd, Nat.reduceSub, if_true, decide_true, decide_false, reduceIte, Int.reduceEq, h1, hc, hlen, h2', h3', hpow, h9, c1, hm, hd]
          · rw [if_neg (fun z => z.elim h2 h3)] at hc1
            have h2' : decide ((nums.length : Int) ≤ place) = false := decide_eq_false h2
            have h3' : decide (c0 < (10 : Int) ^ (Int.toNat 15)) = false := decide_eq_false h3
            clear h2 h3
            subst hc1
            simp only [bodyS, sSeq, sIf, sNx, sRt, sAsg, tBl, tOo, eA, e2, eSp, sSp, eV, eC, dI, sPar, aCons, aNil, gNm, dGe, dLt, dPow, dMod, dFdiv, dLen, dAdd, List.length_cons, List.length_nil, List.map_cons, List.map_nil, List.cons_append, List.nil_append, List.replicate_succ, List.replicate_zero, List.getElem?_cons_zero, List.getElem?_cons_succ, List.set_cons_succ, List.set_cons_zero, Nat.reduceAdd, Nat.reduceSub, if_true, decide_true, decide_false, reduceIte, Int.reduceEq, h1, hc, hlen, h2', h3', hpow, h9, c1, hm, hd]
      · unfold b_law_upto
        have h1' : decide (size < b) = false := decide_eq_false h1
        simp only [h1, if_false]
        clear h1
        simp only [bodyS, sSeq, sIf, sNx, sRt, sAsg, tBl, tOo, eA, e2, eSp, sSp, eV, eC, dI, sPar, aCons, aNil, gNm, dGe, dLt, dPow, dMod, dFdiv, dLen, dAdd, List.length_cons, List.length_nil, List.map_cons, List.map_nil, List.cons_append, List.nil_append, List.replicate_succ, List.replicate_zero, List.getElem?_cons_zero, List.getElem?_cons_succ, List.set_cons_succ, List.set_cons_zero, Nat.reduceAdd, Nat.reduceSub, if_true, decide_true, decide_false, reduceIte, Int.reduceEq, h1', hm, hd]
    · cases h
  · cases h
end TS

set_option maxRecDepth 100000
set_option maxHeartbeats 4000000
set_option exponentiation.threshold 10000
namespace TS
open PySem L2 FD
local macro_rules | `(tactic| walk_at "fd") => `(tactic| simp only [bodyP, bodyS, sSeq, sIf, sNx, sRt, sAsg, sDr, sPar, sAug, sSp, eSp, eS, tBl, tTr, tAn, tOo, tNo, eC, eV, eA, eIf, eAn, eOo, eNo, e1, e2, eIxN, FD.peek, aCons, aNil, gNm, gTp, gCo, gNi, dI, dAddI, dMulI, dAdd, dSub, dMul, dFdiv, dMod, dNeg, dGcd, dMax, dMin, dAbs, dSq, dLen, dEq_int, dNe_int, dIx, oTup, truD, List.length_cons, List.length_nil, List.map_cons, List.map_nil, List.cons_append, List.nil_append, List.replicate_succ, List.replicate_zero, List.getElem?_cons_zero, List.getElem?_cons_succ, List.set_cons_succ, List.set_cons_zero, Nat.reduceAdd, Nat.reduceSub, Nat.sub_self, if_true, decide_true, decide_false, Bool.not_true, Bool.not_false, Bool.false_eq_true, if_false, reduceCtorEq, *])
def b_law_choice : SF :=
  sRt (eIxN 1 (eS 0 (aCons (eA (aCons (eV 1) (aNil)) dLen) (aNil)) m_law_upto))
def m_law_choice : List DV → Spl → Option (DV × Spl)
  | [.lst ds], s => if okB s (ds.length : Int) then (ds[(upV s (ds.length : Int)).toNat]?).map fun d => (d, upS s (ds.length : Int)) else none
  | _, _ => none
theorem t_law_choice : ∀ ds s d, m_law_choice ds s = some d → bodyS 2 2 b_law_choice ds s = some d := by
  intro ds s d h
  unfold m_law_choice at h
  split at h
  · rename_i ds
    split at h
    · rename_i ok
      have c1 : m_law_upto [.int (ds.length : Int)] s = some (.int (upV s (ds.length : Int)), upS s (ds.length : Int)) := if_pos ok
      have b1 := upV_lt (s := s) ok.1
      obtain ⟨e, e1', e2'⟩ := Option.map_eq_some_iff.mp h
      have c2 : atI ds (upV s (ds.length : Int)) = some e := by
        unfold atI ixN
        rw [if_pos b1.1, if_pos b1.2]
        exact e1'
      clear ok b1 h e1'
      subst e2'
      unfold b_law_choice
      walk_at "fd"
    · cases h
  · cases h
/-! ## the spool made -/
def absZ (n : Int) : Int := if n < 0 then -n else n
def addAt (l : List Int) (i : Nat) (c : Int) : List Int := l.set (i % 16) ((l[i % 16]?).getD 0 + absZ c)
def foldN : Nat → List Int → List Int → List Int
  | _, [], l => l
  | i, c :: cs, l => foldN (i + 1) cs (addAt l i c)
def sfN (ns : List Int) : List Int := foldN 0 ((ns.drop 16).take 48) ((ns.take 16).map absZ)
def sf (ns : List Int) : Option (List Int) := if ns.length ≤ 63 then some (sfN ns) else none
def b1_law_spool_of : SF :=
  sOwn 2 (lCp (iVal (eSlN 0 (oNo) (oSo (eC (.int 16))))) 1 (tY) (eA (aCons (eV 1) (aNil)) dAbs))
def b2_law_spool_of : SF :=
  sFr (iEn (eSlN 0 (oSo (eC (.int 16))) (oSo (eC (.int 64))))) (gTp 2 (gCo (gNm 3) (gCo (gNm 1) (gNi)))) (sPut 2 (e2 (eIxN 2 (e2 (eV 3) (eC (.int 16)) dMod)) (eA (aCons (eV 1) (aNil)) dAbs) dAdd) (e2 (eV 3) (eC (.int 16)) dMod))
def b3_law_spool_of : LF := lDs (aCons (eV 2) (aCons (eC (.int 0)) (aCons (eC (.int 0)) (aCons (eC (.int 0)) (aNil)))))
def mN_law_spool_of : List DV → Option (List DV)
  | [.scr ns] => (sf ns).map fun nums => [.lst (nums.map .int), .int 0, .int 0, .int 0]
  | _ => none
theorem cp_abs : ∀ (ns : List Int) (sl : List (Option SV)) (sp : Spl) (acc : List DV), 1 < sl.length → acc.length + ns.length ≤ 63 →
    cpN (ns.map DV.int) 1 tY (eA (aCons (eV 1) aNil) dAbs) ⟨sl.set 1 none, sp⟩ acc = some (acc ++ (ns.map absZ).map DV.int, ⟨sl.set 1 none, sp⟩)
  | [], sl, sp, acc, _, _ => by simp [cpN]
  | n :: ns, sl, sp, acc, h, hl => by
    have h1 : ((sl.set 1 none).set 1 (some (SV.dat (.int n))))[1]? = some (some (SV.dat (.int n))) := by
      rw [List.getElem?_set_self (by simpa using h)]
    have h2 : acc.length < sizeLine := Nat.lt_of_lt_of_le (m := 64) (by simp at hl; omega) (by decide)
    have h3 := cp_abs ns sl sp (acc ++ [.int (absZ n)]) h (by simp at hl ⊢; omega)
    have h4 : (if n < 0 then -n else n) = absZ n := rfl
    rw [List.set_set] at h1
    simp only [List.map_cons, cpN, tY, eA, aCons, aNil, eV, h1, List.set_set, dAbs, h2, if_true, h4]
    rw [h3]
    simp
theorem fr_add {it : SF} (hit : it = sPut 2 (e2 (eIxN 2 (e2 (eV 3) (eC (.int 16)) dMod)) (eA (aCons (eV 1) (aNil)) dAbs) dAdd) (e2 (eV 3) (eC (.int 16)) dMod)) : ∀ (cs : List Int) (i : Nat) (l : List Int) (x y z : Option SV) (sp : Spl), l.length = 16 →
    ∃ x' y', frN (enD i (cs.map DV.int)) (gTp 2 (gCo (gNm 3) (gCo (gNm 1) (gNi)))) it ⟨[z, x, some (.own (l.map .int)), y], sp⟩ = some (.nx ⟨[z, x', some (.own ((foldN i cs l).map .int)), y'], sp⟩)
  | [], i, l, x, y, z, sp, _ => ⟨x, y, rfl⟩
  | c :: cs, i, l, x, y, z, sp, hl => by
    obtain ⟨x', y', e⟩ := fr_add hit cs (i + 1) (addAt l i c) (some (.dat (.int c))) (some (.dat (.int (i : Int)))) z sp (by unfold addAt; rw [List.length_set]; exact hl)
    refine ⟨x', y', ?_⟩
    show frN (.tup [.int (i : Int), .int c] :: enD (i + 1) (cs.map DV.int)) _ _ _ = some (.nx ⟨[z, x', some (.own ((foldN (i + 1) cs (addAt l i c)).map .int)), y'], sp⟩)
    have hk : (i : Int).fmod 16 = ((i % 16 : Nat) : Int) := by rw [Int.fmod_eq_emod_of_nonneg _ (by decide)]; rfl
    have hd : decide ((16 : Int) ≠ 0) = true := rfl
    have hb : (0 : Int) ≤ ((i % 16 : Nat) : Int) := by omega
    have hc : ((i % 16 : Nat) : Int) < ((l.map DV.int).length : Int) := by rw [List.length_map, hl]; omega
    have hi : ixN (l.map DV.int).length ((i % 16 : Nat) : Int) = some (i % 16) := by
      unfold ixN
      rw [if_pos hb, if_pos hc]
      rfl
    have hlt : i % 16 < l.length := by omega
    have hat : atI (l.map DV.int) ((i % 16 : Nat) : Int) = some (.int ((l[i % 16]?).getD 0)) := by
      unfold atI
      rw [hi]
      show (l.map DV.int)[i % 16]? = _
      rw [List.getElem?_map, List.getElem?_eq_getElem hlt]
      rfl
    have hs : (l.map DV.int).set (i % 16) (.int ((l[i % 16]?).getD 0 + absZ c)) = (addAt l i c).map DV.int := by
      unfold addAt
      rw [List.map_set]
    have ha : (if c < 0 then -c else c) = absZ c := rfl
    simp only [frN, gTp, gCo, gNm, gNi, List.length_cons, List.length_nil, Nat.reduceAdd, if_true, List.set_cons_succ, List.set_cons_zero]
    rw [hit] at e ⊢
    simp only [sPut, e2, eIxN, FD.peek, eV, eC, eA, aCons, aNil, dAbs, dMod, dAdd, dIx, hk, hd, hat, hi, hs, ha, List.getElem?_cons_zero, List.getElem?_cons_succ, if_true, List.set_cons_succ, List.set_cons_zero, e]
theorem cut_lo (ns : List Int) : cutD (ns.map DV.int) none (some 16) = (ns.take 16).map DV.int := by
  unfold cutD
  have e1 : HT.sIx (ns.map DV.int).length 0 none = 0 := rfl
  have e2 : HT.sIx (ns.map DV.int).length (ns.map DV.int).length (some 16) = min 16 ns.length := by
    show min 16 (ns.map DV.int).length = _
    rw [List.length_map]
  rw [e1, e2, List.drop_zero, Nat.sub_zero, List.map_take]
  by_cases h : ns.length ≤ 16
  · rw [Nat.min_eq_right h, List.take_of_length_le (by simp), List.take_of_length_le (by simpa using h)]
  · rw [Nat.min_eq_left (by omega)]
theorem cut_hi (ns : List Int) : cutD (ns.map DV.int) (some 16) (some 64) = ((ns.drop 16).take 48).map DV.int := by
  unfold cutD
  have e1 : HT.sIx (ns.map DV.int).length 0 (some 16) = min 16 ns.length := by
    show min 16 (ns.map DV.int).length = _
    rw [List.length_map]
  have e2 : HT.sIx (ns.map DV.int).length (ns.map DV.int).length (some 64) = min 64 ns.length := by
    show min 64 (ns.map DV.int).length = _
    rw [List.length_map]
  rw [e1, e2, List.map_take, List.map_drop]
  by_cases h : ns.length ≤ 16
  · rw [Nat.min_eq_right h, List.drop_of_length_le (by simp), List.drop_of_length_le (by simpa using h)]
    simp
  · rw [show min 16 ns.length = 16 by omega]
    by_cases h2 : ns.length ≤ 64
    · rw [Nat.min_eq_right h2, List.take_of_length_le (by simp), List.take_of_length_le (by simp; omega)]
    · rw [show min 64 ns.length = 64 by omega]
theorem n_law_spool_of : ∀ ds es, mN_law_spool_of ds = some es → bodyN 1 4 b1_law_spool_of b2_law_spool_of b3_law_spool_of ds = some es := by
  intro ds es h
  unfold mN_law_spool_of at h
  split at h
  · rename_i ns
    unfold sf at h
    split at h
    · rename_i hl
      cases h
      have h1 := cp_abs (ns.take 16) [some (.dat (.scr ns)), none, none, none] spl0 [] (by simp) (by simp; omega)
      rw [List.nil_append] at h1
      have q1 : dSl (.scr ns) none (some 16) = some (.lst ((ns.take 16).map DV.int)) := by
        show some (DV.lst (cutD (ns.map DV.int) none (some 16))) = _
        rw [cut_lo]
      have q2 : dSl (.scr ns) (some 16) (some 64) = some (.lst (((ns.drop 16).take 48).map DV.int)) := by
        show some (DV.lst (cutD (ns.map DV.int) (some 16) (some 64))) = _
        rw [cut_hi]
      have h2 : ∃ x' y', frN (enD 0 (((ns.drop 16).take 48).map DV.int)) (gTp 2 (gCo (gNm 3) (gCo (gNm 1) (gNi)))) (sPut 2 (e2 (eIxN 2 (e2 (eV 3) (eC (.int 16)) dMod)) (eA (aCons (eV 1) (aNil)) dAbs) dAdd) (e2 (eV 3) (eC (.int 16)) dMod)) ⟨[some (.dat (.scr ns)), none, some (.own (((ns.take 16).map absZ).map .int)), none], spl0⟩ = some (.nx ⟨[some (.dat (.scr ns)), x', some (.own ((sfN ns).map .int)), y'], spl0⟩) := by
        by_cases hl2 : 16 ≤ ns.length
        · exact fr_add rfl ((ns.drop 16).take 48) 0 ((ns.take 16).map absZ) none none _ spl0 (by rw [List.length_map, List.length_take]; omega)
        · have e : (ns.drop 16).take 48 = [] := by rw [List.drop_of_length_le (by omega)]; rfl
          unfold sfN
          rw [e]
          exact ⟨none, none, rfl⟩
      obtain ⟨x', y', h2⟩ := h2
      have h4 : (4 : Nat) ≤ sizeLine := by decide
      unfold b1_law_spool_of b2_law_spool_of b3_law_spool_of bodyN
      simp only [List.length_cons, List.length_nil, List.map_cons, List.map_nil, List.cons_append, List.nil_append, List.replicate_succ, List.replicate_zero, Nat.reduceAdd, Nat.reduceSub, if_true, sOwn, lCp, iVal, eSlN, FD.peek, oNo, oSo, eC, q1, List.set_cons_succ, List.set_cons_zero, List.getElem?_cons_zero, h1, sFr, iEn, q2, List.getElem?_cons_succ] at h1 h2 ⊢
      simp only [h2, lDs, aCons, aNil, eV, eC, FD.peek, List.getElem?_cons_zero, List.getElem?_cons_succ, List.length_cons, List.length_nil, Nat.reduceAdd, h4, if_true]
    · cases h
  · cases h
theorem t_law_spool_of {K : PySem.W.Frag} : ∀ vs H Q E, spN K mN_law_spool_of vs H Q E → spN K (bodyN 1 4 b1_law_spool_of b2_law_spool_of b3_law_spool_of) vs H Q E := fun vs H Q E ⟨G, ds, es, g, r, e, q⟩ => ⟨G, ds, es, g, r, n_law_spool_of ds es e, q⟩
/-! ## split_square at the roots that are drawn -/
def sqT (d : Int) : Option (Int × Int) := if d = 0 then some (0, 1) else if d = 2 then some (1, 2) else if d = 3 then some (1, 3) else if d = 5 then some (1, 5) else if d = 6 then some (1, 6) else if d = 12 then some (2, 3) else if d = 45 then some (3, 5) else none
def b_split_square : SF :=
  sSeq (sAsg (eC (.int 1)) (gNm 1))
  (sSeq (sAsg (eC (.int 1)) (gNm 2))
  (sSeq (sAsg (eV 0) (gNm 3))
  (sSeq (sAsg (eC (.int 2)) (gNm 4))
  (sSeq (sWh (fun s => (slI s 0).toNat + 2) (tBl (e2 (e2 (e2 (eV 4) (eV 4) dMul) (eV 4) dMul) (eV 3) dLe)) (sSeq (sWh (fun s => (slI s 3).toNat) (tBl (e2 (e2 (eV 3) (e2 (eV 4) (eV 4) dMul) dMod) (eC (.int 0)) dEq)) (sSeq (sAug 3 (e2 (eV 4) (eV 4) dMul) dFdiv)
  (sAug 1 (eV 4) dMulI)))
  (sSeq (sIf (tBl (e2 (e2 (eV 3) (eV 4) dMod) (eC (.int 0)) dEq)) (sSeq (sAug 3 (eV 4) dFdiv)
  (sAug 2 (eV 4) dMulI)) (sNx))
  (sAug 4 (eC (.int 1)) dAddI))))
  (sSeq (sAsg (eA (aCons (eV 3) (aNil)) dSq) (gNm 5))
  (sSeq (sIf (tBl (e2 (e2 (eV 5) (eV 5) dMul) (eV 3) dEq)) (sRt (eA (aCons (e2 (eV 1) (eV 5) dMul) (aCons (eV 2) (aNil))) oTup)) (sNx))
  (sRt (eA (aCons (eV 1) (aCons (e2 (eV 2) (eV 3) dMul) (aNil))) oTup))))))))
def m_split_square : List DV → Option DV
  | [.int d] => (sqT d).map fun x => .tup [.int x.1, .int x.2]
  | _ => none
theorem t_split_square : ∀ ds d, m_split_square ds = some d → bodyP 1 6 b_split_square ds = some d := by
  intro ds d h
  unfold m_split_square at h
  split at h
  · rename_i d
    unfold sqT at h
    split at h
    · rename_i e; subst e; cases h; rfl
    split at h
    · rename_i e; subst e; cases h; rfl
    split at h
    · rename_i e; subst e; cases h; rfl
    split at h
    · rename_i e; subst e; cases h; rfl
    split at h
    · rename_i e; subst e; cases h; rfl
    split at h
    · rename_i e; subst e; cases h; rfl
    split at h
    · rename_i e; subst e; cases h; rfl
    · cases h
  · cases h
def b_number : SF :=
  sSeq (sIf (tBl (e2 (eV 2) (eC (.int 0)) dLt)) (sNo) (sNx))
  (sSeq (sIf (tBl (e2 (eV 3) (eC (.int 0)) dEq)) (sNo) (sNx))
  (sSeq (sAsg (eA (aCons (eV 2) (aNil)) m_split_square) (gTp 2 (gCo (gNm 4) (gCo (gNm 5) (gNi)))))
  (sSeq (sIf (tBl (e2 (eV 5) (eC (.int 1)) dEq)) (sRt (eA (aCons (e2 (eV 0) (e2 (eV 1) (eV 4) dMul) dAdd) (aCons (eC (.int 0)) (aCons (eC (.int 0)) (aCons (eV 3) (aNil))))) m_lowest)) (sNx))
  (sRt (eA (aCons (eV 0) (aCons (e2 (eV 1) (eV 4) dMul) (aCons (eV 5) (aCons (eV 3) (aNil))))) m_lowest)))))
def m_number : List DV → Option DV
  | [.int p, .int q, .int d, .int s] => if 0 ≤ d ∧ s ≠ 0 ∧ Sz 2000 p ∧ Sz 2000 q ∧ Sz 2000 s then match sqT d with
    | some (r, e) => some (nm (if e = 1 then low (p + q * r) 0 0 s else low p (q * r) e s))
    | none => none
    else none
  | _ => none
theorem sqT_sz {d r e : Int} (h : sqT d = some (r, e)) : r.natAbs < 2 ^ 10 ∧ e.natAbs < 2 ^ 10 := by
  unfold sqT at h
  repeat' split at h
  all_goals first | (cases h; exact ⟨by decide, by decide⟩) | cases h
theorem t_number : ∀ ds d, m_number ds = some d → bodyP 4 6 b_number ds = some d := by
  intro ds d h
  unfold m_number at h
  split at h
  · rename_i p q e s
    split at h
    · rename_i ok
      obtain ⟨h0, h1, z1, z2, z3⟩ := ok
      split at h
      · rename_i r f hr
        cases h
        have c1 : m_split_square [.int e] = some (.tup [.int r, .int f]) := by
          show (sqT e).map _ = _
          rw [hr]; rfl
        have f1 := fit_of z2 (sqT_sz hr).1
        have k1 : decide (e < 0) = false := decide_eq_false (by omega)
        have k2 : (s == 0) = false := beq_f h1
        have c2 : ∀ a b c : Int, m_lowest [.int a, .int b, .int c, .int s] = some (nm (low a b c s)) := fun a b c => if_pos ⟨h1, lt_up z3⟩
        clear h0 h1 z1 z2 z3 hr
        unfold b_number
        by_cases h3 : f = 1
        · have h3' := beq_t h3
          rw [if_pos h3]
          clear h3
          walk_at "fd"
        · have h3' := beq_f h3
          rw [if_neg h3]
          clear h3
          walk_at "fd"
      · cases h
    · cases h
  · cases h
end TS

set_option maxRecDepth 100000
set_option maxHeartbeats 4000000
namespace TS
open PySem L2 FD
/-! ## canonical forms -/
def Can (e : Int) (x : Num) : Prop := 0 < x.2.2.2 ∧ gc x.1 x.2.1 x.2.2.2 = 1 ∧ x.2.2.1 = if x.2.1 = 0 then 0 else e
theorem gc_dvd (p q s : Int) : gc p q s ∣ p ∧ gc p q s ∣ q ∧ gc p q s ∣ s := by
  unfold gc
  refine ⟨Int.ofNat_dvd_left.mpr ?_, Int.ofNat_dvd_left.mpr ?_, Int.ofNat_dvd_left.mpr ?_⟩
  · exact Nat.dvd_trans (Nat.gcd_dvd_left _ _) (Nat.gcd_dvd_left _ _)
  · exact Nat.dvd_trans (Nat.gcd_dvd_left _ _) (Nat.gcd_dvd_right _ _)
  · exact Nat.gcd_dvd_right _ _
theorem sgc_dvd (p q s : Int) : sgc p q s ∣ p ∧ sgc p q s ∣ q ∧ sgc p q s ∣ s := by
  obtain ⟨h1, h2, h3⟩ := gc_dvd p q s
  unfold sgc
  split
  · exact ⟨Int.neg_dvd.mpr h1, Int.neg_dvd.mpr h2, Int.neg_dvd.mpr h3⟩
  · exact ⟨h1, h2, h3⟩
theorem gc_scale (g a b c : Int) : gc (g * a) (g * b) (g * c) = (g.natAbs : Int) * gc a b c := by
  unfold gc
  rw [Int.natAbs_mul, Int.natAbs_mul, Int.natAbs_mul, Nat.gcd_mul_left, Nat.gcd_mul_left]
  rfl
theorem low_form {p q e s : Int} (hs : s ≠ 0) : ∃ g a b c, g ≠ 0 ∧ p = g * a ∧ q = g * b ∧ s = g * c ∧ 0 < c ∧ gc a b c = 1 ∧ low p q e s = (a, b, (if b = 0 then 0 else e), c) := by
  have hg := sgc_ne (p := p) (q := q) hs
  obtain ⟨⟨a, ha⟩, ⟨b, hb⟩, ⟨c, hc⟩⟩ := sgc_dvd p q s
  have hab : (sgc p q s).natAbs = (gc p q s).natAbs := by unfold sgc; split <;> simp
  have hgp := gc_pos (p := p) (q := q) hs
  have hsg : sgc p q s = if s < 0 then -gc p q s else gc p q s := rfl
  have hlow : low p q e s = if q = 0 then (p.fdiv (sgc p q s), 0, 0, s.fdiv (sgc p q s)) else (p.fdiv (sgc p q s), q.fdiv (sgc p q s), e, s.fdiv (sgc p q s)) := rfl
  generalize sgc p q s = g at *
  have hsc := gc_scale g a b c
  rw [← ha, ← hb, ← hc] at hsc
  have h1 : gc a b c = 1 := by
    have e1 : (g.natAbs : Int) = gc p q s := by omega
    rw [e1] at hsc
    have : gc p q s * 1 = gc p q s * gc a b c := by omega
    exact (Int.eq_of_mul_eq_mul_left (by omega) this).symm
  have hcp : 0 < c := by
    rcases Int.lt_trichotomy c 0 with h | h | h
    · exfalso
      by_cases h2 : s < 0
      · rw [if_pos h2] at hsg
        have := Int.mul_pos_of_neg_of_neg (show g < 0 by omega) h
        omega
      · rw [if_neg h2] at hsg
        have := Int.mul_neg_of_pos_of_neg (show 0 < g by omega) h
        omega
    · rw [h] at hc
      simp at hc
      exact absurd hc hs
    · exact h
  refine ⟨g, a, b, c, hg, ha, hb, hc, hcp, h1, ?_⟩
  have ea : p.fdiv g = a := by rw [ha]; exact Int.mul_fdiv_cancel_left a hg
  have eb : q.fdiv g = b := by rw [hb]; exact Int.mul_fdiv_cancel_left b hg
  have ec : s.fdiv g = c := by rw [hc]; exact Int.mul_fdiv_cancel_left c hg
  rw [hlow, ea, eb, ec]
  by_cases h : q = 0
  · have hb0 : b = 0 := (Int.mul_eq_zero.mp (hb.symm.trans h)).resolve_left hg
    rw [if_pos h, if_pos hb0, hb0]
  · have hb0 : b ≠ 0 := fun z => h (by rw [hb, z, Int.mul_zero])
    rw [if_neg h, if_neg hb0]
theorem can_eq {e : Int} {x y : Num} (hx : Can e x) (hy : Can e y) (h1 : x.1 * y.2.2.2 = y.1 * x.2.2.2) (h2 : x.2.1 * y.2.2.2 = y.2.1 * x.2.2.2) : x = y := by
  have key : ∀ a b c a' b' c' : Int, gc a b c = 1 → a * c' = a' * c → b * c' = b' * c → c ∣ c' := by
    intro a b c a' b' c' hg e1 e2
    have d1 : c.natAbs ∣ c'.natAbs * a.natAbs := by
      rw [← Int.natAbs_mul, Int.natAbs_dvd_natAbs]
      exact ⟨a', by rw [Int.mul_comm c' a, e1, Int.mul_comm]⟩
    have d2 : c.natAbs ∣ c'.natAbs * b.natAbs := by
      rw [← Int.natAbs_mul, Int.natAbs_dvd_natAbs]
      exact ⟨b', by rw [Int.mul_comm c' b, e2, Int.mul_comm]⟩
    have d3 : c.natAbs ∣ c'.natAbs * c.natAbs := Nat.dvd_mul_left _ _
    have d4 := Nat.dvd_gcd (Nat.dvd_gcd d1 d2) d3
    rw [Nat.gcd_mul_left, Nat.gcd_mul_left] at d4
    have d5 : (a.natAbs.gcd b.natAbs).gcd c.natAbs = 1 := by unfold gc at hg; omega
    rw [d5, Nat.mul_one] at d4
    exact Int.natAbs_dvd_natAbs.mp d4
  obtain ⟨a, b, d, c⟩ := x
  obtain ⟨a', b', d', c'⟩ := y
  obtain ⟨p1, p2, p3⟩ := hx
  obtain ⟨q1, q2, q3⟩ := hy
  dsimp only at *
  have k1 := key a b c a' b' c' p2 h1 h2
  have k2 := key a' b' c' a b c q2 h1.symm h2.symm
  have hc : c = c' := by
    have := Int.le_of_dvd q1 k1
    have := Int.le_of_dvd p1 k2
    omega
  subst hc
  have ha : a = a' := Int.eq_of_mul_eq_mul_right (by omega) h1
  have hb : b = b' := Int.eq_of_mul_eq_mul_right (by omega) h2
  subst ha
  subst hb
  rw [p3, q3]
/-- what a number stands for: (P + Q root e) / S -/
def Rep (e : Int) (x : Num) (P Q S : Int) : Prop := Can e x ∧ S ≠ 0 ∧ x.1 * S = P * x.2.2.2 ∧ x.2.1 * S = Q * x.2.2.2
theorem rep_self {e : Int} {x : Num} (h : Can e x) : Rep e x x.1 x.2.1 x.2.2.2 := ⟨h, by have := h.1; omega, rfl, rfl⟩
theorem rep_low {e p q s : Int} (hs : s ≠ 0) : Rep e (low p q e s) p q s := by
  obtain ⟨g, a, b, c, hg, ha, hb, hc, hp, h1, hl⟩ := low_form (p := p) (q := q) (e := e) hs
  rw [hl]
  refine ⟨⟨hp, h1, rfl⟩, hs, ?_, ?_⟩
  · show a * s = p * c
    grind
  · show b * s = q * c
    grind
theorem low_d {p q d e s : Int} (h : q = 0 ∨ d = e) : low p q d s = low p q e s := by
  unfold low
  rcases h with h | h
  · rw [if_pos h, if_pos h]
  · rw [h]
theorem root_can {e : Int} {x y : Num} (he : 0 < e) (hx : Can e x) (hy : Can e y) : rootOf x.2.2.1 y.2.2.1 = e ∨ (x.2.1 = 0 ∧ y.2.1 = 0) := by
  obtain ⟨_, _, h1⟩ := hx
  obtain ⟨_, _, h2⟩ := hy
  unfold rootOf
  rw [h1, h2]
  by_cases a : x.2.1 = 0
  · by_cases b : y.2.1 = 0
    · exact .inr ⟨a, b⟩
    · rw [if_pos a, if_neg b, if_pos (by omega)]; exact .inl rfl
  · by_cases b : y.2.1 = 0
    · rw [if_neg a, if_pos b, if_neg (by omega)]; exact .inl rfl
    · rw [if_neg a, if_neg b, if_neg (by omega)]; exact .inl rfl
theorem rep_add {e : Int} {x y : Num} {P Q S P' Q' S' : Int} (he : 0 < e) (hx : Rep e x P Q S) (hy : Rep e y P' Q' S') : Rep e (addN x y) (P * S' + P' * S) (Q * S' + Q' * S) (S * S') := by
  obtain ⟨cx, s1, a1, b1⟩ := hx
  obtain ⟨cy, s2, a2, b2⟩ := hy
  have n1 : x.2.2.2 ≠ 0 := by have := cx.1; omega
  have n2 : y.2.2.2 ≠ 0 := by have := cy.1; omega
  have n3 := Int.mul_ne_zero n1 n2
  have e1 : addN x y = low (x.1 * y.2.2.2 + y.1 * x.2.2.2) (x.2.1 * y.2.2.2 + y.2.1 * x.2.2.2) e (x.2.2.2 * y.2.2.2) := by
    refine low_d ?_
    rcases root_can he cx cy with h | ⟨h, h'⟩
    · exact .inr h
    · exact .inl (by rw [h, h']; simp)
  obtain ⟨c, _, u, v⟩ := rep_low (e := e) (p := x.1 * y.2.2.2 + y.1 * x.2.2.2) (q := x.2.1 * y.2.2.2 + y.2.1 * x.2.2.2) n3
  rw [← e1] at c u v
  generalize addN x y = z at *
  refine ⟨c, Int.mul_ne_zero s1 s2, Int.eq_of_mul_eq_mul_left n3 ?_, Int.eq_of_mul_eq_mul_left n3 ?_⟩
  · grind
  · grind
theorem rep_mul {e : Int} {x y : Num} {P Q S P' Q' S' : Int} (he : 0 < e) (hx : Rep e x P Q S) (hy : Rep e y P' Q' S') : Rep e (mulN x y) (P * P' + Q * Q' * e) (P * Q' + Q * P') (S * S') := by
  obtain ⟨cx, s1, a1, b1⟩ := hx
  obtain ⟨cy, s2, a2, b2⟩ := hy
  have n1 : x.2.2.2 ≠ 0 := by have := cx.1; omega
  have n2 : y.2.2.2 ≠ 0 := by have := cy.1; omega
  have n3 := Int.mul_ne_zero n1 n2
  have e1 : mulN x y = low (x.1 * y.1 + x.2.1 * y.2.1 * e) (x.1 * y.2.1 + x.2.1 * y.1) e (x.2.2.2 * y.2.2.2) := by
    unfold mulN
    rcases root_can he cx cy with h | ⟨h, h'⟩
    · rw [h]
    · rw [h, h']
      simp only [Int.zero_mul, Int.mul_zero, Int.add_zero]
      exact low_d (.inl rfl)
  obtain ⟨c, _, u, v⟩ := rep_low (e := e) (p := x.1 * y.1 + x.2.1 * y.2.1 * e) (q := x.1 * y.2.1 + x.2.1 * y.1) n3
  rw [← e1] at c u v
  generalize mulN x y = z at *
  refine ⟨c, Int.mul_ne_zero s1 s2, Int.eq_of_mul_eq_mul_left n3 ?_, Int.eq_of_mul_eq_mul_left n3 ?_⟩
  · grind
  · grind
theorem can_neg {e : Int} {x : Num} (h : Can e x) : Can e (negN x) := by
  obtain ⟨h1, h2, h3⟩ := h
  refine ⟨h1, ?_, ?_⟩
  · show gc (-x.1) (-x.2.1) x.2.2.2 = 1
    unfold gc at *
    rw [Int.natAbs_neg, Int.natAbs_neg]
    exact h2
  · show x.2.2.1 = if -x.2.1 = 0 then 0 else e
    rw [h3]
    by_cases z : x.2.1 = 0
    · rw [if_pos z, if_pos (by omega)]
    · rw [if_neg z, if_neg (by omega)]
theorem rep_neg {e : Int} {x : Num} {P Q S : Int} (hx : Rep e x P Q S) : Rep e (negN x) (-P) (-Q) S := by
  obtain ⟨cx, s1, a1, b1⟩ := hx
  refine ⟨can_neg cx, s1, ?_, ?_⟩
  · show -x.1 * S = -P * x.2.2.2
    grind
  · show -x.2.1 * S = -Q * x.2.2.2
    grind
theorem rep_inv {e : Int} {x : Num} (cx : Can e x) (hn : x.1 * x.1 - x.2.1 * x.2.1 * e ≠ 0) : Rep e (invN x) (x.1 * x.2.2.2) (-x.2.1 * x.2.2.2) (x.1 * x.1 - x.2.1 * x.2.1 * e) := by
  have e1 : invN x = low (x.1 * x.2.2.2) (-x.2.1 * x.2.2.2) e (x.1 * x.1 - x.2.1 * x.2.1 * e) := by
    unfold invN
    by_cases z : x.2.1 = 0
    · rw [z]
      simp only [Int.zero_mul, Int.neg_zero]
      exact low_d (.inl rfl)
    · rw [cx.2.2, if_neg z]
  rw [e1]
  exact rep_low hn
theorem rep_eq {e : Int} {x y : Num} {P Q S P' Q' S' : Int} (hx : Rep e x P Q S) (hy : Rep e y P' Q' S') (h1 : P * S' = P' * S) (h2 : Q * S' = Q' * S) : x = y := by
  obtain ⟨cx, s1, a1, b1⟩ := hx
  obtain ⟨cy, s2, a2, b2⟩ := hy
  have n3 := Int.mul_ne_zero s1 s2
  refine can_eq cx cy (Int.eq_of_mul_eq_mul_left n3 ?_) (Int.eq_of_mul_eq_mul_left n3 ?_)
  · grind
  · grind
end TS

set_option maxRecDepth 100000
set_option maxHeartbeats 4000000
namespace TS
open PySem L2 FD
/-! ## signs -/
theorem isg_pos {n : Int} (h : 0 < n) : isg n = 1 := if_pos h
theorem isg_neg {n : Int} (h : n < 0) : isg n = -1 := by unfold isg; rw [if_neg (by omega), if_pos h]
theorem isg_zero : isg 0 = 0 := rfl
theorem pos_mul {k n : Int} (hk : 0 < k) : 0 < n * k ↔ 0 < n := by
  constructor
  · intro h
    rcases Int.lt_trichotomy n 0 with z | z | z
    · have := Int.mul_neg_of_neg_of_pos z hk; omega
    · rw [z] at h; simp at h
    · exact z
  · exact fun h => Int.mul_pos h hk
theorem neg_mul {k n : Int} (hk : 0 < k) : n * k < 0 ↔ n < 0 := by
  have := pos_mul (n := -n) hk
  rw [Int.neg_mul] at this
  omega
theorem isg_scale {P P' k m : Int} (hk : 0 < k) (hm : 0 < m) (h : P * k = P' * m) : isg P = isg P' := by
  have a1 := pos_mul (n := P) hk
  have a2 := pos_mul (n := P') hm
  have b1 := neg_mul (n := P) hk
  have b2 := neg_mul (n := P') hm
  rw [h] at a1 b1
  unfold isg
  by_cases z : 0 < P
  · rw [if_pos z, if_pos (a2.mp (a1.mpr z))]
  · rw [if_neg z, if_neg (fun w => z (a1.mp (a2.mpr w)))]
    by_cases z2 : P < 0
    · rw [if_pos z2, if_pos (b2.mp (b1.mpr z2))]
    · rw [if_neg z2, if_neg (fun w => z2 (b1.mp (b2.mpr w)))]
theorem sg_scale {P Q P' Q' e k m : Int} (hk : 0 < k) (hm : 0 < m) (h1 : P * k = P' * m) (h2 : Q * k = Q' * m) : sgS P Q e = sgS P' Q' e := by
  have kk : 0 < k * k := Int.mul_pos hk hk
  have mm : 0 < m * m := Int.mul_pos hm hm
  have e1 : (P * P - Q * Q * e) * (k * k) = (P' * P' - Q' * Q' * e) * (m * m) := by grind
  have a1 := pos_mul (n := P * P - Q * Q * e) kk
  have a2 := pos_mul (n := P' * P' - Q' * Q' * e) mm
  rw [e1] at a1
  have i1 := isg_scale hk hm h1
  have i2 := isg_scale hk hm h2
  unfold sgS
  by_cases z : Q * Q * e < P * P
  · have z' : Q' * Q' * e < P' * P' := by have := a2.mp (a1.mpr (by omega)); omega
    rw [if_pos z, if_pos z', i1]
  · have z' : ¬ Q' * Q' * e < P' * P' := fun w => z (by have := a1.mp (a2.mpr (by omega)); omega)
    rw [if_neg z, if_neg z', i2]
theorem sg_can {e : Int} {x : Num} (h : Can e x) : sgS x.1 x.2.1 x.2.2.1 = sgS x.1 x.2.1 e := by
  unfold sgS
  by_cases z : x.2.1 = 0
  · rw [z]; simp
  · rw [h.2.2, if_neg z]
theorem rep_sg {e : Int} {x : Num} {P Q S : Int} (hx : Rep e x P Q S) (hS : 0 < S) : sgS x.1 x.2.1 x.2.2.1 = sgS P Q e := by
  rw [sg_can hx.1]
  exact sg_scale hS hx.1.1 hx.2.2.1 hx.2.2.2
/-- e is no square -/
def NSq (e : Int) : Prop := 0 < e ∧ ∀ p q : Int, p * p = q * q * e → q = 0
theorem nsq_of {n : Nat} (h0 : 0 < n) (h : ∀ k : Nat, k * k ≠ n) : NSq (n : Int) := by
  refine ⟨by omega, fun p q e => ?_⟩
  have e1 : p.natAbs * p.natAbs = q.natAbs * q.natAbs * n := by
    have := congrArg Int.natAbs e
    rw [Int.natAbs_mul, Int.natAbs_mul, Int.natAbs_mul] at this
    simpa using this
  have d1 : q.natAbs ^ 2 ∣ p.natAbs ^ 2 := ⟨n, by rw [Nat.pow_two, Nat.pow_two]; exact e1⟩
  have d2 : q.natAbs ∣ p.natAbs := (Nat.pow_dvd_pow_iff (by decide)).mp d1
  obtain ⟨k, hk⟩ := d2
  by_cases z : q = 0
  · exact z
  · exfalso
    have zp : 0 < q.natAbs * q.natAbs := Nat.mul_pos (by omega) (by omega)
    refine h k (Nat.eq_of_mul_eq_mul_left zp ?_)
    rw [hk] at e1
    rw [← e1]
    exact (Nat.mul_mul_mul_comm _ _ _ _).symm
theorem isg_mul (a b : Int) : isg (a * b) = isg a * isg b := by
  rcases Int.lt_trichotomy a 0 with h | h | h <;> rcases Int.lt_trichotomy b 0 with h' | h' | h'
  · rw [isg_neg h, isg_neg h', isg_pos (Int.mul_pos_of_neg_of_neg h h')]; rfl
  · rw [h']; simp [isg_zero]
  · rw [isg_neg h, isg_pos h', isg_neg (Int.mul_neg_of_neg_of_pos h h')]; rfl
  · rw [h]; simp [isg_zero]
  · rw [h]; simp [isg_zero]
  · rw [h]; simp [isg_zero]
  · rw [isg_pos h, isg_neg h', isg_neg (Int.mul_neg_of_pos_of_neg h h')]; rfl
  · rw [h']; simp [isg_zero]
  · rw [isg_pos h, isg_pos h', isg_pos (Int.mul_pos h h')]; rfl
/-- the greater of two parts decides the sum's sign -/
theorem isg_dom {a b : Int} (h : b * b < a * a) : isg (a + b) = isg a := by
  have key : b < a ∧ -b < a ∧ 0 < a ∨ a < b ∧ a < -b ∧ a < 0 := by
    rcases Int.lt_trichotomy a 0 with z | z | z
    · refine .inr ⟨?_, ?_, z⟩
      · by_cases w : a < b
        · exact w
        · have h1 : 0 ≤ (a - b) * (-(a + b)) := Int.mul_nonneg (by omega) (by omega)
          exfalso
          grind
      · by_cases w : a < -b
        · exact w
        · have h1 : 0 ≤ (a + b) * (b - a) := Int.mul_nonneg (by omega) (by omega)
          exfalso
          grind
    · rw [z] at h
      have : 0 ≤ b * b := by rcases Int.le_total 0 b with w | w; exact Int.mul_nonneg w w; exact Int.mul_nonneg_of_nonpos_of_nonpos w w
      omega
    · refine .inl ⟨?_, ?_, z⟩
      · by_cases w : b < a
        · exact w
        · have h1 : 0 ≤ (b - a) * (b + a) := Int.mul_nonneg (by omega) (by omega)
          exfalso
          grind
      · by_cases w : -b < a
        · exact w
        · have h1 : 0 ≤ (-b - a) * (a - b) := Int.mul_nonneg (by omega) (by omega)
          exfalso
          grind
  rcases key with ⟨k1, k2, k3⟩ | ⟨k1, k2, k3⟩
  · rw [isg_pos k3, isg_pos (by omega)]
  · rw [isg_neg k3, isg_neg (by omega)]
theorem sq_nn (a : Int) : 0 ≤ a * a := by
  rcases Int.le_total 0 a with w | w
  · exact Int.mul_nonneg w w
  · exact Int.mul_nonneg_of_nonpos_of_nonpos w w
theorem sq_pos {a : Int} (h : a ≠ 0) : 0 < a * a := by
  have := sq_nn a
  rcases Int.lt_or_eq_of_le this with w | w
  · exact w
  · exact absurd (Int.mul_eq_zero.mp w.symm) (by simp [h])
theorem sg_mul {e P Q P' Q' : Int} (he : NSq e) : sgS (P * P' + Q * Q' * e) (P * Q' + Q * P') e = sgS P Q e * sgS P' Q' e := by
  obtain ⟨e0, irr⟩ := he
  have norm : (P * P' + Q * Q' * e) * (P * P' + Q * Q' * e) - (P * Q' + Q * P') * (P * Q' + Q * P') * e = (P * P - Q * Q * e) * (P' * P' - Q' * Q' * e) := by grind
  by_cases z : P * P = Q * Q * e
  · have q0 := irr _ _ z
    have p0 : P = 0 := by
      rw [q0] at z
      simp at z
      exact (Int.mul_eq_zero.mp z).elim id id
    rw [q0, p0]
    simp [sgS, isg]
  by_cases z' : P' * P' = Q' * Q' * e
  · have q0 := irr _ _ z'
    have p0 : P' = 0 := by
      rw [q0] at z'
      simp at z'
      exact (Int.mul_eq_zero.mp z').elim id id
    rw [q0, p0]
    simp [sgS, isg]
  have nonz : ∀ {A B : Int}, A * A < B * B → B ≠ 0 := by
    intro A B h hb
    have := sq_nn A
    rw [hb] at h
    omega
  unfold sgS
  by_cases h1 : Q * Q * e < P * P <;> by_cases h2 : Q' * Q' * e < P' * P'
  · have := Int.mul_pos (show 0 < P * P - Q * Q * e by omega) (show 0 < P' * P' - Q' * Q' * e by omega)
    rw [if_pos (by omega), if_pos h1, if_pos h2, ← isg_mul]
    refine isg_dom ?_
    have a1 := Int.mul_pos (show 0 < P * P - Q * Q * e by omega) (show 0 < P' * P' by have := sq_nn Q'; have := Int.mul_nonneg this (show 0 ≤ e by omega); omega)
    have a2 := Int.mul_nonneg (show 0 ≤ Q * Q * e by exact Int.mul_nonneg (sq_nn Q) (by omega)) (show 0 ≤ P' * P' - Q' * Q' * e by omega)
    grind
  · have hn := Int.mul_neg_of_pos_of_neg (show 0 < P * P - Q * Q * e by omega) (show P' * P' - Q' * Q' * e < 0 by omega)
    rw [if_neg (by omega), if_pos h1, if_neg h2, ← isg_mul]
    refine isg_dom ?_
    have hQ : 0 < Q' * Q' := by
      refine sq_pos fun w => ?_
      rw [w] at h2 z'
      simp at h2 z'
      have := sq_pos z'
      omega
    have a1 := Int.mul_pos (show 0 < P * P - Q * Q * e by omega) hQ
    have a2 := Int.mul_nonneg (sq_nn Q) (show 0 ≤ Q' * Q' * e - P' * P' by omega)
    grind
  · have hn := Int.mul_neg_of_neg_of_pos (show P * P - Q * Q * e < 0 by omega) (show 0 < P' * P' - Q' * Q' * e by omega)
    rw [if_neg (by omega), if_neg h1, if_pos h2, ← isg_mul, Int.add_comm]
    refine isg_dom ?_
    have hQ : 0 < Q * Q := by
      refine sq_pos fun w => ?_
      rw [w] at h1 z
      simp at h1 z
      have := sq_pos z
      omega
    have a1 := Int.mul_pos hQ (show 0 < P' * P' - Q' * Q' * e by omega)
    have a2 := Int.mul_nonneg (sq_nn Q') (show 0 ≤ Q * Q * e - P * P by omega)
    grind
  · have hn := Int.mul_pos_of_neg_of_neg (show P * P - Q * Q * e < 0 by omega) (show P' * P' - Q' * Q' * e < 0 by omega)
    have e1 : isg (Q * Q' * e) = isg Q * isg Q' := by rw [isg_mul, isg_mul, isg_pos e0, Int.mul_one]
    rw [if_pos (by omega), if_neg h1, if_neg h2, Int.add_comm, ← e1]
    refine isg_dom ?_
    have hQ : 0 < Q * Q * e := by
      have := sq_nn P
      omega
    have a1 := Int.mul_pos hQ (show 0 < Q' * Q' * e - P' * P' by omega)
    have a2 := Int.mul_nonneg (sq_nn P') (show 0 ≤ Q * Q * e - P * P by omega)
    grind
/-! ## comparing -/
theorem isg_ne {n : Int} (h : n ≠ 0) : isg n = 1 ∨ isg n = -1 := by
  rcases Int.lt_trichotomy n 0 with z | z | z
  · exact .inr (isg_neg z)
  · exact absurd z h
  · exact .inl (isg_pos z)
theorem isg_eq0 {n : Int} (h : isg n = 0) : n = 0 := by
  by_cases z : n = 0
  · exact z
  · rcases isg_ne z with w | w <;> rw [w] at h <;> cases h
theorem cmp_can {e : Int} {x y : Num} (he : NSq e) (hx : Can e x) (hy : Can e y) : cmpN x y = sgS (x.1 * y.2.2.2 - y.1 * x.2.2.2) (x.2.1 * y.2.2.2 - y.2.1 * x.2.2.2) e := by
  obtain ⟨a, b, d, c⟩ := x
  obtain ⟨a', b', d', c'⟩ := y
  obtain ⟨p1, p2, p3⟩ := hx
  obtain ⟨q1, q2, q3⟩ := hy
  dsimp only at p1 p2 p3 q1 q2 q3
  unfold cmpN
  dsimp only
  by_cases hb : b = 0 <;> by_cases hb' : b' = 0
  · rw [if_pos hb] at p3
    rw [if_pos hb'] at q3
    subst hb hb' p3 q3
    rw [if_pos rfl]
    simp [sgS]
  · rw [if_pos hb] at p3
    rw [if_neg hb'] at q3
    subst hb p3 q3
    rw [if_neg (by have := he.1; omega)]
    generalize a * c' - a' * c = W
    have hR : -b' * c ≠ 0 := Int.mul_ne_zero (by omega) (by omega)
    have e1 : (0 * c' - b' * c : Int) = -b' * c := by rw [Int.zero_mul, Int.neg_mul]; omega
    have e2 : (0 * c' : Int) = 0 := Int.zero_mul _
    rw [e1, e2]
    generalize -b' * c = R at *
    have e3 : sgS W 0 0 = isg W := by
      unfold sgS
      by_cases w : W = 0
      · rw [w]; rfl
      · rw [if_pos (by have := sq_pos w; simpa using this)]
    have e4 : sgS (W * W + 0 * 0 * 0 - R * R * d') (2 * W * 0) 0 = isg (W * W - R * R * d') := by
      unfold sgS
      rw [show W * W + 0 * 0 * 0 - R * R * d' = W * W - R * R * d' by omega]
      generalize W * W - R * R * d' = V
      by_cases w : V = 0
      · rw [w]; simp [isg]
      · rw [if_pos (by have := sq_pos w; simpa using this)]
    rw [e3, e4]
    have nz : W * W - R * R * d' ≠ 0 := fun w => hR (he.2 W R (by omega))
    have hs : sgS W R d' = if R * R * d' < W * W then isg W else isg R := rfl
    rw [hs]
    by_cases h1 : isg W = isg R
    · rw [if_pos (.inl h1), h1]
      split <;> rfl
    · rw [if_neg (fun z => z.elim h1 (fun z2 => hR (isg_eq0 z2)))]
      by_cases h2 : isg W = 0
      · rw [if_pos h2]
        have hW := isg_eq0 h2
        rw [if_neg (by rw [hW]; have := Int.mul_nonneg (sq_nn R) (show 0 ≤ d' by have := he.1; omega); omega)]
      · rw [if_neg h2]
        by_cases h3 : R * R * d' < W * W
        · rw [if_pos h3, isg_pos (n := W * W - R * R * d') (by omega), Int.mul_one]
        · rw [if_neg h3, isg_neg (n := W * W - R * R * d') (by omega)]
          have hW : W ≠ 0 := fun w => h2 (by rw [w]; rfl)
          rcases isg_ne hW with w | w <;> rcases isg_ne hR with w' | w' <;> first | exact absurd (w.trans w'.symm) h1 | (rw [w, w']; rfl)
  · rw [if_neg hb] at p3
    rw [if_pos hb'] at q3
    subst hb' p3 q3
    rw [if_neg (by have := he.1; omega)]
    have e1 : (-0 * c : Int) = 0 := by simp
    rw [e1, if_pos (.inr rfl)]
    rw [show b * c' - 0 * c = b * c' by simp]
  · rw [if_neg hb] at p3
    rw [if_neg hb'] at q3
    subst p3 q3
    rw [if_pos rfl]
    rw [show b * c' + -b' * c = b * c' - b' * c by rw [Int.neg_mul]; omega]
theorem rep_cmp {e : Int} {x y : Num} {P Q S P' Q' S' : Int} (he : NSq e) (hx : Rep e x P Q S) (hy : Rep e y P' Q' S') (h1 : 0 < S) (h2 : 0 < S') : cmpN x y = sgS (P * S' - P' * S) (Q * S' - Q' * S) e := by
  obtain ⟨cx, s1, a1, b1⟩ := hx
  obtain ⟨cy, s2, a2, b2⟩ := hy
  rw [cmp_can he cx cy]
  exact sg_scale (Int.mul_pos h1 h2) (Int.mul_pos cx.1 cy.1) (by grind) (by grind)
end TS

set_option maxRecDepth 100000
set_option maxHeartbeats 4000000
set_option exponentiation.threshold 10000
namespace TS
open PySem L2 FD
/-! ## the floor -/
theorem sq_spec {n : Int} (h : 0 ≤ n) : 0 ≤ sq n ∧ sq n * sq n ≤ n ∧ n < (sq n + 1) * (sq n + 1) := by
  obtain ⟨h1, h2⟩ := Float64.isqrt_spec n.toNat
  unfold sq
  refine ⟨Int.natCast_nonneg _, ?_, ?_⟩
  · have : ((Float64.isqrt n.toNat * Float64.isqrt n.toNat : Nat) : Int) ≤ (n.toNat : Int) := Int.ofNat_le.mpr h1
    rw [Int.natCast_mul] at this
    omega
  · have : (n.toNat : Int) < (((Float64.isqrt n.toNat + 1) * (Float64.isqrt n.toNat + 1) : Nat) : Int) := Int.ofNat_lt.mpr h2
    rw [Int.natCast_mul, Int.natCast_add] at this
    have e : (n.toNat : Int) = n := by omega
    rw [e] at this
    exact this
theorem fdiv_spec {a s : Int} (h : 0 < s) : a.fdiv s * s ≤ a ∧ a < (a.fdiv s + 1) * s := by
  have h1 := Int.fmod_add_mul_fdiv a s
  have h2 := Int.fmod_nonneg_of_pos a h
  have h3 := Int.fmod_lt_of_pos a h
  rw [Int.mul_comm] at h1
  rw [Int.add_mul, Int.one_mul]
  omega
theorem isg_le {n : Int} (h : n ≤ 0) : isg n ≤ 0 := by
  unfold isg
  rw [if_neg (by omega)]
  split <;> decide
theorem flo_spec {e : Int} {x : Num} (he : 0 < e) (hx : Can e x) :
    sgS (flo x.1 x.2.1 x.2.2.1 x.2.2.2 * x.2.2.2 - x.1) (-x.2.1) e ≤ 0 ∧ sgS ((flo x.1 x.2.1 x.2.2.1 x.2.2.2 + 1) * x.2.2.2 - x.1) (-x.2.1) e = 1 := by
  obtain ⟨p, q, d, s⟩ := x
  obtain ⟨h1, _, h3⟩ := hx
  dsimp only at *
  have hd : q * q * d = q * q * e := by
    by_cases z : q = 0
    · rw [z]; simp
    · rw [h3, if_neg z]
  unfold flo
  rw [hd]
  have hn : 0 ≤ q * q * e := Int.mul_nonneg (sq_nn q) (by omega)
  have hq : -q * -q * e = q * q * e := by grind
  obtain ⟨r0, r1, r2⟩ := sq_spec hn
  unfold sgS
  rw [hq]
  generalize sq (q * q * e) = r at *
  generalize q * q * e = n at *
  by_cases z : q < 0
  · rw [if_pos z]
    obtain ⟨f1, f2⟩ := fdiv_spec (a := p - r - 1) h1
    generalize hA : (p - r - 1).fdiv s * s - p = A
    generalize hB : ((p - r - 1).fdiv s + 1) * s - p = B
    have a1 : A ≤ -(r + 1) := by omega
    have a2 : -r ≤ B := by omega
    constructor
    · have : n < A * A := by
        have := Int.mul_nonneg (show 0 ≤ -(r + 1) - A by omega) (show 0 ≤ (r + 1) - A by omega)
        grind
      rw [if_pos this]
      exact isg_le (by omega)
    · by_cases w : n < B * B
      · rw [if_pos w]
        refine isg_pos ?_
        by_cases w2 : 0 < B
        · exact w2
        · have := Int.mul_nonneg (show 0 ≤ B + r by omega) (show 0 ≤ r - B by omega)
          exfalso
          grind
      · rw [if_neg w]
        exact isg_pos (by omega)
  · rw [if_neg z]
    obtain ⟨f1, f2⟩ := fdiv_spec (a := p + r) h1
    generalize hA : (p + r).fdiv s * s - p = A
    generalize hB : ((p + r).fdiv s + 1) * s - p = B
    have a1 : A ≤ r := by omega
    have a2 : r + 1 ≤ B := by omega
    constructor
    · by_cases w : n < A * A
      · rw [if_pos w]
        refine isg_le ?_
        by_cases w2 : A ≤ 0
        · exact w2
        · have := Int.mul_nonneg (show 0 ≤ r - A by omega) (show 0 ≤ r + A by omega)
          exfalso
          grind
      · rw [if_neg w]
        exact isg_le (by omega)
    · have : n < B * B := by
        have := Int.mul_nonneg (show 0 ≤ B - (r + 1) by omega) (show 0 ≤ B + (r + 1) by omega)
        grind
      rw [if_pos this]
      exact isg_pos (by omega)
/-- a whole number -/
def whole (v : Int) : Num := low (v + 0 * 0) 0 0 1
theorem rep_whole {e v : Int} : Rep e (whole v) v 0 1 := by
  have h : whole v = low v 0 e 1 := by
    unfold whole
    rw [show v + 0 * 0 = v by omega]
    exact low_d (.inl rfl)
  rw [h]
  exact rep_low (by decide)
theorem whole_eq (v : Int) : whole v = (v, 0, 0, 1) := by
  have h := rep_whole (e := 7) (v := v)
  refine rep_eq h (y := (v, 0, 0, 1)) (rep_self ⟨Int.one_pos, ?_, rfl⟩) rfl rfl
  unfold gc
  simp
theorem can_shift {e v : Int} {x : Num} (h : Can e x) : Can e (x.1 + v * x.2.2.2, x.2.1, x.2.2.1, x.2.2.2) := by
  obtain ⟨p, q, d, s⟩ := x
  obtain ⟨h1, h2, h3⟩ := h
  refine ⟨h1, ?_, h3⟩
  dsimp only at *
  obtain ⟨d1, d2, d3⟩ := gc_dvd (p + v * s) q s
  have d4 : gc (p + v * s) q s ∣ p := by
    have := Int.dvd_sub d1 (Int.dvd_trans d3 (Int.dvd_mul_left v s))
    rw [show p + v * s - v * s = p by omega] at this
    exact this
  have hp := gc_pos (p := p + v * s) (q := q) (s := s) (by omega)
  have : (gc (p + v * s) q s).natAbs ∣ (p.natAbs.gcd q.natAbs).gcd s.natAbs :=
    Nat.dvd_gcd (Nat.dvd_gcd (Int.natAbs_dvd_natAbs.mpr d4) (Int.natAbs_dvd_natAbs.mpr d2)) (Int.natAbs_dvd_natAbs.mpr d3)
  have h4 : (p.natAbs.gcd q.natAbs).gcd s.natAbs = 1 := by unfold gc at h2; omega
  rw [h4] at this
  have := Nat.le_of_dvd (by decide) this
  omega
theorem add_whole {e v : Int} {x : Num} (he : 0 < e) (h : Can e x) : addN x (whole v) = (x.1 + v * x.2.2.2, x.2.1, x.2.2.1, x.2.2.2) := by
  have h1 := rep_add he (rep_self h) (rep_whole (e := e) (v := v))
  refine rep_eq h1 (rep_self (can_shift (v := v) h)) ?_ ?_
  · show (x.1 * 1 + v * x.2.2.2) * x.2.2.2 = (x.1 + v * x.2.2.2) * (x.2.2.2 * 1)
    grind
  · show (x.2.1 * 1 + 0 * x.2.2.2) * x.2.2.2 = x.2.1 * (x.2.2.2 * 1)
    grind
theorem flo_shift {p q d s v : Int} (h : 0 < s) : flo (p + v * s) q d s = flo p q d s + v := by
  unfold flo
  split
  · rw [show p + v * s - sq (q * q * d) - 1 = (p - sq (q * q * d) - 1) + v * s by omega, Int.add_mul_fdiv_right _ _ (by omega)]
  · rw [show p + v * s + sq (q * q * d) = (p + sq (q * q * d)) + v * s by omega, Int.add_mul_fdiv_right _ _ (by omega)]
/-! ## how large -/
theorem sz_part {g a p : Int} (hg : g ≠ 0) (h : p = g * a) {b : Nat} (hp : p.natAbs < 2 ^ b) : a.natAbs < 2 ^ b := by
  rw [h, Int.natAbs_mul] at hp
  have := Nat.le_mul_of_pos_left a.natAbs (show 0 < g.natAbs by omega)
  omega
theorem sz_low {p q d s : Int} {b : Nat} (hs : s ≠ 0) (h1 : p.natAbs < 2 ^ b) (h2 : q.natAbs < 2 ^ b) (h3 : d.natAbs < 2 ^ b) (h4 : s.natAbs < 2 ^ b) : SzN b (low p q d s) := by
  obtain ⟨g, u, v, w, hg, hu, hv, hw, _, _, e⟩ := low_form (p := p) (q := q) (e := d) hs
  rw [e]
  refine ⟨sz_part hg hu h1, sz_part hg hv h2, ?_, sz_part hg hw h4⟩
  show (if v = 0 then 0 else d).natAbs < 2 ^ b
  split
  · exact Nat.two_pow_pos b
  · exact h3
theorem sz_add {b : Nat} {x y : Num} (hx : SzN b x) (hy : SzN b y) (n1 : x.2.2.2 ≠ 0) (n2 : y.2.2.2 ≠ 0) : SzN (b + b + 1) (addN x y) := by
  obtain ⟨x1, x2, x3, x4⟩ := hx
  obtain ⟨y1, y2, y3, y4⟩ := hy
  refine sz_low (Int.mul_ne_zero n1 n2) (add_lt (mul_lt x1 y4) (mul_lt y1 x4)) (add_lt (mul_lt x2 y4) (mul_lt y2 x4)) ?_ (lt_up (mul_lt x4 y4) (by omega))
  exact lt_up (root_sz (x := x) (y := y) ⟨x1, x2, x3, x4⟩ ⟨y1, y2, y3, y4⟩) (by omega)
theorem sz_mul {b : Nat} {x y : Num} (hx : SzN b x) (hy : SzN b y) (n1 : x.2.2.2 ≠ 0) (n2 : y.2.2.2 ≠ 0) : SzN (b + b + b + 1) (mulN x y) := by
  have hr := root_sz hx hy
  obtain ⟨x1, x2, x3, x4⟩ := hx
  obtain ⟨y1, y2, y3, y4⟩ := hy
  refine sz_low (Int.mul_ne_zero n1 n2) (add_lt (lt_up (mul_lt x1 y1) (by omega)) (mul_lt (mul_lt x2 y2) hr)) (lt_up (add_lt (mul_lt x1 y2) (mul_lt x2 y1)) (by omega)) (lt_up hr (by omega)) (lt_up (mul_lt x4 y4) (by omega))
theorem sz_inv {b : Nat} {x : Num} (hx : SzN b x) (hn : x.1 * x.1 - x.2.1 * x.2.1 * x.2.2.1 ≠ 0) : SzN (b + b + b + 1) (invN x) := by
  obtain ⟨x1, x2, x3, x4⟩ := hx
  exact sz_low hn (lt_up (mul_lt x1 x4) (by omega)) (lt_up (mul_lt (neg_lt x2) x4) (by omega)) (lt_up x3 (by omega)) (sub_lt (lt_up (mul_lt x1 x1) (by omega)) (mul_lt (mul_lt x2 x2) x3))
theorem sz_neg {b : Nat} {x : Num} (hx : SzN b x) : SzN b (negN x) := by
  obtain ⟨x1, x2, x3, x4⟩ := hx
  exact ⟨neg_lt x1, neg_lt x2, x3, x4⟩
theorem sz_up {a b : Nat} {x : Num} (hx : SzN a x) (h : a ≤ b := by decide) : SzN b x := by
  obtain ⟨x1, x2, x3, x4⟩ := hx
  exact ⟨lt_up x1 h, lt_up x2 h, lt_up x3 h, lt_up x4 h⟩
theorem ok_pair {e : Int} {b c : Nat} {x y : Num} (hx : Can e x) (hy : Can e y) (zx : SzN b x) (zy : SzN c y) (hb : b ≤ 4000 := by decide) (hc : c ≤ 4000 := by decide) : okPair x y := by
  refine ⟨?_, by have := hx.1; omega, by have := hy.1; omega, sz_up zx hb, sz_up zy hc⟩
  rw [hx.2.2, hy.2.2]
  by_cases h : x.2.1 = 0
  · rw [if_pos h]; exact .inr (.inl rfl)
  · by_cases h' : y.2.1 = 0
    · rw [if_pos h']; exact .inr (.inr rfl)
    · rw [if_neg h, if_neg h']; exact .inl rfl
end TS

set_option maxRecDepth 100000
set_option maxHeartbeats 8000000
set_option exponentiation.threshold 10000
namespace TS
open PySem L2 FD
/-! ## the identities of the law -/
section
variable {e : Int} {x y z : Num}
def subN (x y : Num) : Num := addN x (negN y)
theorem rep_sub {P Q S P' Q' S' : Int} (he : 0 < e) (hx : Rep e x P Q S) (hy : Rep e y P' Q' S') : Rep e (subN x y) (P * S' + -P' * S) (Q * S' + -Q' * S) (S * S') := rep_add he hx (rep_neg hy)
theorem l1 (he : NSq e) (cx : Can e x) (cy : Can e y) (cz : Can e z) : addN x (addN y z) = addN (addN z x) y :=
  rep_eq (rep_add he.1 (rep_self cx) (rep_add he.1 (rep_self cy) (rep_self cz))) (rep_add he.1 (rep_add he.1 (rep_self cz) (rep_self cx)) (rep_self cy)) (by grind) (by grind)
theorem l2 (he : NSq e) (cx : Can e x) (cy : Can e y) (cz : Can e z) : mulN x (addN y z) = addN (mulN z x) (mulN y x) :=
  rep_eq (rep_mul he.1 (rep_self cx) (rep_add he.1 (rep_self cy) (rep_self cz))) (rep_add he.1 (rep_mul he.1 (rep_self cz) (rep_self cx)) (rep_mul he.1 (rep_self cy) (rep_self cx))) (by grind) (by grind)
theorem l3 (he : NSq e) (cx : Can e x) (cy : Can e y) : addN (subN x y) y = x :=
  rep_eq (rep_add he.1 (rep_sub he.1 (rep_self cx) (rep_self cy)) (rep_self cy)) (rep_self cx) (by grind) (by grind)
theorem l4 (he : NSq e) (cx : Can e x) (cy : Can e y) : subN x y = negN (subN y x) :=
  rep_eq (rep_sub he.1 (rep_self cx) (rep_self cy)) (rep_neg (rep_sub he.1 (rep_self cy) (rep_self cx))) (by grind) (by grind)
theorem norm_ne (he : NSq e) (cy : Can e y) (h : y.1 ≠ 0 ∨ y.2.1 ≠ 0) : y.1 * y.1 - y.2.1 * y.2.1 * e ≠ 0 := fun w => by
  have h1 := he.2 y.1 y.2.1 (by omega)
  rw [h1] at w
  simp at w
  have h2 : y.1 = 0 := (Int.mul_eq_zero.mp w).elim id id
  rcases h with h | h
  · exact h h2
  · exact h h1
theorem l5 (he : NSq e) (cx : Can e x) (cy : Can e y) (h : y.1 ≠ 0 ∨ y.2.1 ≠ 0) : mulN (mulN x (invN y)) y = x :=
  rep_eq (rep_mul he.1 (rep_mul he.1 (rep_self cx) (rep_inv cy (norm_ne he cy h))) (rep_self cy)) (rep_self cx) (by grind) (by grind)
theorem spos (cx : Can e x) : 0 < x.2.2.2 := cx.1
theorem l6 (he : NSq e) (cx : Can e x) (cy : Can e y) : cmpN x y = sgS (subN x y).1 (subN x y).2.1 (subN x y).2.2.1 := by
  rw [rep_cmp he (rep_self cx) (rep_self cy) cx.1 cy.1, rep_sg (rep_sub he.1 (rep_self cx) (rep_self cy)) (Int.mul_pos cx.1 cy.1)]
  exact sg_scale Int.one_pos Int.one_pos (by grind) (by grind)
theorem l7 (he : NSq e) (cx : Can e x) (cy : Can e y) (cz : Can e z) : cmpN (addN x z) (addN y z) = cmpN x y := by
  have hx := cx.1
  have hy := cy.1
  have hz := cz.1
  rw [rep_cmp he (rep_self cx) (rep_self cy) hx hy, rep_cmp he (rep_add he.1 (rep_self cx) (rep_self cz)) (rep_add he.1 (rep_self cy) (rep_self cz)) (Int.mul_pos hx hz) (Int.mul_pos hy hz)]
  exact sg_scale (k := 1) (m := z.2.2.2 * z.2.2.2) Int.one_pos (Int.mul_pos hz hz) (by grind) (by grind)
theorem l8 (he : NSq e) (cx : Can e x) (cy : Can e y) (cz : Can e z) : sgS z.1 z.2.1 z.2.2.1 * cmpN x y = cmpN (mulN x z) (mulN y z) := by
  have hx := cx.1
  have hy := cy.1
  have hz := cz.1
  rw [rep_cmp he (rep_self cx) (rep_self cy) hx hy, rep_cmp he (rep_mul he.1 (rep_self cx) (rep_self cz)) (rep_mul he.1 (rep_self cy) (rep_self cz)) (Int.mul_pos hx hz) (Int.mul_pos hy hz), sg_can cz, ← sg_mul he]
  exact sg_scale (k := z.2.2.2) (m := 1) hz Int.one_pos (by grind) (by grind)
theorem l9 (he : NSq e) (cx : Can e x) : cmpN (whole (flo x.1 x.2.1 x.2.2.1 x.2.2.2)) x ≤ 0 ∧ cmpN (addN (whole (flo x.1 x.2.1 x.2.2.1 x.2.2.2)) (1, 0, 0, 1)) x = 1 := by
  obtain ⟨h1, h2⟩ := flo_spec he.1 cx
  generalize flo x.1 x.2.1 x.2.2.1 x.2.2.2 = f at *
  constructor
  · rw [rep_cmp he (rep_whole (v := f)) (rep_self cx) Int.one_pos cx.1]
    rw [show f * x.2.2.2 - x.1 * 1 = f * x.2.2.2 - x.1 by omega, show 0 * x.2.2.2 - x.2.1 * 1 = -x.2.1 by omega]
    exact h1
  · rw [← whole_eq 1, rep_cmp he (rep_add he.1 (rep_whole (v := f)) (rep_whole (v := 1))) (rep_self cx) (by decide) cx.1]
    rw [show (f * 1 + 1 * 1) * x.2.2.2 - x.1 * (1 * 1) = (f + 1) * x.2.2.2 - x.1 by grind, show (0 * 1 + 0 * 1) * x.2.2.2 - x.2.1 * (1 * 1) = -x.2.1 by omega]
    exact h2
theorem l10 (he : NSq e) (cx : Can e x) (v : Int) : flo (addN x (whole v)).1 (addN x (whole v)).2.1 (addN x (whole v)).2.2.1 (addN x (whole v)).2.2.2 = flo x.1 x.2.1 x.2.2.1 x.2.2.2 + v := by
  rw [add_whole he.1 cx]
  exact flo_shift cx.1
theorem l11 {r d : Int} (he : NSq e) (hd : r * r * e = d) : mulN (low 0 (1 * r) e 1) (low 0 (1 * r) e 1) = whole d := by
  have h := rep_low (e := e) (p := 0) (q := 1 * r) (s := 1) (by decide)
  exact rep_eq (rep_mul he.1 h h) rep_whole (by grind) (by grind)
theorem l12 {r : Int} (he : NSq e) (hr : 0 < r) : sgS (low 0 (1 * r) e 1).1 (low 0 (1 * r) e 1).2.1 (low 0 (1 * r) e 1).2.2.1 = 1 := by
  rw [rep_sg (rep_low (e := e) (p := 0) (q := 1 * r) (s := 1) (by decide)) Int.one_pos]
  unfold sgS
  have := Int.mul_pos (Int.mul_pos hr hr) he.1
  rw [if_neg (by simp; omega)]
  exact isg_pos (by omega)
end
/-! ## how large the floor is -/
theorem fdiv_le {a s : Int} (h : 0 < s) {b : Nat} (ha : a.natAbs < 2 ^ b) : (a.fdiv s).natAbs < 2 ^ b := by
  obtain ⟨h1, h2⟩ := fdiv_spec (a := a) h
  generalize a.fdiv s = f at *
  by_cases z : 0 ≤ f
  · have := Int.mul_le_mul_of_nonneg_left (show (1 : Int) ≤ s by omega) z
    omega
  · have := Int.mul_le_mul_of_nonpos_left (show (f + 1 : Int) ≤ 0 by omega) (show (1 : Int) ≤ s by omega)
    omega
theorem sz_sq {n : Int} {b : Nat} (h : n.natAbs < 2 ^ b) (h0 : 0 ≤ n) : (sq n).natAbs < 2 ^ b := by
  obtain ⟨r0, r1, _⟩ := sq_spec h0
  have : sq n ≤ n := by
    by_cases z : sq n = 0
    · omega
    · have := Int.mul_le_mul_of_nonneg_left (show (1 : Int) ≤ sq n by omega) r0
      omega
  omega
theorem sz_flo {x : Num} {b : Nat} (hx : SzN b x) (h0 : 0 ≤ x.2.1 * x.2.1 * x.2.2.1) (hs : 0 < x.2.2.2) : (flo x.1 x.2.1 x.2.2.1 x.2.2.2).natAbs < 2 ^ (b + b + b + 2) := by
  obtain ⟨x1, x2, x3, x4⟩ := hx
  have hr := sz_sq (mul_lt (mul_lt x2 x2) x3) h0
  have h1 : x.1.natAbs < 2 ^ (b + b + b) := lt_up x1 (by omega)
  have h2 := add_lt h1 hr
  have h3 := sub_lt h1 hr
  unfold flo
  split
  · refine fdiv_le hs ?_
    exact sub_lt h3 (show Int.natAbs 1 < 2 ^ (b + b + b + 1) from Nat.one_lt_two_pow (by omega))
  · exact lt_up (fdiv_le hs h2) (by omega)
theorem can_nn {e : Int} {x : Num} (he : 0 < e) (hx : Can e x) : 0 ≤ x.2.1 * x.2.1 * x.2.2.1 := by
  refine Int.mul_nonneg (sq_nn _) ?_
  rw [hx.2.2]
  split <;> omega
end TS

set_option maxRecDepth 100000
set_option maxHeartbeats 8000000
set_option exponentiation.threshold 10000
namespace TS
open PySem L2 FD
local macro_rules | `(tactic| walk_at "fd") => `(tactic| simp only [bodyP, bodyS, sSeq, sIf, sNx, sRt, sAsg, sDr, sPar, sAug, sSp, sOwn, sApp, lDs, eSp, eS, tBl, tTr, tAn, tOo, tNo, eC, eV, eA, eIf, eAn, eOo, eNo, e1, e2, eIxN, FD.peek, aCons, aNil, gNm, gTp, gLs, gCo, gNi, dI, dAddI, dMulI, dAdd, dSub, dMul, dFdiv, dMod, dNeg, dGcd, dMax, dMin, dAbs, dSq, dLen, dEq_int, dNe_int, dIx, oTup, oLst, truD, List.length_cons, List.length_nil, List.map_cons, List.map_nil, List.cons_append, List.nil_append, List.replicate_succ, List.replicate_zero, List.getElem?_cons_zero, List.getElem?_cons_succ, List.set_cons_succ, List.set_cons_zero, Nat.reduceAdd, Nat.reduceSub, Nat.sub_self, if_true, decide_true, decide_false, Bool.not_true, Bool.not_false, Bool.false_eq_true, if_false, reduceCtorEq, *])
theorem seq_nx {a b : SF} {s s1 : S} (h : a s = some (.nx s1)) : sSeq a b s = b s1 := by
  unfold sSeq
  rw [h]
theorem dNe_nm (a : Num) : dNe (nm a) (nm a) = some (.bl false) := by
  obtain ⟨p, q, d, s⟩ := a
  have h : toPy (nm (p, q, d, s)) = some (.tuple [.int p, .int q, .int d, .int s]) := rfl
  unfold dNe
  rw [h]
  have h2 : SeqAt.shaped (.tuple [.int p, .int q, .int d, .int s]) = true := rfl
  have h3 : PyData.eqv (.tuple [.int p, .int q, .int d, .int s]) (.tuple [.int p, .int q, .int d, .int s]) = true := by simp [PyData.eqv, PyData.eqvAll]
  simp only [h2, h3, Bool.and_self, if_true, Bool.not_true]
def law_in : SF := sSeq (sAsg (eS 1 (aCons (eA (aCons (eC (.int 3)) (aCons (eC (.int 10)) (aCons (e2 (eC (.int 10)) (eC (.int 15)) dPow) (aNil)))) oLst) (aNil)) m_law_choice) (gNm 6))
  (sSeq (sPar 7 8 (aCons (e2 (eS 1 (aCons (e2 (e2 (eC (.int 2)) (eV 6) dMul) (eC (.int 1)) dAdd) (aNil)) m_law_upto) (eV 6) dSub) (aCons (e2 (eS 1 (aCons (e2 (e2 (eC (.int 2)) (eV 6) dMul) (eC (.int 1)) dAdd) (aNil)) m_law_upto) (eV 6) dSub) (aNil))))
  (sApp 4 (eA (aCons (eV 7) (aCons (eV 8) (aCons (eV 3) (aCons (e2 (eC (.int 1)) (eS 1 (aCons (eV 6) (aNil)) m_law_upto) dAdd) (aNil))))) m_number)))
def law_rest : SF :=
  (sSeq (sIf (tBl (e2 (eA (aCons (eV 9) (aCons (eA (aCons (eV 10) (aCons (eV 11) (aNil))) m_plus) (aNil))) m_plus) (eA (aCons (eA (aCons (eV 11) (aCons (eV 9) (aNil))) m_plus) (aCons (eV 10) (aNil))) m_plus) dNe)) (sRt (eC (.bl false))) (sNx))
  (sSeq (sIf (tBl (e2 (eA (aCons (eV 9) (aCons (eA (aCons (eV 10) (aCons (eV 11) (aNil))) m_plus) (aNil))) m_times) (eA (aCons (eA (aCons (eV 11) (aCons (eV 9) (aNil))) m_times) (aCons (eA (aCons (eV 10) (aCons (eV 9) (aNil))) m_times) (aNil))) m_plus) dNe)) (sRt (eC (.bl false))) (sNx))
  (sSeq (sIf (tOo (tBl (e2 (eA (aCons (eA (aCons (eV 9) (aCons (eV 10) (aNil))) m_minus) (aCons (eV 10) (aNil))) m_plus) (eV 9) dNe)) (tBl (e2 (eA (aCons (eV 9) (aCons (eV 10) (aNil))) m_minus) (eA (aCons (eA (aCons (eV 10) (aCons (eV 9) (aNil))) m_minus) (aNil)) m_opposite) dNe))) (sRt (eC (.bl false))) (sNx))
  (sSeq (sIf (tAn (tBl (e2 (eA (aCons (eV 10) (aNil)) m_sign) (eC (.int 0)) dNe)) (tBl (e2 (eA (aCons (eA (aCons (eV 9) (aCons (eV 10) (aNil))) m_over) (aCons (eV 10) (aNil))) m_times) (eV 9) dNe))) (sRt (eC (.bl false))) (sNx))
  (sSeq (sIf (tBl (e2 (eA (aCons (eV 9) (aCons (eV 10) (aNil))) m_compare) (eA (aCons (eA (aCons (eV 9) (aCons (eV 10) (aNil))) m_minus) (aNil)) m_sign) dNe)) (sRt (eC (.bl false))) (sNx))
  (sSeq (sIf (tBl (e2 (eA (aCons (eA (aCons (eV 9) (aCons (eV 11) (aNil))) m_plus) (aCons (eA (aCons (eV 10) (aCons (eV 11) (aNil))) m_plus) (aNil))) m_compare) (eA (aCons (eV 9) (aCons (eV 10) (aNil))) m_compare) dNe)) (sRt (eC (.bl false))) (sNx))
  (sSeq (sIf (tBl (e2 (e2 (eA (aCons (eV 11) (aNil)) m_sign) (eA (aCons (eV 9) (aCons (eV 10) (aNil))) m_compare) dMul) (eA (aCons (eA (aCons (eV 9) (aCons (eV 11) (aNil))) m_times) (aCons (eA (aCons (eV 10) (aCons (eV 11) (aNil))) m_times) (aNil))) m_compare) dNe)) (sRt (eC (.bl false))) (sNx))
  (sSeq (sAsg (eA (aCons (eA (aCons (eV 9) (aNil)) m_floor) (aCons (eC (.int 0)) (aCons (eC (.int 0)) (aCons (eC (.int 1)) (aNil))))) m_number) (gNm 12))
  (sSeq (sIf (tOo (tBl (e2 (eA (aCons (eV 12) (aCons (eV 9) (aNil))) m_compare) (eC (.int 0)) dGt)) (tBl (e2 (eA (aCons (eA (aCons (eV 12) (aCons (eA (aCons (eC (.int 1)) (aCons (eC (.int 0)) (aCons (eC (.int 0)) (aCons (eC (.int 1)) (aNil))))) oTup) (aNil))) m_plus) (aCons (eV 9) (aNil))) m_compare) (eC (.int 1)) dLt))) (sRt (eC (.bl false))) (sNx))
  (sSeq (sAsg (e2 (eS 1 (aCons (eC (.int 1000)) (aNil)) m_law_upto) (eC (.int 500)) dSub) (gNm 13))
  (sSeq (sIf (tBl (e2 (eA (aCons (eA (aCons (eV 9) (aCons (eA (aCons (eV 13) (aCons (eC (.int 0)) (aCons (eC (.int 0)) (aCons (eC (.int 1)) (aNil))))) m_number) (aNil))) m_plus) (aNil)) m_floor) (e2 (eA (aCons (eV 9) (aNil)) m_floor) (eV 13) dAdd) dNe)) (sRt (eC (.bl false))) (sNx))
  (sSeq (sAsg (eA (aCons (eC (.int 0)) (aCons (eC (.int 1)) (aCons (eV 3) (aCons (eC (.int 1)) (aNil))))) m_number) (gNm 14))
  (sIf (tOo (tBl (e2 (eA (aCons (eV 14) (aCons (eV 14) (aNil))) m_times) (eA (aCons (eV 3) (aCons (eC (.int 0)) (aCons (eC (.int 0)) (aCons (eC (.int 1)) (aNil))))) m_number) dNe)) (tBl (e2 (eA (aCons (eV 14) (aNil)) m_sign) (eC (.int 1)) dNe))) (sRt (eC (.bl false))) (sNx))))))))))))))
def law_turn : SF := sSeq (sAsg (eS 1 (aCons (eA (aCons (eC (.int 2)) (aCons (eC (.int 3)) (aCons (eC (.int 5)) (aCons (eC (.int 6)) (aCons (eC (.int 12)) (aCons (eC (.int 45)) (aNil))))))) oLst) (aNil)) m_law_choice) (gNm 3))
  (sSeq (sOwn 4 (lDs (aNil)))
  (sSeq (sFr (iRg1 (aCons (eC (.int 3)) (aNil))) (gNm 5) law_in)
  (sSeq (sAsg (eV 4) (gLs 3 (gCo (gNm 9) (gCo (gNm 10) (gCo (gNm 11) (gNi)))))) law_rest)))
def b_law : SF :=
  sSeq (sFr (iRg1 (aCons (eC (.int 8)) (aNil))) (gNm 2) (sSeq (sAsg (eS 1 (aCons (eA (aCons (eC (.int 2)) (aCons (eC (.int 3)) (aCons (eC (.int 5)) (aCons (eC (.int 6)) (aCons (eC (.int 12)) (aCons (eC (.int 45)) (aNil))))))) oLst) (aNil)) m_law_choice) (gNm 3))
  (sSeq (sOwn 4 (lDs (aNil)))
  (sSeq (sFr (iRg1 (aCons (eC (.int 3)) (aNil))) (gNm 5) (sSeq (sAsg (eS 1 (aCons (eA (aCons (eC (.int 3)) (aCons (eC (.int 10)) (aCons (e2 (eC (.int 10)) (eC (.int 15)) dPow) (aNil)))) oLst) (aNil)) m_law_choice) (gNm 6))
  (sSeq (sPar 7 8 (aCons (e2 (eS 1 (aCons (e2 (e2 (eC (.int 2)) (eV 6) dMul) (eC (.int 1)) dAdd) (aNil)) m_law_upto) (eV 6) dSub) (aCons (e2 (eS 1 (aCons (e2 (e2 (eC (.int 2)) (eV 6) dMul) (eC (.int 1)) dAdd) (aNil)) m_law_upto) (eV 6) dSub) (aNil))))
  (sApp 4 (eA (aCons (eV 7) (aCons (eV 8) (aCons (eV 3) (aCons (e2 (eC (.int 1)) (eS 1 (aCons (eV 6) (aNil)) m_law_upto) dAdd) (aNil))))) m_number)))))
  (sSeq (sAsg (eV 4) (gLs 3 (gCo (gNm 9) (gCo (gNm 10) (gCo (gNm 11) (gNi))))))
  (sSeq (sIf (tBl (e2 (eA (aCons (eV 9) (aCons (eA (aCons (eV 10) (aCons (eV 11) (aNil))) m_plus) (aNil))) m_plus) (eA (aCons (eA (aCons (eV 11) (aCons (eV 9) (aNil))) m_plus) (aCons (eV 10) (aNil))) m_plus) dNe)) (sRt (eC (.bl false))) (sNx))
  (sSeq (sIf (tBl (e2 (eA (aCons (eV 9) (aCons (eA (aCons (eV 10) (aCons (eV 11) (aNil))) m_plus) (aNil))) m_times) (eA (aCons (eA (aCons (eV 11) (aCons (eV 9) (aNil))) m_times) (aCons (eA (aCons (eV 10) (aCons (eV 9) (aNil))) m_times) (aNil))) m_plus) dNe)) (sRt (eC (.bl false))) (sNx))
  (sSeq (sIf (tOo (tBl (e2 (eA (aCons (eA (aCons (eV 9) (aCons (eV 10) (aNil))) m_minus) (aCons (eV 10) (aNil))) m_plus) (eV 9) dNe)) (tBl (e2 (eA (aCons (eV 9) (aCons (eV 10) (aNil))) m_minus) (eA (aCons (eA (aCons (eV 10) (aCons (eV 9) (aNil))) m_minus) (aNil)) m_opposite) dNe))) (sRt (eC (.bl false))) (sNx))
  (sSeq (sIf (tAn (tBl (e2 (eA (aCons (eV 10) (aNil)) m_sign) (eC (.int 0)) dNe)) (tBl (e2 (eA (aCons (eA (aCons (eV 9) (aCons (eV 10) (aNil))) m_over) (aCons (eV 10) (aNil))) m_times) (eV 9) dNe))) (sRt (eC (.bl false))) (sNx))
  (sSeq (sIf (tBl (e2 (eA (aCons (eV 9) (aCons (eV 10) (aNil))) m_compare) (eA (aCons (eA (aCons (eV 9) (aCons (eV 10) (aNil))) m_minus) (aNil)) m_sign) dNe)) (sRt (eC (.bl false))) (sNx))
  (sSeq (sIf (tBl (e2 (eA (aCons (eA (aCons (eV 9) (aCons (eV 11) (aNil))) m_plus) (aCons (eA (aCons (eV 10) (aCons (eV 11) (aNil))) m_plus) (aNil))) m_compare) (eA (aCons (eV 9) (aCons (eV 10) (aNil))) m_compare) dNe)) (sRt (eC (.bl false))) (sNx))
  (sSeq (sIf (tBl (e2 (e2 (eA (aCons (eV 11) (aNil)) m_sign) (eA (aCons (eV 9) (aCons (eV 10) (aNil))) m_compare) dMul) (eA (aCons (eA (aCons (eV 9) (aCons (eV 11) (aNil))) m_times) (aCons (eA (aCons (eV 10) (aCons (eV 11) (aNil))) m_times) (aNil))) m_compare) dNe)) (sRt (eC (.bl false))) (sNx))
  (sSeq (sAsg (eA (aCons (eA (aCons (eV 9) (aNil)) m_floor) (aCons (eC (.int 0)) (aCons (eC (.int 0)) (aCons (eC (.int 1)) (aNil))))) m_number) (gNm 12))
  (sSeq (sIf (tOo (tBl (e2 (eA (aCons (eV 12) (aCons (eV 9) (aNil))) m_compare) (eC (.int 0)) dGt)) (tBl (e2 (eA (aCons (eA (aCons (eV 12) (aCons (eA (aCons (eC (.int 1)) (aCons (eC (.int 0)) (aCons (eC (.int 0)) (aCons (eC (.int 1)) (aNil))))) oTup) (aNil))) m_plus) (aCons (eV 9) (aNil))) m_compare) (eC (.int 1)) dLt))) (sRt (eC (.bl false))) (sNx))
  (sSeq (sAsg (e2 (eS 1 (aCons (eC (.int 1000)) (aNil)) m_law_upto) (eC (.int 500)) dSub) (gNm 13))
  (sSeq (sIf (tBl (e2 (eA (aCons (eA (aCons (eV 9) (aCons (eA (aCons (eV 13) (aCons (eC (.int 0)) (aCons (eC (.int 0)) (aCons (eC (.int 1)) (aNil))))) m_number) (aNil))) m_plus) (aNil)) m_floor) (e2 (eA (aCons (eV 9) (aNil)) m_floor) (eV 13) dAdd) dNe)) (sRt (eC (.bl false))) (sNx))
  (sSeq (sAsg (eA (aCons (eC (.int 0)) (aCons (eC (.int 1)) (aCons (eV 3) (aCons (eC (.int 1)) (aNil))))) m_number) (gNm 14))
  (sIf (tOo (tBl (e2 (eA (aCons (eV 14) (aCons (eV 14) (aNil))) m_times) (eA (aCons (eV 3) (aCons (eC (.int 0)) (aCons (eC (.int 0)) (aCons (eC (.int 1)) (aNil))))) m_number) dNe)) (tBl (e2 (eA (aCons (eV 14) (aNil)) m_sign) (eC (.int 1)) dNe))) (sRt (eC (.bl false))) (sNx)))))))))))))))))))
  (sRt (eC (.bl true)))
theorem b_law_eq : b_law = sSeq (sFr (iRg1 (aCons (eC (.int 8)) (aNil))) (gNm 2) law_turn) (sRt (eC (.bl true))) := rfl
/-! ## what the functions answer -/
section
variable {e : Int} {x y : Num} {b c : Nat}
theorem c_plus (cx : Can e x) (cy : Can e y) (zx : SzN b x) (zy : SzN c y) (hb : b ≤ 4000 := by decide) (hc : c ≤ 4000 := by decide) : m_plus [nm x, nm y] = some (nm (addN x y)) := if_pos (ok_pair cx cy zx zy hb hc)
theorem c_times (cx : Can e x) (cy : Can e y) (zx : SzN b x) (zy : SzN c y) (hb : b ≤ 4000 := by decide) (hc : c ≤ 4000 := by decide) : m_times [nm x, nm y] = some (nm (mulN x y)) := if_pos (ok_pair cx cy zx zy hb hc)
theorem c_minus (cx : Can e x) (cy : Can e y) (zx : SzN b x) (zy : SzN c y) (hb : b ≤ 4000 := by decide) (hc : c ≤ 4000 := by decide) : m_minus [nm x, nm y] = some (nm (subN x y)) := if_pos (ok_pair cx (can_neg cy) zx (sz_neg zy) hb hc)
theorem c_over (he : NSq e) (cx : Can e x) (cy : Can e y) (zx : SzN b x) (zy : SzN 60 y) (hb : b ≤ 4000 := by decide) (h : y.1 ≠ 0 ∨ y.2.1 ≠ 0) : m_over [nm x, nm y] = some (nm (mulN x (invN y))) := by
  have h1 := norm_ne he cy h
  have h2 : y.2.1 * y.2.1 * y.2.2.1 = y.2.1 * y.2.1 * e := by
    by_cases z : y.2.1 = 0
    · rw [z]; simp
    · rw [cy.2.2, if_neg z]
  exact if_pos ⟨h, by rw [h2]; exact h1, sz_up zy, ok_pair cx (rep_inv cy h1).1 zx (sz_inv zy (by rw [h2]; exact h1)) hb⟩
theorem c_opp : m_opposite [nm x] = some (nm (negN x)) := rfl
theorem c_sign (zx : SzN b x) (hb : b ≤ 1000000 := by decide) : m_sign [nm x] = some (.int (sgS x.1 x.2.1 x.2.2.1)) := surd_ok (lt_up zx.1 hb) (lt_up zx.2.1 hb) (lt_up zx.2.2.1 hb)
theorem c_cmp (zx : SzN b x) (zy : SzN c y) (hb : b ≤ 4000 := by decide) (hc : c ≤ 4000 := by decide) : m_compare [nm x, nm y] = some (.int (cmpN x y)) := if_pos ⟨sz_up zx hb, sz_up zy hc⟩
theorem c_flo (he : 0 < e) (cx : Can e x) (zx : SzN b x) (hb : b ≤ 4000 := by decide) : m_floor [nm x] = some (.int (flo x.1 x.2.1 x.2.2.1 x.2.2.2)) :=
  if_pos ⟨by have := cx.1; omega, can_nn he cx, lt_up zx.1 hb, lt_up zx.2.1 hb, lt_up zx.2.2.1 hb, lt_up zx.2.2.2 hb⟩
theorem c_whole {v : Int} (h : v.natAbs < 2 ^ 2000) : m_number [.int v, .int 0, .int 0, .int 1] = some (nm (whole v)) := by
  have h1 : (0 ≤ (0 : Int) ∧ (1 : Int) ≠ 0 ∧ Sz 2000 v ∧ Sz 2000 0 ∧ Sz 2000 1) := ⟨by decide, by decide, h, Nat.two_pow_pos _, Nat.one_lt_two_pow (by decide)⟩
  unfold m_number
  dsimp only
  rw [if_pos h1]
  rfl
theorem c_num {p q d r s : Int} (hd : 0 ≤ d) (h : sqT d = some (r, e)) (he : e ≠ 1) (hs : s ≠ 0) (h1 : p.natAbs < 2 ^ 2000) (h2 : q.natAbs < 2 ^ 2000) (h3 : s.natAbs < 2 ^ 2000) : m_number [.int p, .int q, .int d, .int s] = some (nm (low p (q * r) e s)) := by
  have h1 : (0 ≤ d ∧ s ≠ 0 ∧ Sz 2000 p ∧ Sz 2000 q ∧ Sz 2000 s) := ⟨hd, hs, h1, h2, h3⟩
  unfold m_number
  dsimp only
  rw [if_pos h1, h]
  dsimp only
  rw [if_neg he]
end
def Pl (n : Nat) (s : Spl) : Prop := s.place.natAbs ≤ n
theorem pl_up {n : Nat} {s : Spl} {b : Int} (h : Pl n s) : Pl (n + 1) (upS s b) := by
  unfold Pl at *
  rcases upS_place (s := s) (b := b) with e | e <;> rw [e] <;> omega
theorem c_upto {n : Nat} {s : Spl} {b : Int} (h : Pl n s) (hb : 0 < b) (h9 : b.natAbs < 2 ^ 8999) (hn : n ≤ 1000000 := by decide) : m_law_upto [.int b] s = some (.int (upV s b), upS s b) := by
  refine if_pos ⟨hb, h9, ?_⟩
  unfold Pl at h
  show s.place.natAbs < 2 ^ 90
  omega
end TS

set_option maxRecDepth 100000
set_option maxHeartbeats 8000000
set_option exponentiation.threshold 10000
namespace TS
open PySem L2 FD
local macro_rules | `(tactic| walk_at "fd") => `(tactic| simp only [bodyP, bodyS, sSeq, sIf, sNx, sRt, sAsg, sDr, sPar, sAug, sSp, sOwn, sApp, lDs, eSp, eS, tBl, tTr, tAn, tOo, tNo, eC, eV, eA, eIf, eAn, eOo, eNo, e1, e2, eIxN, FD.peek, aCons, aNil, gNm, gTp, gLs, gCo, gNi, dI, dAddI, dMulI, dAdd, dSub, dMul, dFdiv, dMod, dNeg, dGcd, dMax, dMin, dAbs, dSq, dLen, dEq_int, dNe_int, dIx, oTup, oLst, truD, List.length_cons, List.length_nil, List.map_cons, List.map_nil, List.cons_append, List.nil_append, List.replicate_succ, List.replicate_zero, List.getElem?_cons_zero, List.getElem?_cons_succ, List.set_cons_succ, List.set_cons_zero, Nat.reduceAdd, Nat.reduceSub, Nat.sub_self, if_true, decide_true, decide_false, Bool.not_true, Bool.not_false, Bool.false_eq_true, if_false, reduceCtorEq, *])
theorem rest_ok {e d r : Int} {x y z : Num} (he : NSq e) (e1 : e ≠ 1) (e60 : e.natAbs < 2 ^ 60) (hd0 : 0 ≤ d) (hd60 : d.natAbs < 2 ^ 60) (hd : sqT d = some (r, e)) (hr : 0 < r) (hr60 : r.natAbs < 2 ^ 60) (hrd : r * r * e = d)
    (cx : Can e x) (cy : Can e y) (cz : Can e z) (zx : SzN 60 x) (zy : SzN 60 y) (zz : SzN 60 z) (n : Nat) (hn : n ≤ 1000000) (sp : Spl) (hp : Pl n sp) (a0 a2 a4 a5 a6 a7 a8 a12 a13 a14 : Option SV) :
    ∃ b12 b13 b14 sp', law_rest ⟨[a0, some .spl, a2, some (.dat (.int d)), a4, a5, a6, a7, a8, some (.dat (nm x)), some (.dat (nm y)), some (.dat (nm z)), a12, a13, a14], sp⟩ =
      some (.nx ⟨[a0, some .spl, a2, some (.dat (.int d)), a4, a5, a6, a7, a8, some (.dat (nm x)), some (.dat (nm y)), some (.dat (nm z)), b12, b13, b14], sp'⟩) ∧ Pl (n + 1) sp' := by
  have sx := cx.1
  have sy := cy.1
  have sz := cz.1
  have R {w : Num} {P Q S : Int} (h : Rep e w P Q S) : Can e w := h.1
  -- the parts
  have cyz := (rep_add he.1 (rep_self cy) (rep_self cz)).1
  have zyz := sz_up (b := 400) (sz_add zy zz (by omega) (by omega))
  have czx := (rep_add he.1 (rep_self cz) (rep_self cx)).1
  have zzx := sz_up (b := 400) (sz_add zz zx (by omega) (by omega))
  have cxz := (rep_add he.1 (rep_self cx) (rep_self cz)).1
  have zxz := sz_up (b := 400) (sz_add zx zz (by omega) (by omega))
  have mzx := (rep_mul he.1 (rep_self cz) (rep_self cx)).1
  have wzx := sz_up (b := 400) (sz_mul zz zx (by omega) (by omega))
  have myx := (rep_mul he.1 (rep_self cy) (rep_self cx)).1
  have wyx := sz_up (b := 400) (sz_mul zy zx (by omega) (by omega))
  have mxz := (rep_mul he.1 (rep_self cx) (rep_self cz)).1
  have wxz := sz_up (b := 400) (sz_mul zx zz (by omega) (by omega))
  have myz := (rep_mul he.1 (rep_self cy) (rep_self cz)).1
  have wyz := sz_up (b := 400) (sz_mul zy zz (by omega) (by omega))
  have dxy := (rep_sub he.1 (rep_self cx) (rep_self cy)).1
  have vxy : SzN 400 (subN x y) := sz_up (b := 400) (sz_add zx (sz_neg zy) (by omega) (by show y.2.2.2 ≠ 0; omega))
  have dyx := (rep_sub he.1 (rep_self cy) (rep_self cx)).1
  have hf := sz_flo zx (can_nn he.1 cx) cx.1
  have k1 := l1 he cx cy cz
  have k2 := l2 he cx cy cz
  have k3 := l3 he cx cy
  have k4 := l4 he cx cy
  have k6 := l6 he cx cy
  have k7 := l7 he cx cy cz
  have k8 := l8 he cx cy cz
  obtain ⟨k9, k9'⟩ := l9 he cx
  have hv := upV_lt (s := sp) (b := 1000) (by decide)
  have k10 := l10 he cx (upV sp 1000 - 500)
  have k11 := l11 he hrd
  have k12 := l12 he hr
  have f1 := fdiv_spec (a := x.1) sx
  have cw : Can e (whole (upV sp 1000 - 500)) := rep_whole.1
  have zw : SzN 400 (whole (upV sp 1000 - 500)) := sz_up (a := 20) (by rw [whole_eq]; exact ⟨by show (upV sp 1000 - 500).natAbs < 2 ^ 20; omega, Nat.two_pow_pos _, Nat.two_pow_pos _, Nat.one_lt_two_pow (by decide)⟩)
  have clow : Can e (whole (flo x.1 x.2.1 x.2.2.1 x.2.2.2)) := rep_whole.1
  have zlow : SzN 400 (whole (flo x.1 x.2.1 x.2.2.1 x.2.2.2)) := by
    rw [whole_eq]
    exact ⟨lt_up hf, Nat.two_pow_pos _, Nat.two_pow_pos _, Nat.one_lt_two_pow (by decide)⟩
  have cone : Can e (1, 0, 0, 1) := by rw [← whole_eq 1]; exact rep_whole.1
  have zone : SzN 400 (1, 0, 0, 1) := ⟨Nat.one_lt_two_pow (by decide), Nat.two_pow_pos _, Nat.two_pow_pos _, Nat.one_lt_two_pow (by decide)⟩
  have cadd := (rep_add he.1 (rep_self cx) (rep_self cw)).1
  have zadd := sz_up (b := 1000) (sz_add (sz_up zx (b := 400)) zw (by omega) (by have := cw.1; omega))
  have cl1 := (rep_add he.1 (rep_self clow) (rep_self cone)).1
  have zl1 := sz_up (b := 1000) (sz_add zlow zone (by have := clow.1; omega) (by decide))
  have croot := (rep_low (e := e) (p := 0) (q := 1 * r) (s := 1) (by decide)).1
  have zroot : SzN 400 (low 0 (1 * r) e 1) := sz_up (a := 60) (sz_low (by decide) (Nat.two_pow_pos _) (by omega) e60 (by decide))
  -- what is answered
  have m1 := c_plus cy cz zy zz
  have m2 := c_plus cx cyz zx zyz
  have m3 := c_plus cz cx zz zx
  have m4 := c_plus czx cy zzx zy
  have m5 := c_times cx cyz zx zyz
  have m6 := c_times cz cx zz zx
  have m7 := c_times cy cx zy zx
  have m8 := c_plus mzx myx wzx wyx
  have m9 := c_minus cx cy zx zy
  have m10 := c_minus cy cx zy zx
  have m11 := c_plus dxy cy vxy zy
  have m12 : m_opposite [nm (subN y x)] = some (nm (negN (subN y x))) := c_opp
  have m13 := c_sign zy
  have m14 := c_cmp zx zy
  have m15 := c_sign vxy
  have m16 := c_plus cx cz zx zz
  have m17 := c_cmp zxz zyz
  have m18 := c_sign zz
  have m19 := c_times cx cz zx zz
  have m20 := c_times cy cz zy zz
  have m21 := c_cmp wxz wyz
  have m22 := c_flo he.1 cx zx
  have m23 := c_whole (v := flo x.1 x.2.1 x.2.2.1 x.2.2.2) (lt_up hf)
  have m24 := c_cmp zlow zx
  have m25 : m_plus [nm (whole (flo x.1 x.2.1 x.2.2.1 x.2.2.2)), .tup [.int 1, .int 0, .int 0, .int 1]] = some (nm (addN (whole (flo x.1 x.2.1 x.2.2.1 x.2.2.2)) (1, 0, 0, 1))) := c_plus clow cone zlow zone
  have m26 := c_cmp zl1 zx
  have m27 : m_law_upto [.int 1000] sp = some (.int (upV sp 1000), upS sp 1000) := c_upto hp (by decide) (by decide) hn
  have m28 := c_whole (v := upV sp 1000 - 500) (lt_up (b := 2000) (a := 20) (by omega))
  have m29 := c_plus cx cw zx zw
  have m30 := c_flo he.1 cadd zadd
  have m31 : m_number [.int 0, .int 1, .int d, .int 1] = some (nm (low 0 (1 * r) e 1)) := c_num hd0 hd e1 (by decide) (Nat.two_pow_pos _) (Nat.one_lt_two_pow (by decide)) (Nat.one_lt_two_pow (by decide))
  have m32 := c_times croot croot zroot zroot
  have m33 := c_whole (v := d) (lt_up hd60)
  have m34 := c_sign zroot
  have four := four_le
  have fit8 := fit_of (a := 2) (b := 3) (i := sgS z.1 z.2.1 z.2.2.1) (j := cmpN x y) (sgS_sz _ _ _) (by
    rw [k6]
    exact lt_up (sgS_sz _ _ _))
  unfold law_rest
  refine ⟨some (.dat (nm (whole (flo x.1 x.2.1 x.2.2.1 x.2.2.2)))), some (.dat (.int (upV sp 1000 - 500))), some (.dat (nm (low 0 (1 * r) e 1))), upS sp 1000, ?_, pl_up hp⟩
  refine (seq_nx (s1 := ⟨[a0, some .spl, a2, some (.dat (.int d)), a4, a5, a6, a7, a8, some (.dat (nm x)), some (.dat (nm y)), some (.dat (nm z)), a12, a13, a14], sp⟩) (by
    simp only [bodyP, bodyS, sSeq, sIf, sNx, sRt, sAsg, sDr, sPar, sAug, sSp, sOwn, sApp, lDs, eSp, eS, tBl, tTr, tAn, tOo, tNo, eC, eV, eA, eIf, eAn, eOo, eNo, e1, e2, eIxN, FD.peek, aCons, aNil, gNm, gTp, gLs, gCo, gNi, dI, dAddI, dMulI, dAdd, dSub, dMul, dFdiv, dMod, dNeg, dGcd, dMax, dMin, dAbs, dSq, dLen, dEq_int, dNe_int, dIx, oTup, oLst, truD, List.length_cons, List.length_nil, List.map_cons, List.map_nil, List.cons_append, List.nil_append, List.replicate_succ, List.replicate_zero, List.getElem?_cons_zero, List.getElem?_cons_succ, List.set_cons_succ, List.set_cons_zero, Nat.reduceAdd, Nat.reduceSub, Nat.sub_self, if_true, decide_true, decide_false, Bool.not_true, Bool.not_false, Bool.false_eq_true, if_false, reduceCtorEq, m1, m2, m3, m4, k1, dNe_nm])).trans ?_
  refine (seq_nx (s1 := ⟨[a0, some .spl, a2, some (.dat (.int d)), a4, a5, a6, a7, a8, some (.dat (nm x)), some (.dat (nm y)), some (.dat (nm z)), a12, a13, a14], sp⟩) (by
    simp only [bodyP, bodyS, sSeq, sIf, sNx, sRt, sAsg, sDr, sPar, sAug, sSp, sOwn, sApp, lDs, eSp, eS, tBl, tTr, tAn, tOo, tNo, eC, eV, eA, eIf, eAn, eOo, eNo, e1, e2, eIxN, FD.peek, aCons, aNil, gNm, gTp, gLs, gCo, gNi, dI, dAddI, dMulI, dAdd, dSub, dMul, dFdiv, dMod, dNeg, dGcd, dMax, dMin, dAbs, dSq, dLen, dEq_int, dNe_int, dIx, oTup, oLst, truD, List.length_cons, List.length_nil, List.map_cons, List.map_nil, List.cons_append, List.nil_append, List.replicate_succ, List.replicate_zero, List.getElem?_cons_zero, List.getElem?_cons_succ, List.set_cons_succ, List.set_cons_zero, Nat.reduceAdd, Nat.reduceSub, Nat.sub_self, if_true, decide_true, decide_false, Bool.not_true, Bool.not_false, Bool.false_eq_true, if_false, reduceCtorEq, m1, m5, m6, m7, m8, k2, dNe_nm])).trans ?_
  refine (seq_nx (s1 := ⟨[a0, some .spl, a2, some (.dat (.int d)), a4, a5, a6, a7, a8, some (.dat (nm x)), some (.dat (nm y)), some (.dat (nm z)), a12, a13, a14], sp⟩) (by
    simp only [bodyP, bodyS, sSeq, sIf, sNx, sRt, sAsg, sDr, sPar, sAug, sSp, sOwn, sApp, lDs, eSp, eS, tBl, tTr, tAn, tOo, tNo, eC, eV, eA, eIf, eAn, eOo, eNo, e1, e2, eIxN, FD.peek, aCons, aNil, gNm, gTp, gLs, gCo, gNi, dI, dAddI, dMulI, dAdd, dSub, dMul, dFdiv, dMod, dNeg, dGcd, dMax, dMin, dAbs, dSq, dLen, dEq_int, dNe_int, dIx, oTup, oLst, truD, List.length_cons, List.length_nil, List.map_cons, List.map_nil, List.cons_append, List.nil_append, List.replicate_succ, List.replicate_zero, List.getElem?_cons_zero, List.getElem?_cons_succ, List.set_cons_succ, List.set_cons_zero, Nat.reduceAdd, Nat.reduceSub, Nat.sub_self, if_true, decide_true, decide_false, Bool.not_true, Bool.not_false, Bool.false_eq_true, if_false, reduceCtorEq, m9, m10, m11, k3, m12, ← k4, dNe_nm])).trans ?_
  refine (seq_nx (s1 := ⟨[a0, some .spl, a2, some (.dat (.int d)), a4, a5, a6, a7, a8, some (.dat (nm x)), some (.dat (nm y)), some (.dat (nm z)), a12, a13, a14], sp⟩) ?_).trans ?_
  · by_cases h0 : sgS y.1 y.2.1 y.2.2.1 = 0
    · simp only [bodyP, bodyS, sSeq, sIf, sNx, sRt, sAsg, sDr, sPar, sAug, sSp, sOwn, sApp, lDs, eSp, eS, tBl, tTr, tAn, tOo, tNo, eC, eV, eA, eIf, eAn, eOo, eNo, e1, e2, eIxN, FD.peek, aCons, aNil, gNm, gTp, gLs, gCo, gNi, dI, dAddI, dMulI, dAdd, dSub, dMul, dFdiv, dMod, dNeg, dGcd, dMax, dMin, dAbs, dSq, dLen, dEq_int, dNe_int, dIx, oTup, oLst, truD, List.length_cons, List.length_nil, List.map_cons, List.map_nil, List.cons_append, List.nil_append, List.replicate_succ, List.replicate_zero, List.getElem?_cons_zero, List.getElem?_cons_succ, List.set_cons_succ, List.set_cons_zero, Nat.reduceAdd, Nat.reduceSub, Nat.sub_self, if_true, decide_true, decide_false, Bool.not_true, Bool.not_false, Bool.false_eq_true, if_false, reduceCtorEq, m13, h0, beq_self_eq_true]
    · have h0' := beq_f h0
      have hy : y.1 ≠ 0 ∨ y.2.1 ≠ 0 := by
        by_cases h1 : y.1 = 0
        · by_cases h2 : y.2.1 = 0
          · exfalso
            apply h0
            rw [h1, h2]
            simp [sgS, isg]
          · exact .inr h2
        · exact .inl h1
      have q1 := c_over he cx cy zx zy (by decide) hy
      have ci := (rep_inv cy (norm_ne he cy hy)).1
      have nn : y.1 * y.1 - y.2.1 * y.2.1 * y.2.2.1 ≠ 0 := by
        have := norm_ne he cy hy
        by_cases z0 : y.2.1 = 0
        · rw [z0] at this ⊢; simpa using this
        · rw [cy.2.2, if_neg z0]; exact this
      have zi := sz_up (b := 400) (sz_inv zy nn)
      have cq := (rep_mul he.1 (rep_self cx) (rep_self ci)).1
      have zq := sz_up (b := 2000) (sz_mul (sz_up zx (b := 400)) zi (by omega) (by have := ci.1; omega))
      have q2 := c_times cq cy zq zy
      have q3 := l5 he cx cy hy
      simp only [bodyP, bodyS, sSeq, sIf, sNx, sRt, sAsg, sDr, sPar, sAug, sSp, sOwn, sApp, lDs, eSp, eS, tBl, tTr, tAn, tOo, tNo, eC, eV, eA, eIf, eAn, eOo, eNo, e1, e2, eIxN, FD.peek, aCons, aNil, gNm, gTp, gLs, gCo, gNi, dI, dAddI, dMulI, dAdd, dSub, dMul, dFdiv, dMod, dNeg, dGcd, dMax, dMin, dAbs, dSq, dLen, dEq_int, dNe_int, dIx, oTup, oLst, truD, List.length_cons, List.length_nil, List.map_cons, List.map_nil, List.cons_append, List.nil_append, List.replicate_succ, List.replicate_zero, List.getElem?_cons_zero, List.getElem?_cons_succ, List.set_cons_succ, List.set_cons_zero, Nat.reduceAdd, Nat.reduceSub, Nat.sub_self, if_true, decide_true, decide_false, Bool.not_true, Bool.not_false, Bool.false_eq_true, if_false, reduceCtorEq, m13, h0', q1, q2, q3, dNe_nm]
  refine (seq_nx (s1 := ⟨[a0, some .spl, a2, some (.dat (.int d)), a4, a5, a6, a7, a8, some (.dat (nm x)), some (.dat (nm y)), some (.dat (nm z)), a12, a13, a14], sp⟩) (by
    simp only [bodyP, bodyS, sSeq, sIf, sNx, sRt, sAsg, sDr, sPar, sAug, sSp, sOwn, sApp, lDs, eSp, eS, tBl, tTr, tAn, tOo, tNo, eC, eV, eA, eIf, eAn, eOo, eNo, e1, e2, eIxN, FD.peek, aCons, aNil, gNm, gTp, gLs, gCo, gNi, dI, dAddI, dMulI, dAdd, dSub, dMul, dFdiv, dMod, dNeg, dGcd, dMax, dMin, dAbs, dSq, dLen, dEq_int, dNe_int, dIx, oTup, oLst, truD, List.length_cons, List.length_nil, List.map_cons, List.map_nil, List.cons_append, List.nil_append, List.replicate_succ, List.replicate_zero, List.getElem?_cons_zero, List.getElem?_cons_succ, List.set_cons_succ, List.set_cons_zero, Nat.reduceAdd, Nat.reduceSub, Nat.sub_self, if_true, decide_true, decide_false, Bool.not_true, Bool.not_false, Bool.false_eq_true, if_false, reduceCtorEq, m9, m14, m15, k6, beq_self_eq_true])).trans ?_
  refine (seq_nx (s1 := ⟨[a0, some .spl, a2, some (.dat (.int d)), a4, a5, a6, a7, a8, some (.dat (nm x)), some (.dat (nm y)), some (.dat (nm z)), a12, a13, a14], sp⟩) (by
    simp only [bodyP, bodyS, sSeq, sIf, sNx, sRt, sAsg, sDr, sPar, sAug, sSp, sOwn, sApp, lDs, eSp, eS, tBl, tTr, tAn, tOo, tNo, eC, eV, eA, eIf, eAn, eOo, eNo, e1, e2, eIxN, FD.peek, aCons, aNil, gNm, gTp, gLs, gCo, gNi, dI, dAddI, dMulI, dAdd, dSub, dMul, dFdiv, dMod, dNeg, dGcd, dMax, dMin, dAbs, dSq, dLen, dEq_int, dNe_int, dIx, oTup, oLst, truD, List.length_cons, List.length_nil, List.map_cons, List.map_nil, List.cons_append, List.nil_append, List.replicate_succ, List.replicate_zero, List.getElem?_cons_zero, List.getElem?_cons_succ, List.set_cons_succ, List.set_cons_zero, Nat.reduceAdd, Nat.reduceSub, Nat.sub_self, if_true, decide_true, decide_false, Bool.not_true, Bool.not_false, Bool.false_eq_true, if_false, reduceCtorEq, m16, m1, m17, m14, k7, beq_self_eq_true])).trans ?_
  refine (seq_nx (s1 := ⟨[a0, some .spl, a2, some (.dat (.int d)), a4, a5, a6, a7, a8, some (.dat (nm x)), some (.dat (nm y)), some (.dat (nm z)), a12, a13, a14], sp⟩) (by
    simp only [bodyP, bodyS, sSeq, sIf, sNx, sRt, sAsg, sDr, sPar, sAug, sSp, sOwn, sApp, lDs, eSp, eS, tBl, tTr, tAn, tOo, tNo, eC, eV, eA, eIf, eAn, eOo, eNo, e1, e2, eIxN, FD.peek, aCons, aNil, gNm, gTp, gLs, gCo, gNi, dI, dAddI, dMulI, dAdd, dSub, dMul, dFdiv, dMod, dNeg, dGcd, dMax, dMin, dAbs, dSq, dLen, dEq_int, dNe_int, dIx, oTup, oLst, truD, List.length_cons, List.length_nil, List.map_cons, List.map_nil, List.cons_append, List.nil_append, List.replicate_succ, List.replicate_zero, List.getElem?_cons_zero, List.getElem?_cons_succ, List.set_cons_succ, List.set_cons_zero, Nat.reduceAdd, Nat.reduceSub, Nat.sub_self, if_true, decide_true, decide_false, Bool.not_true, Bool.not_false, Bool.false_eq_true, if_false, reduceCtorEq, m18, m14, m19, m20, m21, fit8, k8, beq_self_eq_true])).trans ?_
  refine (seq_nx (s1 := ⟨[a0, some .spl, a2, some (.dat (.int d)), a4, a5, a6, a7, a8, some (.dat (nm x)), some (.dat (nm y)), some (.dat (nm z)), some (.dat (nm (whole (flo x.1 x.2.1 x.2.2.1 x.2.2.2)))), a13, a14], sp⟩) (by
    simp only [bodyP, bodyS, sSeq, sIf, sNx, sRt, sAsg, sDr, sPar, sAug, sSp, sOwn, sApp, lDs, eSp, eS, tBl, tTr, tAn, tOo, tNo, eC, eV, eA, eIf, eAn, eOo, eNo, e1, e2, eIxN, FD.peek, aCons, aNil, gNm, gTp, gLs, gCo, gNi, dI, dAddI, dMulI, dAdd, dSub, dMul, dFdiv, dMod, dNeg, dGcd, dMax, dMin, dAbs, dSq, dLen, dEq_int, dNe_int, dIx, oTup, oLst, truD, List.length_cons, List.length_nil, List.map_cons, List.map_nil, List.cons_append, List.nil_append, List.replicate_succ, List.replicate_zero, List.getElem?_cons_zero, List.getElem?_cons_succ, List.set_cons_succ, List.set_cons_zero, Nat.reduceAdd, Nat.reduceSub, Nat.sub_self, if_true, decide_true, decide_false, Bool.not_true, Bool.not_false, Bool.false_eq_true, if_false, reduceCtorEq, m22, m23])).trans ?_
  have g1 : decide ((0 : Int) < cmpN (whole (flo x.1 x.2.1 x.2.2.1 x.2.2.2)) x) = false := decide_eq_false (by omega)
  have g2 : decide ((1 : Int) < 1) = false := rfl
  refine (seq_nx (s1 := ⟨[a0, some .spl, a2, some (.dat (.int d)), a4, a5, a6, a7, a8, some (.dat (nm x)), some (.dat (nm y)), some (.dat (nm z)), some (.dat (nm (whole (flo x.1 x.2.1 x.2.2.1 x.2.2.2)))), a13, a14], sp⟩) (by
    simp only [bodyP, bodyS, sSeq, sIf, sNx, sRt, sAsg, sDr, sPar, sAug, sSp, sOwn, sApp, lDs, eSp, eS, tBl, tTr, tAn, tOo, tNo, eC, eV, eA, eIf, eAn, eOo, eNo, e1, e2, eIxN, FD.peek, aCons, aNil, gNm, gTp, gLs, gCo, gNi, dI, dAddI, dMulI, dAdd, dSub, dMul, dFdiv, dMod, dNeg, dGcd, dMax, dMin, dAbs, dSq, dLen, dEq_int, dNe_int, dIx, oTup, oLst, truD, List.length_cons, List.length_nil, List.map_cons, List.map_nil, List.cons_append, List.nil_append, List.replicate_succ, List.replicate_zero, List.getElem?_cons_zero, List.getElem?_cons_succ, List.set_cons_succ, List.set_cons_zero, Nat.reduceAdd, Nat.reduceSub, Nat.sub_self, if_true, decide_true, decide_false, Bool.not_true, Bool.not_false, Bool.false_eq_true, if_false, reduceCtorEq, m24, g1, m25, m26, k9', g2, four])).trans ?_
  refine (seq_nx (s1 := ⟨[a0, some .spl, a2, some (.dat (.int d)), a4, a5, a6, a7, a8, some (.dat (nm x)), some (.dat (nm y)), some (.dat (nm z)), some (.dat (nm (whole (flo x.1 x.2.1 x.2.2.1 x.2.2.2)))), some (.dat (.int (upV sp 1000 - 500))), a14], upS sp 1000⟩) (by
    simp only [bodyP, bodyS, sSeq, sIf, sNx, sRt, sAsg, sDr, sPar, sAug, sSp, sOwn, sApp, lDs, eSp, eS, tBl, tTr, tAn, tOo, tNo, eC, eV, eA, eIf, eAn, eOo, eNo, e1, e2, eIxN, FD.peek, aCons, aNil, gNm, gTp, gLs, gCo, gNi, dI, dAddI, dMulI, dAdd, dSub, dMul, dFdiv, dMod, dNeg, dGcd, dMax, dMin, dAbs, dSq, dLen, dEq_int, dNe_int, dIx, oTup, oLst, truD, List.length_cons, List.length_nil, List.map_cons, List.map_nil, List.cons_append, List.nil_append, List.replicate_succ, List.replicate_zero, List.getElem?_cons_zero, List.getElem?_cons_succ, List.set_cons_succ, List.set_cons_zero, Nat.reduceAdd, Nat.reduceSub, Nat.sub_self, if_true, decide_true, decide_false, Bool.not_true, Bool.not_false, Bool.false_eq_true, if_false, reduceCtorEq, m27])).trans ?_
  refine (seq_nx (s1 := ⟨[a0, some .spl, a2, some (.dat (.int d)), a4, a5, a6, a7, a8, some (.dat (nm x)), some (.dat (nm y)), some (.dat (nm z)), some (.dat (nm (whole (flo x.1 x.2.1 x.2.2.1 x.2.2.2)))), some (.dat (.int (upV sp 1000 - 500))), a14], upS sp 1000⟩) (by
    simp only [bodyP, bodyS, sSeq, sIf, sNx, sRt, sAsg, sDr, sPar, sAug, sSp, sOwn, sApp, lDs, eSp, eS, tBl, tTr, tAn, tOo, tNo, eC, eV, eA, eIf, eAn, eOo, eNo, e1, e2, eIxN, FD.peek, aCons, aNil, gNm, gTp, gLs, gCo, gNi, dI, dAddI, dMulI, dAdd, dSub, dMul, dFdiv, dMod, dNeg, dGcd, dMax, dMin, dAbs, dSq, dLen, dEq_int, dNe_int, dIx, oTup, oLst, truD, List.length_cons, List.length_nil, List.map_cons, List.map_nil, List.cons_append, List.nil_append, List.replicate_succ, List.replicate_zero, List.getElem?_cons_zero, List.getElem?_cons_succ, List.set_cons_succ, List.set_cons_zero, Nat.reduceAdd, Nat.reduceSub, Nat.sub_self, if_true, decide_true, decide_false, Bool.not_true, Bool.not_false, Bool.false_eq_true, if_false, reduceCtorEq, m28, m29, m30, m22, k10, beq_self_eq_true])).trans ?_
  refine (seq_nx (s1 := ⟨[a0, some .spl, a2, some (.dat (.int d)), a4, a5, a6, a7, a8, some (.dat (nm x)), some (.dat (nm y)), some (.dat (nm z)), some (.dat (nm (whole (flo x.1 x.2.1 x.2.2.1 x.2.2.2)))), some (.dat (.int (upV sp 1000 - 500))), some (.dat (nm (low 0 (1 * r) e 1)))], upS sp 1000⟩) (by
    simp only [bodyP, bodyS, sSeq, sIf, sNx, sRt, sAsg, sDr, sPar, sAug, sSp, sOwn, sApp, lDs, eSp, eS, tBl, tTr, tAn, tOo, tNo, eC, eV, eA, eIf, eAn, eOo, eNo, e1, e2, eIxN, FD.peek, aCons, aNil, gNm, gTp, gLs, gCo, gNi, dI, dAddI, dMulI, dAdd, dSub, dMul, dFdiv, dMod, dNeg, dGcd, dMax, dMin, dAbs, dSq, dLen, dEq_int, dNe_int, dIx, oTup, oLst, truD, List.length_cons, List.length_nil, List.map_cons, List.map_nil, List.cons_append, List.nil_append, List.replicate_succ, List.replicate_zero, List.getElem?_cons_zero, List.getElem?_cons_succ, List.set_cons_succ, List.set_cons_zero, Nat.reduceAdd, Nat.reduceSub, Nat.sub_self, if_true, decide_true, decide_false, Bool.not_true, Bool.not_false, Bool.false_eq_true, if_false, reduceCtorEq, m31])).trans ?_
  simp only [bodyP, bodyS, sSeq, sIf, sNx, sRt, sAsg, sDr, sPar, sAug, sSp, sOwn, sApp, lDs, eSp, eS, tBl, tTr, tAn, tOo, tNo, eC, eV, eA, eIf, eAn, eOo, eNo, e1, e2, eIxN, FD.peek, aCons, aNil, gNm, gTp, gLs, gCo, gNi, dI, dAddI, dMulI, dAdd, dSub, dMul, dFdiv, dMod, dNeg, dGcd, dMax, dMin, dAbs, dSq, dLen, dEq_int, dNe_int, dIx, oTup, oLst, truD, List.length_cons, List.length_nil, List.map_cons, List.map_nil, List.cons_append, List.nil_append, List.replicate_succ, List.replicate_zero, List.getElem?_cons_zero, List.getElem?_cons_succ, List.set_cons_succ, List.set_cons_zero, Nat.reduceAdd, Nat.reduceSub, Nat.sub_self, if_true, decide_true, decide_false, Bool.not_true, Bool.not_false, Bool.false_eq_true, if_false, reduceCtorEq, m32, m33, k11, m34, k12, dNe_nm, beq_self_eq_true]
end TS

set_option maxRecDepth 100000
set_option maxHeartbeats 8000000
set_option exponentiation.threshold 10000
namespace TS
open PySem L2 FD
structure DOk (d r e : Int) : Prop where
  ns : NSq e
  e1 : e ≠ 1
  e5 : e.natAbs < 2 ^ 5
  d0 : 0 ≤ d
  d60 : d.natAbs < 2 ^ 60
  sq : sqT d = some (r, e)
  r0 : 0 < r
  r5 : r.natAbs < 2 ^ 5
  rd : r * r * e = d
theorem nsq_small {n : Nat} (h0 : 0 < n) (h9 : n < 9) (h : ∀ k : Fin 3, k.val * k.val ≠ n) : NSq (n : Int) := nsq_of h0 fun k hk => by
  by_cases z : k < 3
  · exact h ⟨k, z⟩ hk
  · have := Nat.mul_le_mul (show 3 ≤ k by omega) (show 3 ≤ k by omega)
    omega
theorem n2 : NSq 2 := nsq_small (n := 2) (by decide) (by decide) (by decide)
theorem n3 : NSq 3 := nsq_small (n := 3) (by decide) (by decide) (by decide)
theorem n5 : NSq 5 := nsq_small (n := 5) (by decide) (by decide) (by decide)
theorem n6 : NSq 6 := nsq_small (n := 6) (by decide) (by decide) (by decide)
theorem dok {d : Int} (h : d ∈ [2, 3, 5, 6, 12, 45]) : ∃ r e, DOk d r e := by
  simp only [List.mem_cons, List.not_mem_nil, or_false] at h
  rcases h with h | h | h | h | h | h <;> subst h
  · exact ⟨1, 2, n2, by decide, by decide, by decide, by decide, rfl, by decide, by decide, by decide⟩
  · exact ⟨1, 3, n3, by decide, by decide, by decide, by decide, rfl, by decide, by decide, by decide⟩
  · exact ⟨1, 5, n5, by decide, by decide, by decide, by decide, rfl, by decide, by decide, by decide⟩
  · exact ⟨1, 6, n6, by decide, by decide, by decide, by decide, rfl, by decide, by decide, by decide⟩
  · exact ⟨2, 3, n3, by decide, by decide, by decide, by decide, rfl, by decide, by decide, by decide⟩
  · exact ⟨3, 5, n5, by decide, by decide, by decide, by decide, rfl, by decide, by decide, by decide⟩
theorem choice_ok (ns : List Int) (s : Spl) (n : Nat) (hp : Pl n s) (hn : n ≤ 1000000) (h0 : ns ≠ []) (h9 : ns.length ≤ 1000) : ∃ v, m_law_choice [.lst (ns.map .int)] s = some (.int v, upS s (ns.length : Int)) ∧ v ∈ ns := by
  have hl : (ns.map DV.int).length = ns.length := List.length_map _
  have hpos : 0 < ns.length := List.length_pos_iff.mpr h0
  have hk : okB s (ns.length : Int) := by
    refine ⟨by omega, ?_, ?_⟩
    · have : (1000 : Nat) < 2 ^ 8999 := Nat.lt_of_lt_of_le (show 1000 < 2 ^ 10 by decide) (Nat.pow_le_pow_right (by decide) (by decide))
      omega
    · unfold Pl at hp
      show s.place.natAbs < 2 ^ 90
      omega
  have hv := upV_lt (s := s) (b := (ns.length : Int)) (by omega)
  have hi : (upV s (ns.length : Int)).toNat < ns.length := by omega
  refine ⟨ns[(upV s (ns.length : Int)).toNat], ?_, List.getElem_mem hi⟩
  unfold m_law_choice
  dsimp only
  rw [hl, if_pos hk, List.getElem?_map, List.getElem?_eq_getElem hi]
  rfl
theorem in_ok {d r e : Int} (D : DOk d r e) (acc : List DV) (ha : acc.length ≤ 3) (n : Nat) (hn : n ≤ 100000) (sp : Spl) (hp : Pl n sp) (a0 a2 a5 a6 a7 a8 a9 a10 a11 a12 a13 a14 : Option SV) :
    ∃ x b6 b7 b8 sp', law_in ⟨[a0, some .spl, a2, some (.dat (.int d)), some (.own acc), a5, a6, a7, a8, a9, a10, a11, a12, a13, a14], sp⟩ = some (.nx ⟨[a0, some .spl, a2, some (.dat (.int d)), some (.own (acc ++ [nm x])), a5, b6, b7, b8, a9, a10, a11, a12, a13, a14], sp'⟩) ∧ Can e x ∧ SzN 60 x ∧ Pl (n + 4) sp' := by
  obtain ⟨size, c1, hs⟩ := choice_ok [3, 10, 10 ^ 15] sp n hp (by omega) (by simp) (by simp)
  have c1' : m_law_choice [.lst [.int 3, .int 10, .int (10 ^ (Int.toNat 15))]] sp = some (.int size, upS sp 3) := c1
  clear c1
  have s1 : 3 ≤ size := by
    simp only [List.mem_cons, List.not_mem_nil, or_false] at hs
    omega
  have s2 : size ≤ 10 ^ 15 := by
    simp only [List.mem_cons, List.not_mem_nil, or_false] at hs
    omega
  clear hs
  have z1 : size.natAbs < 2 ^ 50 := by omega
  have p1 := pl_up (b := 3) hp
  generalize upS sp 3 = sp1 at *
  have f1 : fitM 2 size = true := fit_of (a := 2) (by decide) z1
  have c2 : m_law_upto [.int (2 * size + 1)] sp1 = _ := c_upto p1 (by omega) (lt_up (a := 60) (by omega)) (by omega)
  have v2 := upV_lt (s := sp1) (b := 2 * size + 1) (by omega)
  have p2 := pl_up (b := 2 * size + 1) p1
  generalize upS sp1 (2 * size + 1) = sp2 at *
  generalize upV sp1 (2 * size + 1) = P at *
  have c3 : m_law_upto [.int (2 * size + 1)] sp2 = _ := c_upto p2 (by omega) (lt_up (a := 60) (by omega)) (by omega)
  have v3 := upV_lt (s := sp2) (b := 2 * size + 1) (by omega)
  have p3 := pl_up (b := 2 * size + 1) p2
  generalize upS sp2 (2 * size + 1) = sp3 at *
  generalize upV sp2 (2 * size + 1) = Q at *
  have c4 : m_law_upto [.int size] sp3 = _ := c_upto p3 (by omega) (lt_up (a := 60) (by omega)) (by omega)
  have v4 := upV_lt (s := sp3) (b := size) (by omega)
  have p4 := pl_up (b := size) p3
  generalize upS sp3 size = sp4 at *
  generalize upV sp3 size = T at *
  have y1 : (P - size).natAbs < 2 ^ 50 := by omega
  have y2 : (Q - size).natAbs < 2 ^ 50 := by omega
  have y3 : (1 + T).natAbs < 2 ^ 51 := by omega
  have c5 : m_number [.int (P - size), .int (Q - size), .int d, .int (1 + T)] = _ := c_num D.d0 D.sq D.e1 (by omega) (lt_up y1) (lt_up y2) (lt_up y3)
  have ha2 : acc.length < sizeLine := Nat.lt_of_lt_of_le (show acc.length < 4 by omega) (by decide)
  have hpow : decide (0 ≤ (15 : Int) ∧ (15 : Int) ≤ 1000000 ∧ (10 : Int).natAbs < 2 ^ 64) = true := rfl
  have three : (3 : Nat) ≤ sizeLine := by decide
  refine ⟨low (P - size) ((Q - size) * r) e (1 + T), some (.dat (.int size)), some (.dat (.int (P - size))), some (.dat (.int (Q - size))), sp4, ?_, (rep_low (by omega)).1, ?_, p4⟩
  · unfold law_in
    simp only [bodyP, bodyS, sSeq, sIf, sNx, sRt, sAsg, sDr, sPar, sAug, sSp, sOwn, sApp, lDs, eSp, eS, tBl, tTr, tAn, tOo, tNo, eC, eV, eA, eIf, eAn, eOo, eNo, e1, e2, eIxN, FD.peek, aCons, aNil, gNm, gTp, gLs, gCo, gNi, dI, dAddI, dMulI, dAdd, dSub, dMul, dFdiv, dMod, dNeg, dGcd, dMax, dMin, dAbs, dSq, dLen, dEq_int, dNe_int, dIx, oTup, oLst, truD, List.length_cons, List.length_nil, List.map_cons, List.map_nil, List.cons_append, List.nil_append, List.replicate_succ, List.replicate_zero, List.getElem?_cons_zero, List.getElem?_cons_succ, List.set_cons_succ, List.set_cons_zero, Nat.reduceAdd, Nat.reduceSub, Nat.sub_self, if_true, decide_true, decide_false, Bool.not_true, Bool.not_false, Bool.false_eq_true, if_false, reduceCtorEq, dPow, hpow, three, c1', f1, c2, c3, c4, c5, ha2]
  · exact sz_low (by omega) (lt_up y1) (lt_up (mul_lt y2 D.r5)) (lt_up D.e5) (lt_up y3)
theorem turn_ok (n : Nat) (hn : n ≤ 10000) (sp : Spl) (hp : Pl n sp) (a0 a2 a3 a4 a5 a6 a7 a8 a9 a10 a11 a12 a13 a14 : Option SV) :
    ∃ b3 b4 b5 b6 b7 b8 b9 b10 b11 b12 b13 b14 sp', law_turn ⟨[a0, some .spl, a2, a3, a4, a5, a6, a7, a8, a9, a10, a11, a12, a13, a14], sp⟩ = some (.nx ⟨[a0, some .spl, a2, b3, b4, b5, b6, b7, b8, b9, b10, b11, b12, b13, b14], sp'⟩) ∧ Pl (n + 14) sp' := by
  obtain ⟨d, c1, hd⟩ := choice_ok [2, 3, 5, 6, 12, 45] sp n hp (by omega) (by simp) (by simp)
  have c1' : m_law_choice [.lst [.int 2, .int 3, .int 5, .int 6, .int 12, .int 45]] sp = some (.int d, upS sp 6) := c1
  clear c1
  obtain ⟨r, e, D⟩ := dok hd
  clear hd
  have p1 := pl_up (b := 6) hp
  generalize upS sp 6 = sp1 at *
  have six : (6 : Nat) ≤ sizeLine := by decide
  have zero : (0 : Nat) ≤ sizeLine := by decide
  have hr3 : inR 3 = true := rfl
  have rg : rngD 0 (Int.toNat 3) = [.int 0, .int 1, .int 2] := rfl
  obtain ⟨x, q6, q7, q8, sp2, i1, cx, zx, p2⟩ := in_ok D [] (by simp) _ (by omega) sp1 p1 a0 a2 (some (.dat (.int 0))) a6 a7 a8 a9 a10 a11 a12 a13 a14
  obtain ⟨y, u6, u7, u8, sp3, i2, cy, zy, p3⟩ := in_ok D [nm x] (by simp) _ (by omega) sp2 p2 a0 a2 (some (.dat (.int 1))) q6 q7 q8 a9 a10 a11 a12 a13 a14
  obtain ⟨z, w6, w7, w8, sp4, i3, cz, zz, p4⟩ := in_ok D [nm x, nm y] (by simp) _ (by omega) sp3 p3 a0 a2 (some (.dat (.int 2))) u6 u7 u8 a9 a10 a11 a12 a13 a14
  obtain ⟨b12, b13, b14, sp5, r1, p5⟩ := rest_ok D.ns D.e1 (lt_up D.e5) D.d0 D.d60 D.sq D.r0 (lt_up D.r5) D.rd cx cy cz zx zy zz _ (by omega) sp4 p4 a0 a2 (some (.dat (.lst [nm x, nm y, nm z]))) (some (.dat (.int 2))) w6 w7 w8 a12 a13 a14
  refine ⟨some (.dat (.int d)), some (.dat (.lst [nm x, nm y, nm z])), some (.dat (.int 2)), w6, w7, w8, some (.dat (nm x)), some (.dat (nm y)), some (.dat (nm z)), b12, b13, b14, sp5, ?_, p5⟩
  unfold law_turn
  simp only [bodyP, bodyS, sSeq, sIf, sNx, sRt, sAsg, sDr, sPar, sAug, sSp, sOwn, sApp, lDs, eSp, eS, tBl, tTr, tAn, tOo, tNo, eC, eV, eA, eIf, eAn, eOo, eNo, e1, e2, eIxN, FD.peek, aCons, aNil, gNm, gTp, gLs, gCo, gNi, dI, dAddI, dMulI, dAdd, dSub, dMul, dFdiv, dMod, dNeg, dGcd, dMax, dMin, dAbs, dSq, dLen, dEq_int, dNe_int, dIx, oTup, oLst, truD, List.length_cons, List.length_nil, List.map_cons, List.map_nil, List.cons_append, List.nil_append, List.replicate_succ, List.replicate_zero, List.getElem?_cons_zero, List.getElem?_cons_succ, List.set_cons_succ, List.set_cons_zero, Nat.reduceAdd, Nat.reduceSub, Nat.sub_self, if_true, decide_true, decide_false, Bool.not_true, Bool.not_false, Bool.false_eq_true, if_false, reduceCtorEq, c1', six, zero, sFr, iRg1, hr3, rg, frN, i1, i2, i3, r1]
theorem turns_ok : ∀ (ds : List DV) (n : Nat) (sp : Spl) (a2 a3 a4 a5 a6 a7 a8 a9 a10 a11 a12 a13 a14 : Option SV) (a0 : Option SV), n + 14 * ds.length ≤ 10000 → Pl n sp →
    ∃ s', frN ds (gNm 2) law_turn ⟨[a0, some .spl, a2, a3, a4, a5, a6, a7, a8, a9, a10, a11, a12, a13, a14], sp⟩ = some (.nx s')
  | [], _, sp, a2, a3, a4, a5, a6, a7, a8, a9, a10, a11, a12, a13, a14, a0, _, _ => ⟨_, rfl⟩
  | d :: ds, n, sp, a2, a3, a4, a5, a6, a7, a8, a9, a10, a11, a12, a13, a14, a0, hn, hp => by
    rw [List.length_cons] at hn
    obtain ⟨b3, b4, b5, b6, b7, b8, b9, b10, b11, b12, b13, b14, sp', h, p⟩ := turn_ok n (by omega) sp hp a0 (some (.dat d)) a3 a4 a5 a6 a7 a8 a9 a10 a11 a12 a13 a14
    obtain ⟨s', h'⟩ := turns_ok ds (n + 14) sp' (some (.dat d)) b3 b4 b5 b6 b7 b8 b9 b10 b11 b12 b13 b14 a0 (by omega) p
    refine ⟨s', ?_⟩
    simp only [frN, gNm, List.set_cons_succ, List.set_cons_zero, h, h']
theorem law_ok (ns : List Int) (h : ns.length ≤ 63) : ∃ nums s', sf ns = some nums ∧ b_law ⟨some (.dat (.scr ns)) :: some .spl :: List.replicate (15 - 2) none, ⟨nums, 0, 0, 0⟩⟩ = some (.rt (.bl true) s') := by
  have h8 : inR 8 = true := rfl
  have hl : (rngD 0 (Int.toNat 8)).length = 8 := rfl
  obtain ⟨s', e⟩ := turns_ok (rngD 0 (Int.toNat 8)) 0 ⟨sfN ns, 0, 0, 0⟩ none none none none none none none none none none none none none (some (.dat (.scr ns))) (by rw [hl]; decide) (Nat.le_refl 0)
  refine ⟨sfN ns, s', if_pos h, ?_⟩
  rw [b_law_eq]
  show sSeq _ _ ⟨[some (.dat (.scr ns)), some .spl, none, none, none, none, none, none, none, none, none, none, none, none, none], _⟩ = _
  simp only [sSeq, sFr, iRg1, aCons, aNil, eC, h8, if_true, e, sRt]
end TS

set_option maxRecDepth 100000
set_option maxHeartbeats 0
namespace TS
open PySem PySem.Spec PyProof.Rows L2 FD
def topS (i : Nat) : Stmt := PySem.Challenge.pw_twospeeds_k05_whole_field_of_numbers.main.body.getD i (.Pass ⟨0, 0, 0, 0⟩)
abbrev st_number : Stmt := topS 7
theorem sc_number : FnScope ["p", "q", "d", "s", "root", "rest"] ["p", "q", "d", "s"] (defScope st_number) := ⟨rfl, rfl, rfl, by decide +kernel, rfl, by decide +kernel, by decide +kernel⟩
abbrev st_lowest : Stmt := topS 8
theorem sc_lowest : FnScope ["p", "q", "d", "s", "common"] ["p", "q", "d", "s"] (defScope st_lowest) := ⟨rfl, rfl, rfl, by decide +kernel, rfl, by decide +kernel, by decide +kernel⟩
abbrev st_split_square : Stmt := topS 9
theorem sc_split_square : FnScope ["d", "root", "rest", "left", "factor", "half"] ["d"] (defScope st_split_square) := ⟨rfl, rfl, rfl, by decide +kernel, rfl, by decide +kernel, by decide +kernel⟩
abbrev st_sign : Stmt := topS 10
theorem sc_sign : FnScope ["one"] ["one"] (defScope st_sign) := ⟨rfl, rfl, rfl, by decide +kernel, rfl, by decide +kernel, by decide +kernel⟩
abbrev st_surd_sign : Stmt := topS 11
theorem sc_surd_sign : FnScope ["p", "q", "d"] ["p", "q", "d"] (defScope st_surd_sign) := ⟨rfl, rfl, rfl, by decide +kernel, rfl, by decide +kernel, by decide +kernel⟩
abbrev st_integer_sign : Stmt := topS 12
theorem sc_integer_sign : FnScope ["n"] ["n"] (defScope st_integer_sign) := ⟨rfl, rfl, rfl, by decide +kernel, rfl, by decide +kernel, by decide +kernel⟩
abbrev st_floor : Stmt := topS 13
theorem sc_floor : FnScope ["one", "p", "q", "d", "s", "root"] ["one"] (defScope st_floor) := ⟨rfl, rfl, rfl, by decide +kernel, rfl, by decide +kernel, by decide +kernel⟩
abbrev st_compare : Stmt := topS 14
theorem sc_compare : FnScope ["first", "second", "p", "q", "d", "s", "other_p", "other_q", "other_d", "other_s", "whole", "left", "right", "near", "far", "squares"] ["first", "second"] (defScope st_compare) := ⟨rfl, rfl, rfl, by decide +kernel, rfl, by decide +kernel, by decide +kernel⟩
abbrev st_plus : Stmt := topS 15
theorem sc_plus : FnScope ["first", "second", "d", "p", "q", "_", "s", "other_p", "other_q", "other_s"] ["first", "second"] (defScope st_plus) := ⟨rfl, rfl, rfl, by decide +kernel, rfl, by decide +kernel, by decide +kernel⟩
abbrev st_minus : Stmt := topS 16
theorem sc_minus : FnScope ["first", "second"] ["first", "second"] (defScope st_minus) := ⟨rfl, rfl, rfl, by decide +kernel, rfl, by decide +kernel, by decide +kernel⟩
abbrev st_times : Stmt := topS 17
theorem sc_times : FnScope ["first", "second", "d", "p", "q", "_", "s", "other_p", "other_q", "other_s"] ["first", "second"] (defScope st_times) := ⟨rfl, rfl, rfl, by decide +kernel, rfl, by decide +kernel, by decide +kernel⟩
abbrev st_over : Stmt := topS 18
theorem sc_over : FnScope ["first", "second", "p", "q", "d", "s"] ["first", "second"] (defScope st_over) := ⟨rfl, rfl, rfl, by decide +kernel, rfl, by decide +kernel, by decide +kernel⟩
abbrev st_opposite : Stmt := topS 19
theorem sc_opposite : FnScope ["one", "p", "q", "d", "s"] ["one"] (defScope st_opposite) := ⟨rfl, rfl, rfl, by decide +kernel, rfl, by decide +kernel, by decide +kernel⟩
abbrev st_common_root : Stmt := topS 20
theorem sc_common_root : FnScope ["first", "second", "d", "other_d"] ["first", "second"] (defScope st_common_root) := ⟨rfl, rfl, rfl, by decide +kernel, rfl, by decide +kernel, by decide +kernel⟩
abbrev st_law_stirred : Stmt := topS 22
theorem sc_law_stirred : FnScope ["cell", "place", "modulus", "value", "turn"] ["cell", "place"] (defScope st_law_stirred) := ⟨rfl, rfl, rfl, by decide +kernel, rfl, by decide +kernel, by decide +kernel⟩
abbrev st_law_spool_of : Stmt := topS 23
theorem sc_law_spool_of : FnScope ["script", "cell", "numbers", "place"] ["script"] (defScope st_law_spool_of) := ⟨rfl, rfl, rfl, by decide +kernel, rfl, by decide +kernel, by decide +kernel⟩
abbrev st_law_upto : Stmt := topS 24
theorem sc_law_upto : FnScope ["spool", "bound", "numbers", "place", "cell", "found"] ["spool", "bound"] (defScope st_law_upto) := ⟨rfl, rfl, rfl, by decide +kernel, rfl, by decide +kernel, by decide +kernel⟩
abbrev st_law_choice : Stmt := topS 25
theorem sc_law_choice : FnScope ["spool", "items"] ["spool", "items"] (defScope st_law_choice) := ⟨rfl, rfl, rfl, by decide +kernel, rfl, by decide +kernel, by decide +kernel⟩
abbrev st_law : Stmt := topS 26
theorem sc_law : FnScope ["script", "spool", "turn", "d", "some", "index", "size", "p", "q", "one", "two", "three", "low", "value", "root"] ["script"] (defScope st_law) := ⟨rfl, rfl, rfl, by decide +kernel, rfl, by decide +kernel, by decide +kernel⟩
section
variable {P : Program} {w : World} {K : PySem.W.Frag} {mg : Str → Option Value} {base : Heap} {f : Addr} {fd : FuncData}
theorem ok0_number (F : FunD K "number" "number" (defArgs st_number) (defBody st_number) (defScope st_number) [] [] f fd) (D_lowest : DefOk P w K mg base 1 "lowest" ["p", "q", "d", "s"] (spP K m_lowest)) (D_split_square : DefOk P w K mg base 1 "split_square" ["d"] (spP K m_split_square)) : FnOk P w K mg base CX0 2 f fd ["p", "q", "d", "s"] (spP K (bodyP 4 6 b_number)) :=
  fn_pure (k := 1) F sc_number fun C cdv A outer s H E hsp hr =>
    fs_cons (fs_if (ft_lt (fv 2) (fe_int)) (fs_one (fs_never)) (fs_nil))
    (fs_cons (fs_if (ft_eq hr.units (fv 3) (fe_int)) (fs_one (fs_never)) (fs_nil))
    (fs_cons (fs_asg (fe_def D_split_square hr (by decide) (fa_cons (fv 2) (fa_nil))) (fg_tup rfl (fgs_cons (fg_name 4 sc_number.nd) (fgs_cons (fg_name 5 sc_number.nd) (fgs_nil)))))
    (fs_cons (fs_if (ft_eq hr.units (fv 5) (fe_int)) (fs_one (fs_ret (fe_def D_lowest hr (by decide) (fa_cons (fe_add (fv 0) (fe_mul (fv 1) (fv 4))) (fa_cons (fe_int) (fa_cons (fe_int) (fa_cons (fv 3) (fa_nil)))))))) (fs_nil))
    (fs_one (fs_ret (fe_def D_lowest hr (by decide) (fa_cons (fv 0) (fa_cons (fe_mul (fv 1) (fv 4)) (fa_cons (fv 5) (fa_cons (fv 3) (fa_nil)))))))))))
theorem ok0_lowest (F : FunD K "lowest" "lowest" (defArgs st_lowest) (defBody st_lowest) (defScope st_lowest) [] [] f fd) (m_gcd : mg "gcd" = some (.builtin "math.gcd")) : FnOk P w K mg base CX0 1 f fd ["p", "q", "d", "s"] (spP K (bodyP 4 5 b_lowest)) :=
  fn_pure (k := 0) F sc_lowest fun C cdv A outer s H E hsp hr =>
    fs_cons (fs_set 4 (fe_gcd m_gcd (fa_cons (fv 0) (fa_cons (fv 1) (fa_cons (fv 3) (fa_nil))))) sc_lowest.nd)
    (fs_cons (fs_if (ft_lt (fv 3) (fe_int)) (fs_one (fs_set 4 (fe_neg (fv 4)) sc_lowest.nd)) (fs_nil))
    (fs_cons (fs_if (ft_eq hr.units (fv 1) (fe_int)) (fs_one (fs_ret (fe_tup (fa_cons (fe_fdiv (fv 0) (fv 4)) (fa_cons (fe_int) (fa_cons (fe_int) (fa_cons (fe_fdiv (fv 3) (fv 4)) (fa_nil)))))))) (fs_nil))
    (fs_one (fs_ret (fe_tup (fa_cons (fe_fdiv (fv 0) (fv 4)) (fa_cons (fe_fdiv (fv 1) (fv 4)) (fa_cons (fv 2) (fa_cons (fe_fdiv (fv 3) (fv 4)) (fa_nil))))))))))
theorem ok0_split_square (F : FunD K "split_square" "split_square" (defArgs st_split_square) (defBody st_split_square) (defScope st_split_square) [] [] f fd) (m_isqrt : mg "isqrt" = some (.builtin "math.isqrt")) : FnOk P w K mg base CX0 1 f fd ["d"] (spP K (bodyP 1 6 b_split_square)) :=
  fn_pure (k := 0) F sc_split_square fun C cdv A outer s H E hsp hr =>
    fs_cons (fs_set 1 (fe_int) sc_split_square.nd)
    (fs_cons (fs_set 2 (fe_int) sc_split_square.nd)
    (fs_cons (fs_set 3 (fv 0) sc_split_square.nd)
    (fs_cons (fs_set 4 (fe_int) sc_split_square.nd)
    (fs_cons (fs_while (fun s => (slI s 0).toNat + 2) PassesOwn.never (ft_le (fe_mul (fe_mul (fv 4) (fv 4)) (fv 4)) (fv 3)) (fs_cons (fs_while (fun s => (slI s 3).toNat) PassesOwn.never (ft_eq hr.units (fe_mod (fv 3) (fe_mul (fv 4) (fv 4))) (fe_int)) (fs_cons (fs_ifdiv 3 (fe_mul (fv 4) (fv 4)) sc_split_square.nd)
    (fs_one (fs_imul 1 (fv 4) sc_split_square.nd))))
    (fs_cons (fs_if (ft_eq hr.units (fe_mod (fv 3) (fv 4)) (fe_int)) (fs_cons (fs_ifdiv 3 (fv 4) sc_split_square.nd)
    (fs_one (fs_imul 2 (fv 4) sc_split_square.nd))) (fs_nil))
    (fs_one (fs_iadd 4 (fe_int) sc_split_square.nd)))))
    (fs_cons (fs_set 5 (fe_isqrt m_isqrt (fa_cons (fv 3) (fa_nil))) sc_split_square.nd)
    (fs_cons (fs_if (ft_eq hr.units (fe_mul (fv 5) (fv 5)) (fv 3)) (fs_one (fs_ret (fe_tup (fa_cons (fe_mul (fv 1) (fv 5)) (fa_cons (fv 2) (fa_nil)))))) (fs_nil))
    (fs_one (fs_ret (fe_tup (fa_cons (fv 1) (fa_cons (fe_mul (fv 2) (fv 3)) (fa_nil))))))))))))
theorem ok0_sign (F : FunD K "sign" "sign" (defArgs st_sign) (defBody st_sign) (defScope st_sign) [] [] f fd) (D_surd_sign : DefOk P w K mg base 2 "surd_sign" ["p", "q", "d"] (spP K m_surd_sign)) : FnOk P w K mg base CX0 3 f fd ["one"] (spP K (bodyP 1 1 b_sign)) :=
  fn_pure (k := 2) F sc_sign fun C cdv A outer s H E hsp hr =>
    fs_one (fs_ret (fe_def D_surd_sign hr (by decide) (fa_cons (fe_ixn 0 (fe_int)) (fa_cons (fe_ixn 0 (fe_int)) (fa_cons (fe_ixn 0 (fe_int)) (fa_nil))))))
theorem ok0_surd_sign (F : FunD K "surd_sign" "surd_sign" (defArgs st_surd_sign) (defBody st_surd_sign) (defScope st_surd_sign) [] [] f fd) (D_integer_sign : DefOk P w K mg base 1 "integer_sign" ["n"] (spP K m_integer_sign)) : FnOk P w K mg base CX0 2 f fd ["p", "q", "d"] (spP K (bodyP 3 3 b_surd_sign)) :=
  fn_pure (k := 1) F sc_surd_sign fun C cdv A outer s H E hsp hr =>
    fs_cons (fs_if (ft_gt (fe_mul (fv 0) (fv 0)) (fe_mul (fe_mul (fv 1) (fv 1)) (fv 2))) (fs_one (fs_ret (fe_def D_integer_sign hr (by decide) (fa_cons (fv 0) (fa_nil))))) (fs_nil))
    (fs_one (fs_ret (fe_def D_integer_sign hr (by decide) (fa_cons (fv 1) (fa_nil)))))
theorem ok0_integer_sign (F : FunD K "integer_sign" "integer_sign" (defArgs st_integer_sign) (defBody st_integer_sign) (defScope st_integer_sign) [] [] f fd)  : FnOk P w K mg base CX0 1 f fd ["n"] (spP K (bodyP 1 1 b_integer_sign)) :=
  fn_pure (k := 0) F sc_integer_sign fun C cdv A outer s H E hsp hr =>
    fs_cons (fs_if (ft_gt (fv 0) (fe_int)) (fs_one (fs_ret (fe_int))) (fs_nil))
    (fs_cons (fs_if (ft_lt (fv 0) (fe_int)) (fs_one (fs_ret (fe_neg (fe_int)))) (fs_nil))
    (fs_one (fs_ret (fe_int))))
theorem ok0_floor (F : FunD K "floor" "floor" (defArgs st_floor) (defBody st_floor) (defScope st_floor) [] [] f fd) (m_isqrt : mg "isqrt" = some (.builtin "math.isqrt")) : FnOk P w K mg base CX0 1 f fd ["one"] (spP K (bodyP 1 6 b_floor)) :=
  fn_pure (k := 0) F sc_floor fun C cdv A outer s H E hsp hr =>
    fs_cons (fs_asg (fv 0) (fg_tup rfl (fgs_cons (fg_name 1 sc_floor.nd) (fgs_cons (fg_name 2 sc_floor.nd) (fgs_cons (fg_name 3 sc_floor.nd) (fgs_cons (fg_name 4 sc_floor.nd) (fgs_nil)))))))
    (fs_cons (fs_set 5 (fe_isqrt m_isqrt (fa_cons (fe_mul (fe_mul (fv 2) (fv 2)) (fv 3)) (fa_nil))) sc_floor.nd)
    (fs_cons (fs_if (ft_lt (fv 2) (fe_int)) (fs_one (fs_ret (fe_fdiv (fe_sub (fe_sub (fv 1) (fv 5)) (fe_int)) (fv 4)))) (fs_nil))
    (fs_one (fs_ret (fe_fdiv (fe_add (fv 1) (fv 5)) (fv 4))))))
theorem ok0_compare (F : FunD K "compare" "compare" (defArgs st_compare) (defBody st_compare) (defScope st_compare) [] [] f fd) (D_surd_sign : DefOk P w K mg base 2 "surd_sign" ["p", "q", "d"] (spP K m_surd_sign)) (D_integer_sign : DefOk P w K mg base 1 "integer_sign" ["n"] (spP K m_integer_sign)) : FnOk P w K mg base CX0 3 f fd ["first", "second"] (spP K (bodyP 2 16 b_compare)) :=
  fn_pure (k := 2) F sc_compare fun C cdv A outer s H E hsp hr =>
    fs_cons (fs_asg (fv 0) (fg_tup rfl (fgs_cons (fg_name 2 sc_compare.nd) (fgs_cons (fg_name 3 sc_compare.nd) (fgs_cons (fg_name 4 sc_compare.nd) (fgs_cons (fg_name 5 sc_compare.nd) (fgs_nil)))))))
    (fs_cons (fs_asg (fv 1) (fg_tup rfl (fgs_cons (fg_name 6 sc_compare.nd) (fgs_cons (fg_name 7 sc_compare.nd) (fgs_cons (fg_name 8 sc_compare.nd) (fgs_cons (fg_name 9 sc_compare.nd) (fgs_nil)))))))
    (fs_cons (fs_set 10 (fe_sub (fe_mul (fv 2) (fv 9)) (fe_mul (fv 6) (fv 5))) sc_compare.nd)
    (fs_cons (fs_set 11 (fe_mul (fv 3) (fv 9)) sc_compare.nd)
    (fs_cons (fs_set 12 (fe_mul (fe_neg (fv 7)) (fv 5)) sc_compare.nd)
    (fs_cons (fs_if (ft_eq hr.units (fv 4) (fv 8)) (fs_one (fs_ret (fe_def D_surd_sign hr (by decide) (fa_cons (fv 10) (fa_cons (fe_add (fv 11) (fv 12)) (fa_cons (fv 4) (fa_nil))))))) (fs_nil))
    (fs_cons (fs_set 13 (fe_def D_surd_sign hr (by decide) (fa_cons (fv 10) (fa_cons (fv 11) (fa_cons (fv 4) (fa_nil))))) sc_compare.nd)
    (fs_cons (fs_set 14 (fe_def D_integer_sign hr (by decide) (fa_cons (fv 12) (fa_nil))) sc_compare.nd)
    (fs_cons (fs_if ((fw_or (ft_eq hr.units (fv 13) (fv 14)) (fw_or1 (ft_eq hr.units (fv 14) (fe_int)))).ft) (fs_one (fs_ret (fv 13))) (fs_nil))
    (fs_cons (fs_if (ft_eq hr.units (fv 13) (fe_int)) (fs_one (fs_ret (fv 14))) (fs_nil))
    (fs_cons (fs_set 15 (fe_sub (fe_add (fe_mul (fv 10) (fv 10)) (fe_mul (fe_mul (fv 11) (fv 11)) (fv 4))) (fe_mul (fe_mul (fv 12) (fv 12)) (fv 8))) sc_compare.nd)
    (fs_one (fs_ret (fe_mul (fv 13) (fe_def D_surd_sign hr (by decide) (fa_cons (fv 15) (fa_cons (fe_mul (fe_mul (fe_int) (fv 10)) (fv 11)) (fa_cons (fv 4) (fa_nil))))))))))))))))))
theorem ok0_plus (F : FunD K "plus" "plus" (defArgs st_plus) (defBody st_plus) (defScope st_plus) [] [] f fd) (D_lowest : DefOk P w K mg base 1 "lowest" ["p", "q", "d", "s"] (spP K m_lowest)) (D_common_root : DefOk P w K mg base 1 "common_root" ["first", "second"] (spP K m_common_root)) : FnOk P w K mg base CX0 2 f fd ["first", "second"] (spP K (bodyP 2 10 b_plus)) :=
  fn_pure (k := 1) F sc_plus fun C cdv A outer s H E hsp hr =>
    fs_cons (fs_set 2 (fe_def D_common_root hr (by decide) (fa_cons (fv 0) (fa_cons (fv 1) (fa_nil)))) sc_plus.nd)
    (fs_cons (fs_asg (fv 0) (fg_tup rfl (fgs_cons (fg_name 3 sc_plus.nd) (fgs_cons (fg_name 4 sc_plus.nd) (fgs_cons (fg_name 5 sc_plus.nd) (fgs_cons (fg_name 6 sc_plus.nd) (fgs_nil)))))))
    (fs_cons (fs_asg (fv 1) (fg_tup rfl (fgs_cons (fg_name 7 sc_plus.nd) (fgs_cons (fg_name 8 sc_plus.nd) (fgs_cons (fg_name 5 sc_plus.nd) (fgs_cons (fg_name 9 sc_plus.nd) (fgs_nil)))))))
    (fs_one (fs_ret (fe_def D_lowest hr (by decide) (fa_cons (fe_add (fe_mul (fv 3) (fv 9)) (fe_mul (fv 7) (fv 6))) (fa_cons (fe_add (fe_mul (fv 4) (fv 9)) (fe_mul (fv 8) (fv 6))) (fa_cons (fv 2) (fa_cons (fe_mul (fv 6) (fv 9)) (fa_nil))))))))))
theorem ok0_minus (F : FunD K "minus" "minus" (defArgs st_minus) (defBody st_minus) (defScope st_minus) [] [] f fd) (D_plus : DefOk P w K mg base 2 "plus" ["first", "second"] (spP K m_plus)) (D_opposite : DefOk P w K mg base 1 "opposite" ["one"] (spP K m_opposite)) : FnOk P w K mg base CX0 3 f fd ["first", "second"] (spP K (bodyP 2 2 b_minus)) :=
  fn_pure (k := 2) F sc_minus fun C cdv A outer s H E hsp hr =>
    fs_one (fs_ret (fe_def D_plus hr (by decide) (fa_cons (fv 0) (fa_cons (fe_def D_opposite hr (by decide) (fa_cons (fv 1) (fa_nil))) (fa_nil)))))
theorem ok0_times (F : FunD K "times" "times" (defArgs st_times) (defBody st_times) (defScope st_times) [] [] f fd) (D_lowest : DefOk P w K mg base 1 "lowest" ["p", "q", "d", "s"] (spP K m_lowest)) (D_common_root : DefOk P w K mg base 1 "common_root" ["first", "second"] (spP K m_common_root)) : FnOk P w K mg base CX0 2 f fd ["first", "second"] (spP K (bodyP 2 10 b_times)) :=
  fn_pure (k := 1) F sc_times fun C cdv A outer s H E hsp hr =>
    fs_cons (fs_set 2 (fe_def D_common_root hr (by decide) (fa_cons (fv 0) (fa_cons (fv 1) (fa_nil)))) sc_times.nd)
    (fs_cons (fs_asg (fv 0) (fg_tup rfl (fgs_cons (fg_name 3 sc_times.nd) (fgs_cons (fg_name 4 sc_times.nd) (fgs_cons (fg_name 5 sc_times.nd) (fgs_cons (fg_name 6 sc_times.nd) (fgs_nil)))))))
    (fs_cons (fs_asg (fv 1) (fg_tup rfl (fgs_cons (fg_name 7 sc_times.nd) (fgs_cons (fg_name 8 sc_times.nd) (fgs_cons (fg_name 5 sc_times.nd) (fgs_cons (fg_name 9 sc_times.nd) (fgs_nil)))))))
    (fs_one (fs_ret (fe_def D_lowest hr (by decide) (fa_cons (fe_add (fe_mul (fv 3) (fv 7)) (fe_mul (fe_mul (fv 4) (fv 8)) (fv 2))) (fa_cons (fe_add (fe_mul (fv 3) (fv 8)) (fe_mul (fv 4) (fv 7))) (fa_cons (fv 2) (fa_cons (fe_mul (fv 6) (fv 9)) (fa_nil))))))))))
theorem ok0_over (F : FunD K "over" "over" (defArgs st_over) (defBody st_over) (defScope st_over) [] [] f fd) (D_times : DefOk P w K mg base 2 "times" ["first", "second"] (spP K m_times)) (D_lowest : DefOk P w K mg base 1 "lowest" ["p", "q", "d", "s"] (spP K m_lowest)) : FnOk P w K mg base CX0 3 f fd ["first", "second"] (spP K (bodyP 2 6 b_over)) :=
  fn_pure (k := 2) F sc_over fun C cdv A outer s H E hsp hr =>
    fs_cons (fs_asg (fv 1) (fg_tup rfl (fgs_cons (fg_name 2 sc_over.nd) (fgs_cons (fg_name 3 sc_over.nd) (fgs_cons (fg_name 4 sc_over.nd) (fgs_cons (fg_name 5 sc_over.nd) (fgs_nil)))))))
    (fs_cons (fs_if ((fw_and (ft_eq hr.units (fv 2) (fe_int)) (fw_and1 (ft_eq hr.units (fv 3) (fe_int)))).ft) (fs_one (fs_never)) (fs_nil))
    (fs_one (fs_ret (fe_def D_times hr (by decide) (fa_cons (fv 0) (fa_cons (fe_def D_lowest hr (by decide) (fa_cons (fe_mul (fv 2) (fv 5)) (fa_cons (fe_mul (fe_neg (fv 3)) (fv 5)) (fa_cons (fv 4) (fa_cons (fe_sub (fe_mul (fv 2) (fv 2)) (fe_mul (fe_mul (fv 3) (fv 3)) (fv 4))) (fa_nil)))))) (fa_nil)))))))
theorem ok0_opposite (F : FunD K "opposite" "opposite" (defArgs st_opposite) (defBody st_opposite) (defScope st_opposite) [] [] f fd)  : FnOk P w K mg base CX0 1 f fd ["one"] (spP K (bodyP 1 5 b_opposite)) :=
  fn_pure (k := 0) F sc_opposite fun C cdv A outer s H E hsp hr =>
    fs_cons (fs_asg (fv 0) (fg_tup rfl (fgs_cons (fg_name 1 sc_opposite.nd) (fgs_cons (fg_name 2 sc_opposite.nd) (fgs_cons (fg_name 3 sc_opposite.nd) (fgs_cons (fg_name 4 sc_opposite.nd) (fgs_nil)))))))
    (fs_one (fs_ret (fe_tup (fa_cons (fe_neg (fv 1)) (fa_cons (fe_neg (fv 2)) (fa_cons (fv 3) (fa_cons (fv 4) (fa_nil))))))))
theorem ok0_common_root (F : FunD K "common_root" "common_root" (defArgs st_common_root) (defBody st_common_root) (defScope st_common_root) [] [] f fd) (m_max : mg "max" = none) : FnOk P w K mg base CX0 1 f fd ["first", "second"] (spP K (bodyP 2 4 b_common_root)) :=
  fn_pure (k := 0) F sc_common_root fun C cdv A outer s H E hsp hr =>
    fs_cons (fs_set 2 (fe_ixn 0 (fe_int)) sc_common_root.nd)
    (fs_cons (fs_set 3 (fe_ixn 1 (fe_int)) sc_common_root.nd)
    (fs_cons (fs_if ((fw_and (ft_ne hr.units (fv 2) (fv 3)) (fw_and (ft_ne hr.units (fv 2) (fe_int)) (fw_and1 (ft_ne hr.units (fv 3) (fe_int))))).ft) (fs_one (fs_never)) (fs_nil))
    (fs_one (fs_ret (fe_max rfl m_max (fa_cons (fv 2) (fa_cons (fv 3) (fa_nil))))))))
theorem ok0_law_stirred (F : FunD K "_law_stirred" "_law_stirred" (defArgs st_law_stirred) (defBody st_law_stirred) (defScope st_law_stirred) [] [] f fd) (m_range : mg "range" = none) : FnOk P w K mg base CX0 1 f fd ["cell", "place"] (spP K (bodyP 2 5 b_law_stirred)) :=
  fn_pure (k := 0) F sc_law_stirred fun C cdv A outer s H E hsp hr =>
    fs_cons (fs_set 2 (fe_int) sc_law_stirred.nd)
    (fs_cons (fs_set 3 (fe_mod (fe_add (fe_add (fe_mul (fv 0) (fe_int)) (fe_mul (fv 1) (fe_int))) (fe_int)) (fv 2)) sc_law_stirred.nd)
    (fs_cons (fs_for PassesOwn.never rfl (fi_range1 m_range (fa_cons (fe_int) (fa_nil))) (fg_name 4 sc_law_stirred.nd) (fs_one (fs_set 3 (fe_mod (fe_add (fe_add (fe_add (fe_mul (fv 3) (fv 3)) (fe_mul (fe_int) (fv 3))) (fe_mul (fe_int) (fv 4))) (fv 1)) (fv 2)) sc_law_stirred.nd)))
    (fs_one (fs_ret (fe_add (fe_mul (fv 3) (fv 2)) (fe_mod (fe_add (fe_mul (fv 3) (fe_int)) (fv 1)) (fv 2)))))))
theorem ok0_law_spool_of (F : FunD K "_law_spool_of" "_law_spool_of" (defArgs st_law_spool_of) (defBody st_law_spool_of) (defScope st_law_spool_of) [] [] f fd) (m_abs : mg "abs" = none) (m_enumerate : mg "enumerate" = none) : FnOk P w K mg base CX0 1 f fd ["script"] (spN K (bodyN 1 4 b1_law_spool_of b2_law_spool_of b3_law_spool_of)) :=
  fn_new (k := 0) F sc_law_spool_of rfl fun C cdv A outer s H E hr =>
    ⟨fs_lco 2 1 rfl sc_law_spool_of.nd (blkOk_by (N := ["script", "cell", "numbers", "place"]) (sc := defScope st_law_spool_of) (by decide +kernel)) (fi_list (fe_sln 0 (fo_none) (fo_some (fe_int)))) (fun _ _ _ _ _ => pg_name (i := 1) sc_law_spool_of.nd rfl (Or.inl rfl)) (fun _ _ _ _ _ _ => fe_abs m_abs (fa_cons (fv 1) (fa_nil))),
    fs_for PassesOwn.never rfl (fi_enum m_enumerate (fe_sln 0 (fo_some (fe_int)) (fo_some (fe_int)))) (fg_tup rfl (fgs_cons (fg_name 3 sc_law_spool_of.nd) (fgs_cons (fg_name 1 sc_law_spool_of.nd) (fgs_nil)))) (fs_one (fs_put 2 (fe_add (fe_ixn 2 (fe_mod (fv 3) (fe_int))) (fe_abs m_abs (fa_cons (fv 1) (fa_nil)))) (fe_mod (fv 3) (fe_int)))),
    fl_lst (fa_cons (fv 2) (fa_cons (fe_int) (fa_cons (fe_int) (fa_cons (fe_int) (fa_nil)))))⟩
theorem ok0_law_upto (F : FunD K "_law_upto" "_law_upto" (defArgs st_law_upto) (defBody st_law_upto) (defScope st_law_upto) [] [] f fd) (D_law_stirred : DefOk P w K mg base 1 "_law_stirred" ["cell", "place"] (spP K m_law_stirred)) (m_len : mg "len" = none) : FnOk P w K mg base CX0 2 f fd ["spool", "bound"] (spS K (bodyS 2 6 b_law_upto)) :=
  fn_spool (k := 1) F sc_law_upto fun C cdv A outer s H E hr =>
    fs_cons (fs_if (ft_lt (fe_sp 0) (fv 1)) (fs_cons (fs_par 2 3 (fa_cons (fe_sp 0) (fa_cons (fe_sp 0) (fa_nil))) rfl sc_law_upto.nd)
    (fs_cons (fs_set 4 (fe_if (ft_ne hr.units (fv 2) (fe_lst (fa_nil))) (fe_ixn 2 (fe_mod (fv 3) (fe_len m_len (fa_cons (fv 2) (fa_nil))))) (fe_int)) sc_law_upto.nd)
    (fs_cons (fs_if ((fw_or (ft_ge (fv 3) (fe_len m_len (fa_cons (fv 2) (fa_nil)))) (fw_or1 (ft_lt (fv 4) (fe_pow (fe_int) (fe_int))))).ft) (fs_one (fs_set 4 (fe_def D_law_stirred hr (by decide) (fa_cons (fe_mod (fv 4) (fe_int)) (fa_cons (fv 3) (fa_nil)))) sc_law_upto.nd)) (fs_nil))
    (fs_cons (fs_sp 0 (fe_add (fv 3) (fe_int)))
    (fs_cons (fs_sp 0 (fv 4))
    (fs_one (fs_sp 0 (fv 4)))))))) (fs_nil))
    (fs_cons (fs_set 5 (fe_mod (fe_sp 0) (fv 1)) sc_law_upto.nd)
    (fs_cons (fs_sp 0 (fe_fdiv (fe_sp 0) (fv 1)))
    (fs_cons (fs_sp 0 (fe_fdiv (fe_sp 0) (fv 1)))
    (fs_one (fs_ret (fv 5))))))
theorem ok0_law_choice (F : FunD K "_law_choice" "_law_choice" (defArgs st_law_choice) (defBody st_law_choice) (defScope st_law_choice) [] [] f fd) (D_law_upto : DefOk P w K mg base 2 "_law_upto" ["spool", "bound"] (spS K m_law_upto)) (m_len : mg "len" = none) : FnOk P w K mg base CX0 3 f fd ["spool", "items"] (spS K (bodyS 2 2 b_law_choice)) :=
  fn_spool (k := 2) F sc_law_choice fun C cdv A outer s H E hr =>
    fs_one (fs_ret (fe_ixn 1 (fe_defS 0 D_law_upto hr (by decide) (fa_cons (fe_len m_len (fa_cons (fv 1) (fa_nil))) (fa_nil)))))

theorem ok_law (F : FunD K "law" "law" (defArgs st_law) (defBody st_law) (defScope st_law) [] [] f fd) (D_sign : DefOk P w K mg base 3 "sign" ["one"] (spP K m_sign)) (D_times : DefOk P w K mg base 2 "times" ["first", "second"] (spP K m_times)) (D_number : DefOk P w K mg base 2 "number" ["p", "q", "d", "s"] (spP K m_number)) (D_floor : DefOk P w K mg base 1 "floor" ["one"] (spP K m_floor)) (D_plus : DefOk P w K mg base 2 "plus" ["first", "second"] (spP K m_plus)) (D_law_upto : DefOk P w K mg base 2 "_law_upto" ["spool", "bound"] (spS K m_law_upto)) (D_compare : DefOk P w K mg base 3 "compare" ["first", "second"] (spP K m_compare)) (D_minus : DefOk P w K mg base 3 "minus" ["first", "second"] (spP K m_minus)) (D_over : DefOk P w K mg base 3 "over" ["first", "second"] (spP K m_over)) (D_opposite : DefOk P w K mg base 1 "opposite" ["one"] (spP K m_opposite)) (D_law_choice : DefOk P w K mg base 3 "_law_choice" ["spool", "items"] (spS K m_law_choice)) (D_law_spool_of : DefOk P w K mg base 1 "_law_spool_of" ["script"] (spN K mN_law_spool_of)) (m_range : mg "range" = none) : FnOk P w K mg base CX0 4 f fd ["script"] (spLaw K) := by
  obtain ⟨fa1, fd1, F1, hm1, hk1, hb1⟩ := D_law_spool_of
  exact fn_law (k := 3) sf F sc_law rfl
    (fun C cdv A outer s H E hr => ps_set sc_law.nd rfl (Or.inl rfl) (pe_call (F1.mono (by decide)) hr rfl hm1 hk1 hb1 .nil pass0 (pa_cons (pe_var rfl (Or.inl rfl) (by decide) (by decide)) pa_nil rfl) (by decide) rfl rfl) rfl (.inl rfl))
    (fun C cdv A outer s H E hr => fs_cons (fs_for PassesOwn.never rfl (fi_range1 m_range (fa_cons (fe_int) (fa_nil))) (fg_name 2 sc_law.nd) (fs_cons (fs_set 3 (fe_defS 1 D_law_choice hr (by decide) (fa_cons (fe_lst (fa_cons (fe_int) (fa_cons (fe_int) (fa_cons (fe_int) (fa_cons (fe_int) (fa_cons (fe_int) (fa_cons (fe_int) (fa_nil)))))))) (fa_nil))) sc_law.nd)
    (fs_cons (fs_own 4 (fl_lst (fa_nil)) sc_law.nd)
    (fs_cons (fs_for PassesOwn.never rfl (fi_range1 m_range (fa_cons (fe_int) (fa_nil))) (fg_name 5 sc_law.nd) (fs_cons (fs_set 6 (fe_defS 1 D_law_choice hr (by decide) (fa_cons (fe_lst (fa_cons (fe_int) (fa_cons (fe_int) (fa_cons (fe_pow (fe_int) (fe_int)) (fa_nil))))) (fa_nil))) sc_law.nd)
    (fs_cons (fs_par 7 8 (fa_cons (fe_sub (fe_defS 1 D_law_upto hr (by decide) (fa_cons (fe_add (fe_mul (fe_int) (fv 6)) (fe_int)) (fa_nil))) (fv 6)) (fa_cons (fe_sub (fe_defS 1 D_law_upto hr (by decide) (fa_cons (fe_add (fe_mul (fe_int) (fv 6)) (fe_int)) (fa_nil))) (fv 6)) (fa_nil))) rfl sc_law.nd)
    (fs_one (fs_app 4 (fe_def D_number hr (by decide) (fa_cons (fv 7) (fa_cons (fv 8) (fa_cons (fv 3) (fa_cons (fe_add (fe_int) (fe_defS 1 D_law_upto hr (by decide) (fa_cons (fv 6) (fa_nil)))) (fa_nil)))))))))))
    (fs_cons (fs_asg (fv 4) (fg_lst rfl (fgs_cons (fg_name 9 sc_law.nd) (fgs_cons (fg_name 10 sc_law.nd) (fgs_cons (fg_name 11 sc_law.nd) (fgs_nil))))))
    (fs_cons (fs_if (ft_ne hr.units (fe_def D_plus hr (by decide) (fa_cons (fv 9) (fa_cons (fe_def D_plus hr (by decide) (fa_cons (fv 10) (fa_cons (fv 11) (fa_nil)))) (fa_nil)))) (fe_def D_plus hr (by decide) (fa_cons (fe_def D_plus hr (by decide) (fa_cons (fv 11) (fa_cons (fv 9) (fa_nil)))) (fa_cons (fv 10) (fa_nil))))) (fs_one (fs_ret (fe_bl))) (fs_nil))
    (fs_cons (fs_if (ft_ne hr.units (fe_def D_times hr (by decide) (fa_cons (fv 9) (fa_cons (fe_def D_plus hr (by decide) (fa_cons (fv 10) (fa_cons (fv 11) (fa_nil)))) (fa_nil)))) (fe_def D_plus hr (by decide) (fa_cons (fe_def D_times hr (by decide) (fa_cons (fv 11) (fa_cons (fv 9) (fa_nil)))) (fa_cons (fe_def D_times hr (by decide) (fa_cons (fv 10) (fa_cons (fv 9) (fa_nil)))) (fa_nil))))) (fs_one (fs_ret (fe_bl))) (fs_nil))
    (fs_cons (fs_if ((fw_or (ft_ne hr.units (fe_def D_plus hr (by decide) (fa_cons (fe_def D_minus hr (by decide) (fa_cons (fv 9) (fa_cons (fv 10) (fa_nil)))) (fa_cons (fv 10) (fa_nil)))) (fv 9)) (fw_or1 (ft_ne hr.units (fe_def D_minus hr (by decide) (fa_cons (fv 9) (fa_cons (fv 10) (fa_nil)))) (fe_def D_opposite hr (by decide) (fa_cons (fe_def D_minus hr (by decide) (fa_cons (fv 10) (fa_cons (fv 9) (fa_nil)))) (fa_nil)))))).ft) (fs_one (fs_ret (fe_bl))) (fs_nil))
    (fs_cons (fs_if ((fw_and (ft_ne hr.units (fe_def D_sign hr (by decide) (fa_cons (fv 10) (fa_nil))) (fe_int)) (fw_and1 (ft_ne hr.units (fe_def D_times hr (by decide) (fa_cons (fe_def D_over hr (by decide) (fa_cons (fv 9) (fa_cons (fv 10) (fa_nil)))) (fa_cons (fv 10) (fa_nil)))) (fv 9)))).ft) (fs_one (fs_ret (fe_bl))) (fs_nil))
    (fs_cons (fs_if (ft_ne hr.units (fe_def D_compare hr (by decide) (fa_cons (fv 9) (fa_cons (fv 10) (fa_nil)))) (fe_def D_sign hr (by decide) (fa_cons (fe_def D_minus hr (by decide) (fa_cons (fv 9) (fa_cons (fv 10) (fa_nil)))) (fa_nil)))) (fs_one (fs_ret (fe_bl))) (fs_nil))
    (fs_cons (fs_if (ft_ne hr.units (fe_def D_compare hr (by decide) (fa_cons (fe_def D_plus hr (by decide) (fa_cons (fv 9) (fa_cons (fv 11) (fa_nil)))) (fa_cons (fe_def D_plus hr (by decide) (fa_cons (fv 10) (fa_cons (fv 11) (fa_nil)))) (fa_nil)))) (fe_def D_compare hr (by decide) (fa_cons (fv 9) (fa_cons (fv 10) (fa_nil))))) (fs_one (fs_ret (fe_bl))) (fs_nil))
    (fs_cons (fs_if (ft_ne hr.units (fe_mul (fe_def D_sign hr (by decide) (fa_cons (fv 11) (fa_nil))) (fe_def D_compare hr (by decide) (fa_cons (fv 9) (fa_cons (fv 10) (fa_nil))))) (fe_def D_compare hr (by decide) (fa_cons (fe_def D_times hr (by decide) (fa_cons (fv 9) (fa_cons (fv 11) (fa_nil)))) (fa_cons (fe_def D_times hr (by decide) (fa_cons (fv 10) (fa_cons (fv 11) (fa_nil)))) (fa_nil))))) (fs_one (fs_ret (fe_bl))) (fs_nil))
    (fs_cons (fs_set 12 (fe_def D_number hr (by decide) (fa_cons (fe_def D_floor hr (by decide) (fa_cons (fv 9) (fa_nil))) (fa_cons (fe_int) (fa_cons (fe_int) (fa_cons (fe_int) (fa_nil)))))) sc_law.nd)
    (fs_cons (fs_if ((fw_or (ft_gt (fe_def D_compare hr (by decide) (fa_cons (fv 12) (fa_cons (fv 9) (fa_nil)))) (fe_int)) (fw_or1 (ft_lt (fe_def D_compare hr (by decide) (fa_cons (fe_def D_plus hr (by decide) (fa_cons (fv 12) (fa_cons (fe_tup (fa_cons (fe_int) (fa_cons (fe_int) (fa_cons (fe_int) (fa_cons (fe_int) (fa_nil)))))) (fa_nil)))) (fa_cons (fv 9) (fa_nil)))) (fe_int)))).ft) (fs_one (fs_ret (fe_bl))) (fs_nil))
    (fs_cons (fs_set 13 (fe_sub (fe_defS 1 D_law_upto hr (by decide) (fa_cons (fe_int) (fa_nil))) (fe_int)) sc_law.nd)
    (fs_cons (fs_if (ft_ne hr.units (fe_def D_floor hr (by decide) (fa_cons (fe_def D_plus hr (by decide) (fa_cons (fv 9) (fa_cons (fe_def D_number hr (by decide) (fa_cons (fv 13) (fa_cons (fe_int) (fa_cons (fe_int) (fa_cons (fe_int) (fa_nil)))))) (fa_nil)))) (fa_nil))) (fe_add (fe_def D_floor hr (by decide) (fa_cons (fv 9) (fa_nil))) (fv 13))) (fs_one (fs_ret (fe_bl))) (fs_nil))
    (fs_cons (fs_set 14 (fe_def D_number hr (by decide) (fa_cons (fe_int) (fa_cons (fe_int) (fa_cons (fv 3) (fa_cons (fe_int) (fa_nil)))))) sc_law.nd)
    (fs_one (fs_if ((fw_or (ft_ne hr.units (fe_def D_times hr (by decide) (fa_cons (fv 14) (fa_cons (fv 14) (fa_nil)))) (fe_def D_number hr (by decide) (fa_cons (fv 3) (fa_cons (fe_int) (fa_cons (fe_int) (fa_cons (fe_int) (fa_nil))))))) (fw_or1 (ft_ne hr.units (fe_def D_sign hr (by decide) (fa_cons (fv 14) (fa_nil))) (fe_int)))).ft) (fs_one (fs_ret (fe_bl))) (fs_nil))))))))))))))))))))
    (fs_one (fs_ret (fe_bl)))) (by decide) law_ok
end
def d_number : He.DefD := ⟨("number", none), "number", "number", defArgs st_number, defBody st_number, defScope st_number, [], []⟩
def d_lowest : He.DefD := ⟨("lowest", none), "lowest", "lowest", defArgs st_lowest, defBody st_lowest, defScope st_lowest, [], []⟩
def d_split_square : He.DefD := ⟨("split_square", none), "split_square", "split_square", defArgs st_split_square, defBody st_split_square, defScope st_split_square, [], []⟩
def d_sign : He.DefD := ⟨("sign", none), "sign", "sign", defArgs st_sign, defBody st_sign, defScope st_sign, [], []⟩
def d_surd_sign : He.DefD := ⟨("surd_sign", none), "surd_sign", "surd_sign", defArgs st_surd_sign, defBody st_surd_sign, defScope st_surd_sign, [], []⟩
def d_integer_sign : He.DefD := ⟨("integer_sign", none), "integer_sign", "integer_sign", defArgs st_integer_sign, defBody st_integer_sign, defScope st_integer_sign, [], []⟩
def d_floor : He.DefD := ⟨("floor", none), "floor", "floor", defArgs st_floor, defBody st_floor, defScope st_floor, [], []⟩
def d_compare : He.DefD := ⟨("compare", none), "compare", "compare", defArgs st_compare, defBody st_compare, defScope st_compare, [], []⟩
def d_plus : He.DefD := ⟨("plus", none), "plus", "plus", defArgs st_plus, defBody st_plus, defScope st_plus, [], []⟩
def d_minus : He.DefD := ⟨("minus", none), "minus", "minus", defArgs st_minus, defBody st_minus, defScope st_minus, [], []⟩
def d_times : He.DefD := ⟨("times", none), "times", "times", defArgs st_times, defBody st_times, defScope st_times, [], []⟩
def d_over : He.DefD := ⟨("over", none), "over", "over", defArgs st_over, defBody st_over, defScope st_over, [], []⟩
def d_opposite : He.DefD := ⟨("opposite", none), "opposite", "opposite", defArgs st_opposite, defBody st_opposite, defScope st_opposite, [], []⟩
def d_common_root : He.DefD := ⟨("common_root", none), "common_root", "common_root", defArgs st_common_root, defBody st_common_root, defScope st_common_root, [], []⟩
def d_law_stirred : He.DefD := ⟨("_law_stirred", none), "_law_stirred", "_law_stirred", defArgs st_law_stirred, defBody st_law_stirred, defScope st_law_stirred, [], []⟩
def d_law_spool_of : He.DefD := ⟨("_law_spool_of", none), "_law_spool_of", "_law_spool_of", defArgs st_law_spool_of, defBody st_law_spool_of, defScope st_law_spool_of, [], []⟩
def d_law_upto : He.DefD := ⟨("_law_upto", none), "_law_upto", "_law_upto", defArgs st_law_upto, defBody st_law_upto, defScope st_law_upto, [], []⟩
def d_law_choice : He.DefD := ⟨("_law_choice", none), "_law_choice", "_law_choice", defArgs st_law_choice, defBody st_law_choice, defScope st_law_choice, [], []⟩
def d_law : He.DefD := ⟨("law", none), "law", "law", defArgs st_law, defBody st_law, defScope st_law, [], []⟩
def fnL : List He.DefD := ([d_number, d_lowest, d_split_square, d_sign, d_surd_sign, d_integer_sign, d_floor, d_compare, d_plus, d_minus, d_times, d_over, d_opposite, d_common_root, d_law_stirred, d_law_spool_of, d_law_upto, d_law_choice, d_law] : List He.DefD)
def faL : List He.Fa := ([.glo "number", .glo "lowest", .glo "split_square", .glo "sign", .glo "surd_sign", .glo "integer_sign", .glo "floor", .glo "compare", .glo "plus", .glo "minus", .glo "times", .glo "over", .glo "opposite", .glo "common_root", .glo "_law_stirred", .glo "_law_spool_of", .glo "_law_upto", .glo "_law_choice", .glo "law", .free "max", .free "range", .free "abs", .free "enumerate", .free "len"] : List He.Fa)
def exB (K : PySem.W.Frag) : Bool := (bltB "gcd" "math.gcd" K) && (bltB "isqrt" "math.isqrt" K) && (decide (PySem.W.nsIn K cStatics "sys.int_max_str_digits" = some none))
abbrev Rw : PySem.W.OpenRow := PySem.W.OpenLaw.row PySem.Challenge.rw_twospeeds_k05_whole_field_of_numbers
abbrev hk : PySem.W.Hook := hookX 4 faL fnL exB
def loose : List PySem.Str := (["TwoSpeedsError", "InvalidNumber", "ZeroDivisor", "OtherRoot", "number", "lowest", "split_square", "sign", "surd_sign", "integer_sign", "floor", "compare", "plus", "minus", "times", "over", "opposite", "common_root", "_law_stirred", "_law_spool_of", "_law_upto", "_law_choice"] : List PySem.Str)
theorem run (w : World) : HandSHeadRun.RunEqI Rw (PySem.W.view Rw.prog [0, 26]) hk (obT 4 faL fnL exB) 8000 loose w := by
  unfold HandSHeadRun.RunEqI
  kernel_rfl
theorem facts {P : Program} {w : World} {K : PySem.W.Frag} {h : Heap} {mg : Str → Option Value} {f : Addr} (X : K.In h) (G : h.Ns mainGlobals mg) (hfa : mg ("law" : Str) = some (.ref f)) (c : He.SaysD faL fnL K) (cx : exB K = true) :
    ∃ fd : FuncData, (∀ (s : Shared) (v : Value), BindsTo s fd ⟨[v], []⟩ [("script", v)]) ∧ ∀ base : Heap, K.In base → base.Ns mainGlobals mg → FnOk P w K mg base CX0 4 f fd ["script"] (spLaw K) := by
  obtain ⟨fd_number, F_number⟩ := c.def_ 0 (d := d_number) rfl
  have g_number := He.glo_ok X G (c.fact 0 (f := .glo "number") rfl)
  obtain ⟨fd_lowest, F_lowest⟩ := c.def_ 1 (d := d_lowest) rfl
  have g_lowest := He.glo_ok X G (c.fact 1 (f := .glo "lowest") rfl)
  obtain ⟨fd_split_square, F_split_square⟩ := c.def_ 2 (d := d_split_square) rfl
  have g_split_square := He.glo_ok X G (c.fact 2 (f := .glo "split_square") rfl)
  obtain ⟨fd_sign, F_sign⟩ := c.def_ 3 (d := d_sign) rfl
  have g_sign := He.glo_ok X G (c.fact 3 (f := .glo "sign") rfl)
  obtain ⟨fd_surd_sign, F_surd_sign⟩ := c.def_ 4 (d := d_surd_sign) rfl
  have g_surd_sign := He.glo_ok X G (c.fact 4 (f := .glo "surd_sign") rfl)
  obtain ⟨fd_integer_sign, F_integer_sign⟩ := c.def_ 5 (d := d_integer_sign) rfl
  have g_integer_sign := He.glo_ok X G (c.fact 5 (f := .glo "integer_sign") rfl)
  obtain ⟨fd_floor, F_floor⟩ := c.def_ 6 (d := d_floor) rfl
  have g_floor := He.glo_ok X G (c.fact 6 (f := .glo "floor") rfl)
  obtain ⟨fd_compare, F_compare⟩ := c.def_ 7 (d := d_compare) rfl
  have g_compare := He.glo_ok X G (c.fact 7 (f := .glo "compare") rfl)
  obtain ⟨fd_plus, F_plus⟩ := c.def_ 8 (d := d_plus) rfl
  have g_plus := He.glo_ok X G (c.fact 8 (f := .glo "plus") rfl)
  obtain ⟨fd_minus, F_minus⟩ := c.def_ 9 (d := d_minus) rfl
  have g_minus := He.glo_ok X G (c.fact 9 (f := .glo "minus") rfl)
  obtain ⟨fd_times, F_times⟩ := c.def_ 10 (d := d_times) rfl
  have g_times := He.glo_ok X G (c.fact 10 (f := .glo "times") rfl)
  obtain ⟨fd_over, F_over⟩ := c.def_ 11 (d := d_over) rfl
  have g_over := He.glo_ok X G (c.fact 11 (f := .glo "over") rfl)
  obtain ⟨fd_opposite, F_opposite⟩ := c.def_ 12 (d := d_opposite) rfl
  have g_opposite := He.glo_ok X G (c.fact 12 (f := .glo "opposite") rfl)
  obtain ⟨fd_common_root, F_common_root⟩ := c.def_ 13 (d := d_common_root) rfl
  have g_common_root := He.glo_ok X G (c.fact 13 (f := .glo "common_root") rfl)
  obtain ⟨fd_law_stirred, F_law_stirred⟩ := c.def_ 14 (d := d_law_stirred) rfl
  have g_law_stirred := He.glo_ok X G (c.fact 14 (f := .glo "_law_stirred") rfl)
  obtain ⟨fd_law_spool_of, F_law_spool_of⟩ := c.def_ 15 (d := d_law_spool_of) rfl
  have g_law_spool_of := He.glo_ok X G (c.fact 15 (f := .glo "_law_spool_of") rfl)
  obtain ⟨fd_law_upto, F_law_upto⟩ := c.def_ 16 (d := d_law_upto) rfl
  have g_law_upto := He.glo_ok X G (c.fact 16 (f := .glo "_law_upto") rfl)
  obtain ⟨fd_law_choice, F_law_choice⟩ := c.def_ 17 (d := d_law_choice) rfl
  have g_law_choice := He.glo_ok X G (c.fact 17 (f := .glo "_law_choice") rfl)
  obtain ⟨fd_law, F_law⟩ := c.def_ 18 (d := d_law) rfl
  have g_law := He.glo_ok X G (c.fact 18 (f := .glo "law") rfl)
  have m_max := He.free_ok X G (c.fact 19 (f := .free "max") rfl)
  have m_range := He.free_ok X G (c.fact 20 (f := .free "range") rfl)
  have m_abs := He.free_ok X G (c.fact 21 (f := .free "abs") rfl)
  have m_enumerate := He.free_ok X G (c.fact 22 (f := .free "enumerate") rfl)
  have m_len := He.free_ok X G (c.fact 23 (f := .free "len") rfl)
  unfold exB at cx
  simp only [Bool.and_eq_true] at cx
  obtain ⟨⟨x0, x1⟩, x2⟩ := cx
  have m_gcd := blt_ok X G x0
  have m_isqrt := blt_ok X G x1
  have e := hfa.symm.trans g_law
  cases e
  have b := L2.FunD.bindsA (ps := ["script"]) F_law fun _ _ _ _ _ _ us hl => match us, hl with | [_], _ => rfl
  refine ⟨fd_law, fun s v => b s [v] rfl, fun base _ _ => ?_⟩
  have D_lowest : DefOk P w K mg base 1 "lowest" ["p", "q", "d", "s"] (spP K m_lowest) := def_ok (st := st_lowest) F_lowest g_lowest (FD.FnOk.toP (ok0_lowest F_lowest m_gcd) t_lowest) fun _ _ _ _ _ _ us hl => match us, hl with | [_, _, _, _], _ => rfl
  have D_split_square : DefOk P w K mg base 1 "split_square" ["d"] (spP K m_split_square) := def_ok (st := st_split_square) F_split_square g_split_square (FD.FnOk.toP (ok0_split_square F_split_square m_isqrt) t_split_square) fun _ _ _ _ _ _ us hl => match us, hl with | [_], _ => rfl
  have D_integer_sign : DefOk P w K mg base 1 "integer_sign" ["n"] (spP K m_integer_sign) := def_ok (st := st_integer_sign) F_integer_sign g_integer_sign (FD.FnOk.toP (ok0_integer_sign F_integer_sign ) t_integer_sign) fun _ _ _ _ _ _ us hl => match us, hl with | [_], _ => rfl
  have D_floor : DefOk P w K mg base 1 "floor" ["one"] (spP K m_floor) := def_ok (st := st_floor) F_floor g_floor (FD.FnOk.toP (ok0_floor F_floor m_isqrt) t_floor) fun _ _ _ _ _ _ us hl => match us, hl with | [_], _ => rfl
  have D_opposite : DefOk P w K mg base 1 "opposite" ["one"] (spP K m_opposite) := def_ok (st := st_opposite) F_opposite g_opposite (FD.FnOk.toP (ok0_opposite F_opposite ) t_opposite) fun _ _ _ _ _ _ us hl => match us, hl with | [_], _ => rfl
  have D_common_root : DefOk P w K mg base 1 "common_root" ["first", "second"] (spP K m_common_root) := def_ok (st := st_common_root) F_common_root g_common_root (FD.FnOk.toP (ok0_common_root F_common_root m_max) t_common_root) fun _ _ _ _ _ _ us hl => match us, hl with | [_, _], _ => rfl
  have D_law_stirred : DefOk P w K mg base 1 "_law_stirred" ["cell", "place"] (spP K m_law_stirred) := def_ok (st := st_law_stirred) F_law_stirred g_law_stirred (FD.FnOk.toP (ok0_law_stirred F_law_stirred m_range) t_law_stirred) fun _ _ _ _ _ _ us hl => match us, hl with | [_, _], _ => rfl
  have D_law_spool_of : DefOk P w K mg base 1 "_law_spool_of" ["script"] (spN K mN_law_spool_of) := def_ok (st := st_law_spool_of) F_law_spool_of g_law_spool_of ((ok0_law_spool_of F_law_spool_of m_abs m_enumerate).imp t_law_spool_of) fun _ _ _ _ _ _ us hl => match us, hl with | [_], _ => rfl
  have D_number : DefOk P w K mg base 2 "number" ["p", "q", "d", "s"] (spP K m_number) := def_ok (st := st_number) F_number g_number (FD.FnOk.toP (ok0_number F_number D_lowest D_split_square) t_number) fun _ _ _ _ _ _ us hl => match us, hl with | [_, _, _, _], _ => rfl
  have D_surd_sign : DefOk P w K mg base 2 "surd_sign" ["p", "q", "d"] (spP K m_surd_sign) := def_ok (st := st_surd_sign) F_surd_sign g_surd_sign (FD.FnOk.toP (ok0_surd_sign F_surd_sign D_integer_sign) t_surd_sign) fun _ _ _ _ _ _ us hl => match us, hl with | [_, _, _], _ => rfl
  have D_plus : DefOk P w K mg base 2 "plus" ["first", "second"] (spP K m_plus) := def_ok (st := st_plus) F_plus g_plus (FD.FnOk.toP (ok0_plus F_plus D_lowest D_common_root) t_plus) fun _ _ _ _ _ _ us hl => match us, hl with | [_, _], _ => rfl
  have D_times : DefOk P w K mg base 2 "times" ["first", "second"] (spP K m_times) := def_ok (st := st_times) F_times g_times (FD.FnOk.toP (ok0_times F_times D_lowest D_common_root) t_times) fun _ _ _ _ _ _ us hl => match us, hl with | [_, _], _ => rfl
  have D_law_upto : DefOk P w K mg base 2 "_law_upto" ["spool", "bound"] (spS K m_law_upto) := def_ok (st := st_law_upto) F_law_upto g_law_upto (FD.FnOk.toS (ok0_law_upto F_law_upto D_law_stirred m_len) t_law_upto) fun _ _ _ _ _ _ us hl => match us, hl with | [_, _], _ => rfl
  have D_sign : DefOk P w K mg base 3 "sign" ["one"] (spP K m_sign) := def_ok (st := st_sign) F_sign g_sign (FD.FnOk.toP (ok0_sign F_sign D_surd_sign) t_sign) fun _ _ _ _ _ _ us hl => match us, hl with | [_], _ => rfl
  have D_compare : DefOk P w K mg base 3 "compare" ["first", "second"] (spP K m_compare) := def_ok (st := st_compare) F_compare g_compare (FD.FnOk.toP (ok0_compare F_compare D_surd_sign D_integer_sign) t_compare) fun _ _ _ _ _ _ us hl => match us, hl with | [_, _], _ => rfl
  have D_minus : DefOk P w K mg base 3 "minus" ["first", "second"] (spP K m_minus) := def_ok (st := st_minus) F_minus g_minus (FD.FnOk.toP (ok0_minus F_minus D_plus D_opposite) t_minus) fun _ _ _ _ _ _ us hl => match us, hl with | [_, _], _ => rfl
  have D_over : DefOk P w K mg base 3 "over" ["first", "second"] (spP K m_over) := def_ok (st := st_over) F_over g_over (FD.FnOk.toP (ok0_over F_over D_times D_lowest) t_over) fun _ _ _ _ _ _ us hl => match us, hl with | [_, _], _ => rfl
  have D_law_choice : DefOk P w K mg base 3 "_law_choice" ["spool", "items"] (spS K m_law_choice) := def_ok (st := st_law_choice) F_law_choice g_law_choice (FD.FnOk.toS (ok0_law_choice F_law_choice D_law_upto m_len) t_law_choice) fun _ _ _ _ _ _ us hl => match us, hl with | [_, _], _ => rfl
  exact ok_law F_law D_sign D_times D_number D_floor D_plus D_law_upto D_compare D_minus D_over D_opposite D_law_choice D_law_spool_of m_range
end TS
open PySem PySem.W PySem.Calls PyProof.Rows
set_option maxRecDepth 100000 in
set_option maxHeartbeats 0 in
theorem PySem.Challenge.cw_twospeeds_k05_whole_field_of_numbers_holds : PySem.Challenge.rw_twospeeds_k05_whole_field_of_numbers.Holds := by
  w_on; o_law
  refine HandSHeadRun.head_imp (r := OpenLaw.row PySem.Challenge.rw_twospeeds_k05_whole_field_of_numbers) (q := view (OpenLaw.row PySem.Challenge.rw_twospeeds_k05_whole_field_of_numbers).prog [0, 26]) (H := TS.hk) (ob := FD.obT 4 TS.faL TS.fnL TS.exB) (M := 8000) (loose := TS.loose) (d := HandSHeadRun.topDef (OpenLaw.row PySem.Challenge.rw_twospeeds_k05_whole_field_of_numbers).prog 26) (kwd := []) (FD.obT_eq 4 TS.faL TS.fnL TS.exB)
    TS.run (by kernel_rfl) (by kernel_rfl) (by kernel_rfl) (by rfl) (by first | assumption | decide +kernel) (by decide +kernel) ⟨rfl, rfl, rfl, rfl, rfl, by decide +kernel⟩ ?hw ?hc
  case hw => w_witness2
  case hc =>
    refine L2.walk_ofE (l := PySem.Challenge.rw_twospeeds_k05_whole_field_of_numbers) (n := 63) (k := 4) (x := "script") (CX := L2.CX0) rfl (by decide) (by kernel_rfl) ⟨rfl, by decide, by decide⟩ ?F (fun _ _ _ _ z => z)
    intro w mg fa h Y G hmg0
    obtain ⟨K, KX, c, cx⟩ := Y
    have hmg : mg ("law" : PySem.Str) = some (.ref fa) := by
      have e : (HandSHeadRun.topDef (OpenLaw.row PySem.Challenge.rw_twospeeds_k05_whole_field_of_numbers).prog 26).name = ("law" : PySem.Str) := by kernel_rfl
      rw [← e]
      exact hmg0
    obtain ⟨fd, hb, hF⟩ := TS.facts (P := (PySem.Challenge.rw_twospeeds_k05_whole_field_of_numbers).prog) (w := w) KX G hmg c cx
    exact ⟨K, fd, FD.spLaw K, KX, hb, fun H a ns hl _ hS => ⟨a, ns, rfl, hS, hl, fun _ => rfl⟩, hF⟩
