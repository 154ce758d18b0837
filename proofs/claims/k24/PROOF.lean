import PyProof.Rows.All
import HandS.ForMost
import HandS.ForExc
import HandS.Wide
import HandS.Gcd
import HandS.Defaults
import HandS.RaiseMore
import HandS.HeadHook1
import HandS.TupMul
import HandS.Style
import HandS.Steps
import HandS.HeadEnd
import KE.KMathG
import KE.KStateDown
import HandS.Head0
import HandS.Head1
import HandS.Head2
import HandS.Head3
import HandS.HeadHook2
import PyProof.ReprRoads
import PyProof.Rows.ReprR
import HandS.ExcValue
import HandS.ExcOwn
import HandS.ExcIs
import PyProof.Rows.Digits
import HandS.FStr
import PyProof.Rows.CountFlat
import Flt.RightSqrt
import PyProof.ReprLen
import KE.KTupSum
import HandS.IsInst
import HandS.Text
import PyProof.Draws
import HandS.Conv
import HandS.Rev
import HandS.WideBits
import PyProof.StrOps2
import HandS.Zip
import PyProof.P3In
import PySem.Challenge.RW_twospeeds_k24_whole_order
set_option Elab.async false
set_option linter.all false
set_option maxRecDepth 100000
namespace FD
open PySem PySem.Spec PyProof.Rows L2
abbrev St := L2.St

/-- at a: an exception of this class, with this dict -/
def ExK (cls : Value) (d : Option Addr) (a : Addr) : HO := .ext fun h => ∃ (oe : Obj) (vs : Array Value), h.get? a = some oe ∧ Zc cls d oe ∧ oe.data = .fields vs
/-! ## values as data -/
inductive DV where
  | non | bl (b : Bool) | int (i : Int) | str (x : Str) | tup (ds : List DV) | lst (ds : List DV) | scr (ns : List Int) | raw (v : V) | exc (c : Str)

mutual
/-- the value v is the datum d in the heap G -/
def Rp (K : PySem.W.Frag) (G : Hp) (v : V) : DV → Prop
  | .non => v = .non
  | .bl b => v = .bl b
  | .int i => v = .int i
  | .str x => v = .str x
  | .tup ds => ∃ a vs, v = .ref a ∧ SqT K G a vs ∧ RpL K G vs ds
  | .lst ds => ∃ a vs, v = .ref a ∧ G a = some (.lst vs) ∧ RpL K G vs ds
  | .scr ns => ∃ a, v = .ref a ∧ SqL K G a (ns.map V.int)
  | .raw u => v = u
  | .exc c => ∃ a, v = .ref a ∧ G a = some (ExK (.ref (He.ga K c)) none a)
def RpL (K : PySem.W.Frag) (G : Hp) (vs : List V) : List DV → Prop
  | [] => vs = []
  | d :: ds => ∃ v r, vs = v :: r ∧ Rp K G v d ∧ RpL K G r ds
end

theorem Same.tup {K : PySem.W.Frag} {H H' : Hp} {a : Addr} {xs : List V} (e : Same H H') (h : SqT K H a xs) : SqT K H' a xs := by
  rcases h with (h | ⟨o, h⟩) | h
  · exact .inl (.inl (e _ _ h))
  · exact .inl (.inr ⟨o, e _ _ h⟩)
  · exact .inr h
section
variable {K : PySem.W.Frag} {G G' H : Hp}
mutual
theorem Rp.mono (e : Same G G') : ∀ (d : DV) (v : V), Rp K G v d → Rp K G' v d
  | .non, _, h => h
  | .bl _, _, h => h
  | .int _, _, h => h
  | .str _, _, h => h
  | .tup ds, _, h => by
    obtain ⟨a, vs, e1, h1, h2⟩ := h
    exact ⟨a, vs, e1, Same.tup e h1, RpL.mono e ds vs h2⟩
  | .lst ds, _, h => by
    obtain ⟨a, vs, e1, h1, h2⟩ := h
    exact ⟨a, vs, e1, e _ _ h1, RpL.mono e ds vs h2⟩
  | .scr _, _, h => by
    obtain ⟨a, e1, h1⟩ := h
    exact ⟨a, e1, e.seq h1⟩
  | .raw _, _, h => h
  | .exc _, _, h => by
    obtain ⟨a, e1, h1⟩ := h
    exact ⟨a, e1, e _ _ h1⟩
theorem RpL.mono (e : Same G G') : ∀ (ds : List DV) (vs : List V), RpL K G vs ds → RpL K G' vs ds
  | [], _, h => h
  | d :: ds, _, h => by
    obtain ⟨v, r, e1, h1, h2⟩ := h
    exact ⟨v, r, e1, Rp.mono e d v h1, RpL.mono e ds r h2⟩
end
theorem RpL.length : ∀ {ds : List DV} {vs : List V}, RpL K G vs ds → vs.length = ds.length
  | [], _, h => by
    have h' : _ = [] := h
    rw [h']; rfl
  | d :: ds, _, h => by
    obtain ⟨v, r, e1, _, h2⟩ := h
    rw [e1, List.length_cons, List.length_cons, RpL.length h2]
theorem RpL.get : ∀ {ds : List DV} {vs : List V} {i : Nat} {d : DV}, RpL K G vs ds → ds[i]? = some d → ∃ v, vs[i]? = some v ∧ Rp K G v d
  | [], _, i, d, _, e => by simp at e
  | d :: ds, _, 0, d', h, e => by
    obtain ⟨v, r, e1, h1, h2⟩ := h
    simp at e
    subst e e1
    exact ⟨v, rfl, h1⟩
  | d :: ds, _, i + 1, d', h, e => by
    obtain ⟨v, r, e1, h1, h2⟩ := h
    subst e1
    obtain ⟨w, q1, q2⟩ := RpL.get (i := i) h2 (by simpa using e)
    exact ⟨w, by simpa using q1, q2⟩
theorem RpL.get' : ∀ {ds : List DV} {vs : List V} {i : Nat} {v : V}, RpL K G vs ds → vs[i]? = some v → ∃ d, ds[i]? = some d ∧ Rp K G v d := fun {ds vs i v} h e => by
  have hl := h.length
  have hi : i < vs.length := (List.getElem?_eq_some_iff.mp e).1
  have hd : ds[i]? = some ds[i] := List.getElem?_eq_getElem (by omega)
  obtain ⟨w, q1, q2⟩ := h.get hd
  rw [e] at q1
  cases q1
  exact ⟨_, hd, q2⟩
theorem RpL.append : ∀ {ds es : List DV} {vs us : List V}, RpL K G vs ds → RpL K G us es → RpL K G (vs ++ us) (ds ++ es)
  | [], _, _, _, h, h' => by
    have e : _ = [] := h
    subst e
    exact h'
  | d :: ds, es, _, us, h, h' => by
    obtain ⟨v, r, e1, h1, h2⟩ := h
    subst e1
    exact ⟨v, r ++ us, rfl, h1, RpL.append h2 h'⟩
theorem RpL.one {v : V} {d : DV} (h : Rp K G v d) : RpL K G [v] [d] := ⟨v, [], rfl, h, rfl⟩
theorem RpL.take : ∀ {ds : List DV} {vs : List V} (n : Nat), RpL K G vs ds → RpL K G (vs.take n) (ds.take n)
  | [], _, n, h => by
    have e : _ = [] := h
    subst e
    simp
    rfl
  | d :: ds, _, 0, h => rfl
  | d :: ds, _, n + 1, h => by
    obtain ⟨v, r, e1, h1, h2⟩ := h
    subst e1
    exact ⟨v, r.take n, rfl, h1, RpL.take n h2⟩
theorem RpL.drop : ∀ {ds : List DV} {vs : List V} (n : Nat), RpL K G vs ds → RpL K G (vs.drop n) (ds.drop n)
  | [], _, n, h => by
    have e : _ = [] := h
    subst e
    simp
    rfl
  | d :: ds, _, 0, h => h
  | d :: ds, _, n + 1, h => by
    obtain ⟨v, r, e1, h1, h2⟩ := h
    subst e1
    exact RpL.drop n h2
theorem RpL.set : ∀ {ds : List DV} {vs : List V} (i : Nat) {v : V} {d : DV}, RpL K G vs ds → Rp K G v d → RpL K G (vs.set i v) (ds.set i d)
  | [], _, n, v, d, h, _ => by
    have e : _ = [] := h
    subst e
    simp
    rfl
  | d :: ds, _, 0, w, e, h, q => by
    obtain ⟨v, r, e1, h1, h2⟩ := h
    subst e1
    exact ⟨w, r, rfl, q, h2⟩
  | d :: ds, _, n + 1, w, e, h, q => by
    obtain ⟨v, r, e1, h1, h2⟩ := h
    subst e1
    exact ⟨v, _, rfl, h1, RpL.set n h2 q⟩
theorem RpL.ints : ∀ (ns : List Int), RpL K G (ns.map V.int) (ns.map DV.int)
  | [] => rfl
  | n :: ns => ⟨_, _, rfl, rfl, RpL.ints ns⟩
theorem RpL.ints' : ∀ {ns : List Int} {vs : List V}, RpL K G vs (ns.map DV.int) → vs = ns.map V.int
  | [], vs, h => h
  | n :: ns, vs, h => by
    obtain ⟨v, r, e1, h1, h2⟩ := h
    have q : v = .int n := h1
    rw [e1, q, RpL.ints' h2]
    rfl
end

/-! ## the state: the frame's slots, the spool -/
inductive SV where
  | dat (d : DV) | own (ds : List DV) | spl
structure Spl where
  nums : List Int
  place : Int
  cell : Int
  size : Int
structure S where
  sl : List (Option SV)
  sp : Spl
/-- the entry: ghost heap, heap, the spool's address -/
structure Cn where
  G0 : Hp
  H0 : Hp
  sp : Option Addr
  W : Value → Option Addr → St → Hp → Prop
abbrev noW : Value → Option Addr → St → Hp → Prop := fun _ _ _ _ => False

def SpOk (K : PySem.W.Frag) (G H : Hp) (sp : Option Addr) (s : Spl) : Prop :=
  match sp with
  | none => True
  | some a => G a = none ∧ ∃ nb, H a = some (.lst [.ref nb, .int s.place, .int s.cell, .int s.size]) ∧ Rp K G (.ref nb) (.lst (s.nums.map DV.int))
def SlOk (K : PySem.W.Frag) (C : Cn) (G H : Hp) (o : Option V) : Option SV → Prop
  | none => True
  | some (.dat d) => ∃ v, o = some v ∧ Rp K G v d
  | some (.own ds) => ∃ a vs, o = some (.ref a) ∧ H a = some (.lst vs) ∧ RpL K G vs ds ∧ G a = none ∧ C.H0 a = none ∧ C.sp ≠ some a
  | some .spl => ∃ a, C.sp = some a ∧ o = some (.ref a)

structure Ab (K : PySem.W.Frag) (C : Cn) (G H : Hp) (σ : List (Option V)) (s : S) : Prop where
  gh : Same G H
  fr : ∀ b o, C.H0 b = some o → C.sp ≠ some b → H b = some o
  g0 : Same C.G0 G
  gn : ∀ b, C.H0 b ≠ none → G b = C.G0 b
  len : σ.length = s.sl.length
  sl : ∀ (i : Nat) v x, σ[i]? = some v → s.sl[i]? = some x → SlOk K C G H v x
  dis : ∀ (i j : Nat) a ds es, i ≠ j → s.sl[i]? = some (some (.own ds)) → s.sl[j]? = some (some (.own es)) → σ[i]? = some (some (.ref a)) → σ[j]? ≠ some (some (.ref a))
  spk : SpOk K G H C.sp s.sp

section
variable {K : PySem.W.Frag} {C : Cn} {G H G' H' : Hp} {σ : List (Option V)} {s : S}
theorem Ab.h0 (A : Ab K C G H σ s) {b : Addr} (h : C.H0 b ≠ none) : H b ≠ none := by
  by_cases e : C.sp = some b
  · have q := A.spk
    unfold SpOk at q
    rw [e] at q
    obtain ⟨_, nb, q1, _⟩ := q
    rw [q1]
    exact fun z => nomatch z
  · cases z : C.H0 b with
    | none => exact absurd z h
    | some o => rw [A.fr b o z e]; exact fun z => nomatch z
theorem Ab.slot (A : Ab K C G H σ s) {i : Nat} {x : Option SV} (h : s.sl[i]? = some x) : ∃ v, σ[i]? = some v ∧ SlOk K C G H v x := by
  have hi : i < s.sl.length := (List.getElem?_eq_some_iff.mp h).1
  have hi' : i < σ.length := by rw [A.len]; exact hi
  have hs : σ[i]? = some σ[i] := List.getElem?_eq_getElem hi'
  exact ⟨_, hs, A.sl i _ x hs h⟩
/-- the heaps grow: what was tracked stays (but the spool, which stays as said), the ghost grows by new things -/
structure Fw (G H G' H' : Hp) (sp : Option Addr) : Prop where
  g : Same G G'
  gh : Same G' H'
  h : ∀ b o, H b = some o → sp ≠ some b → H' b = some o
  n : ∀ b, H b ≠ none → G' b = G b
theorem SlOk.fw {v : Option V} {x : Option SV} (F : Fw G H G' H' C.sp) (h : SlOk K C G H v x) : SlOk K C G' H' v x := by
  match x, h with
  | none, h => trivial
  | some (.dat d), h =>
    obtain ⟨v, e, r⟩ := h
    exact ⟨v, e, Rp.mono F.g d v r⟩
  | some (.own ds), h =>
    obtain ⟨a, vs, e, h1, h2, h3, h4, h5⟩ := h
    exact ⟨a, vs, e, F.h _ _ h1 h5, RpL.mono F.g ds vs h2, by rw [F.n a (by rw [h1]; exact fun z => nomatch z)]; exact h3, h4, h5⟩
  | some .spl, h => exact h
theorem Ab.fw (A : Ab K C G H σ s) (F : Fw G H G' H' C.sp) {sp' : Spl} (k : SpOk K G' H' C.sp sp') : Ab K C G' H' σ { s with sp := sp' } where
  gh := F.gh
  fr := fun b o e n => F.h b o (A.fr b o e n) n
  g0 := A.g0.trans F.g
  gn := fun b e => by rw [F.n b (A.h0 e), A.gn b e]
  len := A.len
  sl := fun i v x e1 e2 => (A.sl i v x e1 e2).fw F
  dis := A.dis
  spk := k
/-- the same where the spool's cell stays too -/
theorem Fw.none_any (F : Fw G H G' H' none) (sp : Option Addr) : Fw G H G' H' sp := ⟨F.g, F.gh, fun b o e _ => F.h b o e (fun z => nomatch z), F.n⟩
theorem SpOk.fw {sp : Option Addr} {t : Spl} (F : Fw G H G' H' none) (k : SpOk K G H sp t) : SpOk K G' H' sp t := by
  unfold SpOk at *
  cases sp with
  | none => trivial
  | some a =>
    obtain ⟨h1, nb, h2, h3⟩ := k
    exact ⟨by rw [F.n a (by rw [h2]; exact fun z => nomatch z)]; exact h1, nb, F.h _ _ h2 (fun z => nomatch z), Rp.mono F.g _ _ h3⟩
theorem Ab.fw0 (A : Ab K C G H σ s) (F : Fw G H G' H' none) : Ab K C G' H' σ s := A.fw (F.none_any _) (A.spk.fw F)
/-- a new object that joins the data -/
theorem Fw.add (A : Same G H) {p : Addr} {o : HO} (hp : H p = none) : Fw G H (upd G p o) (upd H p o) none where
  g := fun b u e => by rw [upd_ne (fun z => by rw [z] at e; rw [A _ _ e] at hp; cases hp)]; exact e
  gh := fun b u e => by
    by_cases z : b = p
    · rw [z, upd_same] at e ⊢
      exact e
    · rw [upd_ne z] at e ⊢
      exact A _ _ e
  h := fun b u e _ => by rw [upd_ne (fun z => by rw [z, hp] at e; cases e)]; exact e
  n := fun b e => upd_ne (fun z => e (by rw [z]; exact hp))
/-- a new object that is left outside -/
theorem Fw.lay (A : Same G H) {p : Addr} {o : HO} (hp : H p = none) : Fw G H G (upd H p o) none where
  g := Same.refl G
  gh := fun b u e => by rw [upd_ne (fun z => by rw [z] at e; rw [A _ _ e] at hp; cases hp)]; exact A _ _ e
  h := fun b u e _ => by rw [upd_ne (fun z => by rw [z, hp] at e; cases e)]; exact e
  n := fun b e => rfl
theorem Fw.refl (A : Same G H) : Fw G H G H none := ⟨Same.refl _, A, fun _ _ e _ => e, fun _ _ => rfl⟩
/-- an owned list joins the data -/
theorem Ab.freeze (A : Ab K C G H σ s) {i : Nat} {ds : List DV} (h : s.sl[i]? = some (some (.own ds))) :
    ∃ a vs, σ[i]? = some (some (.ref a)) ∧ Ab K C (upd G a (.lst vs)) H σ { s with sl := s.sl.set i (some (.dat (.lst ds))) } ∧ Rp K (upd G a (.lst vs)) (.ref a) (.lst ds) ∧ Same G (upd G a (.lst vs)) := by
  obtain ⟨v, e1, a, vs, e2, h1, h2, h3, h4, h5⟩ := A.slot h
  subst e2
  have sg : Same G (upd G a (.lst vs)) := fun b u e => by rw [upd_ne (fun z => by rw [z, h3] at e; cases e)]; exact e
  have rp : Rp K (upd G a (.lst vs)) (.ref a) (.lst ds) := ⟨a, vs, rfl, upd_same, RpL.mono sg ds vs h2⟩
  have hi : i < s.sl.length := (List.getElem?_eq_some_iff.mp h).1
  refine ⟨a, vs, e1, ⟨fun b u e => ?_, A.fr, A.g0.trans sg, fun b e => ?_, by rw [List.length_set]; exact A.len, fun j v x q1 q2 => ?_, fun j k b es fs n q1 q2 q3 => ?_, ?_⟩, rp, sg⟩
  · by_cases z : b = a
    · rw [z, upd_same] at e
      rw [z, ← e]
      exact h1
    · rw [upd_ne z] at e
      exact A.gh _ _ e
  · rw [upd_ne (fun z => e (by rw [z]; exact h4)), A.gn b e]
  · rw [List.getElem?_set] at q2
    by_cases z : i = j
    · subst z
      rw [if_pos rfl, if_pos hi] at q2
      cases q2
      rw [e1] at q1
      cases q1
      exact ⟨_, rfl, rp⟩
    · rw [if_neg z] at q2
      have r := A.sl j v x q1 q2
      match x, r with
      | none, _ => trivial
      | some (.dat d), ⟨w, e, r⟩ => exact ⟨w, e, Rp.mono sg d w r⟩
      | some (.own es), ⟨b, us, e, r1, r2, r3, r4, r5⟩ =>
        subst e
        have nb : b ≠ a := fun zz => A.dis i j a ds es z h q2 e1 (by rw [q1, zz])
        exact ⟨b, us, rfl, r1, RpL.mono sg es us r2, by rw [upd_ne nb]; exact r3, r4, r5⟩
      | some .spl, r => exact r
  · have nj : ∀ {k : Nat} {es : List DV}, (s.sl.set i (some (.dat (.lst ds))))[k]? = some (some (.own es)) → s.sl[k]? = some (some (.own es)) := fun {k es} q => by
      rw [List.getElem?_set] at q
      by_cases z : i = k
      · rw [if_pos z] at q
        split at q
        · cases q
        · cases q
      · rw [if_neg z] at q
        exact q
    exact A.dis j k b es fs n (nj q1) (nj q2) q3
  · have k := A.spk
    unfold SpOk at *
    cases z : C.sp with
    | none => rw [z] at k; trivial
    | some c =>
      rw [z] at k
      obtain ⟨k1, nb, k2, k3⟩ := k
      exact ⟨by rw [upd_ne (fun e => h5 (by rw [z, e]))]; exact k1, nb, k2, Rp.mono sg _ _ k3⟩
/-- a slot is set to a datum -/
theorem Ab.set_dat (A : Ab K C G H σ s) {i : Nat} {v : V} {d : DV} (r : Rp K G v d) : Ab K C G H (σ.set i (some v)) { s with sl := s.sl.set i (some (.dat d)) } where
  gh := A.gh
  fr := A.fr
  g0 := A.g0
  gn := A.gn
  len := by rw [List.length_set, List.length_set]; exact A.len
  sl := fun j w x q1 q2 => by
    rw [List.getElem?_set] at q1 q2
    by_cases z : i = j
    · rw [if_pos z] at q1 q2
      split at q1
      · split at q2
        · cases q1
          cases q2
          exact ⟨v, rfl, r⟩
        · cases q2
      · cases q1
    · rw [if_neg z] at q1 q2
      exact A.sl j w x q1 q2
  dis := fun j k a ds es n q1 q2 q3 => by
    rw [List.getElem?_set] at q1 q2 q3
    rw [List.getElem?_set]
    by_cases z1 : i = j
    · rw [if_pos z1] at q1
      split at q1 <;> cases q1
    · by_cases z2 : i = k
      · rw [if_pos z2] at q2
        split at q2 <;> cases q2
      · rw [if_neg z1] at q1 q3
        rw [if_neg z2] at q2 ⊢
        exact A.dis j k a ds es n q1 q2 q3
  spk := A.spk
/-- a slot is set to a new list of the frame's own -/
theorem Ab.set_own (A : Ab K C G H σ s) {i : Nat} {p : Addr} {vs : List V} {ds : List DV} (hp : H p = some (.lst vs)) (r : RpL K G vs ds) (hg : G p = none) (h0 : C.H0 p = none) (hs : C.sp ≠ some p)
    (no : ∀ (j : Nat) es, s.sl[j]? = some (some (.own es)) → σ[j]? ≠ some (some (.ref p))) : Ab K C G H (σ.set i (some (.ref p))) { s with sl := s.sl.set i (some (.own ds)) } where
  gh := A.gh
  fr := A.fr
  g0 := A.g0
  gn := A.gn
  len := by rw [List.length_set, List.length_set]; exact A.len
  sl := fun j w x q1 q2 => by
    rw [List.getElem?_set] at q1 q2
    by_cases z : i = j
    · rw [if_pos z] at q1 q2
      split at q1
      · split at q2
        · cases q1
          cases q2
          exact ⟨p, vs, rfl, hp, r, hg, h0, hs⟩
        · cases q2
      · cases q1
    · rw [if_neg z] at q1 q2
      exact A.sl j w x q1 q2
  dis := fun j k a fs es n q1 q2 q3 => by
    rw [List.getElem?_set] at q1 q2 q3
    rw [List.getElem?_set]
    by_cases z1 : i = j
    · have z2 : i ≠ k := fun z => n (z1.symm.trans z)
      rw [if_pos z1] at q3
      rw [if_neg z2] at q2 ⊢
      split at q3
      · cases q3
        exact no k es q2
      · cases q3
    · rw [if_neg z1] at q1 q3
      by_cases z2 : i = k
      · rw [if_pos z2]
        split
        · intro e
          cases e
          exact no j fs q1 q3
        · exact fun e => nomatch e
      · rw [if_neg z2] at q2 ⊢
        exact A.dis j k a fs es n q1 q2 q3
  spk := A.spk
/-- the list that a slot owns is written anew -/
theorem Ab.put_own (A : Ab K C G H σ s) {i : Nat} {a : Addr} {ds es : List DV} {us : List V} (h : s.sl[i]? = some (some (.own ds))) (e : σ[i]? = some (some (.ref a))) (r : RpL K G us es) :
    Ab K C G (upd H a (.lst us)) σ { s with sl := s.sl.set i (some (.own es)) } := by
  obtain ⟨v, e1, a', vs, e2, h1, h2, h3, h4, h5⟩ := A.slot h
  subst e2
  rw [e] at e1
  cases e1
  have hi : i < s.sl.length := (List.getElem?_eq_some_iff.mp h).1
  have nj : ∀ {k : Nat} {fs : List DV}, (s.sl.set i (some (.own es)))[k]? = some (some (.own fs)) → ∃ fs', s.sl[k]? = some (some (.own fs')) := fun {k fs} q => by
    rw [List.getElem?_set] at q
    by_cases z : i = k
    · exact ⟨ds, z ▸ h⟩
    · rw [if_neg z] at q
      exact ⟨fs, q⟩
  refine ⟨fun b u q => ?_, fun b o q n => ?_, A.g0, A.gn, by rw [List.length_set]; exact A.len, fun j w x q1 q2 => ?_, fun j k b fs gs n q1 q2 q3 => ?_, ?_⟩
  · rw [upd_ne (fun z => by rw [z, h3] at q; cases q)]
    exact A.gh _ _ q
  · rw [upd_ne (fun z => by rw [z, h4] at q; cases q)]
    exact A.fr b o q n
  · rw [List.getElem?_set] at q2
    by_cases z : i = j
    · subst z
      rw [if_pos rfl, if_pos hi] at q2
      cases q2
      rw [e] at q1
      cases q1
      exact ⟨a, us, rfl, upd_same, r, h3, h4, h5⟩
    · rw [if_neg z] at q2
      have rr := A.sl j w x q1 q2
      match x, rr with
      | none, _ => trivial
      | some (.dat d), rr => exact rr
      | some (.own gs), ⟨b, ws, eb, r1, r2, r3, r4, r5⟩ =>
        subst eb
        have nb : b ≠ a := fun zz => A.dis i j a ds gs z h q2 e (by rw [q1, zz])
        exact ⟨b, ws, rfl, by rw [upd_ne nb]; exact r1, r2, r3, r4, r5⟩
      | some .spl, rr => exact rr
  · obtain ⟨fs', q1'⟩ := nj q1
    obtain ⟨gs', q2'⟩ := nj q2
    exact A.dis j k b fs' gs' n q1' q2' q3
  · have k := A.spk
    unfold SpOk at *
    cases z : C.sp with
    | none => rw [z] at k; trivial
    | some c =>
      rw [z] at k
      obtain ⟨k1, nb, k2, k3⟩ := k
      exact ⟨k1, nb, by rw [upd_ne (fun e => h5 (by rw [z, e]))]; exact k2, k3⟩
/-- the spool is written -/
theorem Ab.put_spl (A : Ab K C G H σ s) {a nb : Addr} {t : Spl} (hs : C.sp = some a) (hn : Rp K G (.ref nb) (.lst (t.nums.map DV.int))) : Ab K C G (upd H a (.lst [.ref nb, .int t.place, .int t.cell, .int t.size])) σ { s with sp := t } := by
  have k := A.spk
  unfold SpOk at k
  rw [hs] at k
  obtain ⟨k1, nb', k2, k3⟩ := k
  refine ⟨fun b u q => ?_, fun b o q n => ?_, A.g0, A.gn, A.len, fun j w x q1 q2 => ?_, A.dis, ?_⟩
  · rw [upd_ne (fun z => by rw [z, k1] at q; cases q)]
    exact A.gh _ _ q
  · rw [upd_ne (fun z => n (by rw [z, hs]))]
    exact A.fr b o q n
  · have rr := A.sl j w x q1 q2
    match x, rr with
    | none, _ => trivial
    | some (.dat d), rr => exact rr
    | some (.own gs), ⟨b, ws, eb, r1, r2, r3, r4, r5⟩ => exact ⟨b, ws, eb, by rw [upd_ne (fun z => r5 (by rw [hs, z]))]; exact r1, r2, r3, r4, r5⟩
    | some .spl, rr => exact rr
  · show SpOk K G _ C.sp t
    unfold SpOk
    rw [hs]
    exact ⟨k1, nb, upd_same, hn⟩
end
end FD

set_option maxRecDepth 100000
namespace FD
open PySem PySem.Spec PyProof.Rows L2

/-! ## readings as functions -/
abbrev EF := S → Option (DV × S)
abbrev TF := S → Option (Bool × S)
abbrev AF := S → Option (List DV × S)
def EvE (K : PySem.W.Frag) (C : Cn) (te : TE) (f : EF) : Prop := ∀ G H σ s d s', Ab K C G H σ s → f s = some (d, s') →
  ∀ Q : VK, (∀ v H' G', Same G G' → Ab K C G' H' σ s' → Rp K G' v d → Q v H') → te σ H Q
def EvT (K : PySem.W.Frag) (C : Cn) (tt : TT) (f : TF) : Prop := ∀ G H σ s b s', Ab K C G H σ s → f s = some (b, s') →
  ∀ Q : Bool → Hp → Prop, (∀ H' G', Same G G' → Ab K C G' H' σ s' → Q b H') → tt σ H Q
def EvA (K : PySem.W.Frag) (C : Cn) (ta : TA) (f : AF) : Prop := ∀ G H σ s ds s', Ab K C G H σ s → f s = some (ds, s') →
  ∀ Q : List V → Hp → Prop, (∀ vs H' G', Same G G' → Ab K C G' H' σ s' → RpL K G' vs ds → Q vs H') → ta σ H Q
/-- an expression, a test, an argument list of the frame X, as functions of the state -/
def FE (X : Cx) (C : Cn) (e : Expr) (f : EF) : Prop := ∃ te, PE X e te ∧ EvE X.K C te f
def FT (X : Cx) (C : Cn) (e : Expr) (f : TF) : Prop := ∃ tt, PT X e tt ∧ EvT X.K C tt f
def FW (X : Cx) (C : Cn) (e : Expr) (f : TF) : Prop := ∃ tt, PW X e tt ∧ EvT X.K C tt f
def FA (X : Cx) (C : Cn) (es : List Expr) (f : AF) : Prop := ∃ ta, PA X es ta ∧ EvA X.K C ta f

section
variable {X : Cx} {C : Cn} {e a b c : Expr} {es : List Expr} {pos : Pos}

/-! ### constants, names -/
def eC (d : DV) : EF := fun s => some (d, s)
theorem evC {K : PySem.W.Frag} {v : V} {d : DV} (r : ∀ G, Rp K G v d) : EvE K C (tC v) (eC d) := by
  intro G H σ s d' s' A h Q q
  cases h
  exact q v H G (Same.refl _) A (r G)
theorem fe_int {i j} : FE X C (.Constant (.int i) j pos) (eC (.int i)) := ⟨_, pe_int, evC fun _ => rfl⟩
theorem fe_bl {i j} : FE X C (.Constant (.bool i) j pos) (eC (.bl i)) := ⟨_, pe_bl, evC fun _ => rfl⟩
theorem fe_non {j} : FE X C (.Constant .none j pos) (eC .non) := ⟨_, pe_non, evC fun _ => rfl⟩
theorem fe_str {x j} : FE X C (.Constant (.str x) j pos) (eC (.str x)) := ⟨_, pe_str, evC fun _ => rfl⟩
/-- the datum in a slot; a list of the frame's own joins the data -/
def eV (i : Nat) : EF := fun s => match s.sl[i]? with
  | some (some (.dat d)) => some (d, s)
  | some (some (.own ds)) => some (.lst ds, { s with sl := s.sl.set i (some (.dat (.lst ds))) })
  | _ => none
theorem evV {K : PySem.W.Frag} {i : Nat} : EvE K C (tVar i) (eV i) := by
  intro G H σ s d s' A h Q q
  unfold eV at h
  split at h
  · rename_i d' e1
    cases h
    obtain ⟨v, e2, w, e3, r⟩ := A.slot e1
    subst e3
    exact ⟨w, e2, q w H G (Same.refl _) A r⟩
  · rename_i ds e1
    cases h
    obtain ⟨a, vs, e2, A', r, sg⟩ := A.freeze e1
    exact ⟨_, e2, q _ H _ sg A' r⟩
  · cases h
theorem fv (i : Nat) {x : Str} {pos : Pos} (hN : X.N[i]? = some x := by rfl) (hv : Vis X.env.scope x := by first | exact Or.inl rfl | exact Or.inr (Or.inl rfl) | exact Or.inr (Or.inr rfl)) (hd : (x == ("__debug__" : Str)) = false := by decide)
    (hcd : (x == ("__classdict__" : Str)) = false := by decide) : FE X C (.Name x pos) (eV i) := ⟨_, pe_var hN hv hd hcd, evV⟩

/-! ### argument lists, displays -/
def aNil : AF := fun s => some ([], s)
def aCons (f : EF) (g : AF) : AF := fun s => match f s with
  | some (d, s1) => match g s1 with
    | some (ds, s2) => some (d :: ds, s2)
    | none => none
  | none => none
theorem fa_nil : FA X C [] aNil := ⟨_, pa_nil, by
  intro G H σ s ds s' A h Q q
  cases h
  exact q [] H G (Same.refl _) A rfl⟩
theorem fa_cons {f : EF} {g : AF} (h1 : FE X C e f) (h2 : FA X C es g) (hs : starEach (e :: es) X.env = (false, eval e X.env) :: starEach es X.env := by rfl) : FA X C (e :: es) (aCons f g) := by
  obtain ⟨te, p1, q1⟩ := h1
  obtain ⟨ta, p2, q2⟩ := h2
  refine ⟨_, pa_cons p1 p2 hs, ?_⟩
  intro G H σ s ds s' A h Q q
  unfold aCons at h
  split at h
  · rename_i d s1 e1
    split at h
    · rename_i ds' s2 e2
      cases h
      refine q1 G H σ s d s1 A e1 _ fun v H1 G1 g1 A1 r1 => ?_
      refine q2 G1 H1 σ s1 ds' _ A1 e2 _ fun vs H2 G2 g2 A2 r2 => ?_
      exact q (v :: vs) H2 G2 (g1.trans g2) A2 ⟨v, vs, rfl, Rp.mono g2 d v r1, r2⟩
    · cases h
  · cases h
/-- an expression whose reading is a function's -/
def eA (g : AF) (op : List DV → Option DV) : EF := fun s => match g s with
  | some (ds, s1) => match op ds with
    | some d => some (d, s1)
    | none => none
  | none => none
/-- from the arguments by values: r holds wherever the answer is the operation's -/
theorem evA_of {K : PySem.W.Frag} {ta : TA} {g : AF} {op : List DV → Option DV} {t : TE} (h : EvA K C ta g) {r : List V → Hp → VK → Prop}
    (ht : ∀ σ H Q, (ta σ H fun vs H1 => r vs H1 Q) → t σ H Q)
    (hr : ∀ G H σ s vs ds d, Ab K C G H σ s → RpL K G vs ds → op ds = some d → ∀ Q : VK, (∀ v H' G', Fw G H G' H' none → Rp K G' v d → Q v H') → r vs H Q) : EvE K C t (eA g op) := by
  intro G H σ s d s' A h' Q q
  unfold eA at h'
  split at h'
  · rename_i ds s1 e1
    split at h'
    · rename_i d' e2
      cases h'
      refine ht σ H Q (h G H σ s ds _ A e1 _ fun vs H1 G1 g1 A1 r1 => ?_)
      exact hr G1 H1 σ _ vs ds _ A1 r1 e2 Q fun v H' G' F rv => q v H' G' (g1.trans F.g) (A1.fw0 F) rv
    · cases h'
  · cases h'
def oTup : List DV → Option DV := fun ds => if ds.length ≤ sizeLine then some (.tup ds) else none
def oLst : List DV → Option DV := fun ds => if ds.length ≤ sizeLine then some (.lst ds) else none
theorem tup_ok {K : PySem.W.Frag} {G H : Hp} {σ : List (Option V)} {s : S} {vs : List V} {ds : List DV} {Q : VK} (A : Ab K C G H σ s) (r : RpL K G vs ds) (q : ∀ v H' G', Fw G H G' H' none → Rp K G' v (.tup ds) → Q v H') :
    ∀ p, H p = none → Q (.ref p) (upd H p (.tup vs)) := fun p hp => by
  have F : Fw G H (upd G p (.tup vs)) (upd H p (.tup vs)) none := Fw.add A.gh hp
  exact q _ _ _ F ⟨p, vs, rfl, SqT.of upd_same, RpL.mono F.g ds vs r⟩
theorem lst_ok {K : PySem.W.Frag} {G H : Hp} {σ : List (Option V)} {s : S} {vs : List V} {ds : List DV} {Q : VK} (A : Ab K C G H σ s) (r : RpL K G vs ds) (q : ∀ v H' G', Fw G H G' H' none → Rp K G' v (.lst ds) → Q v H') :
    ∀ p, H p = none → Q (.ref p) (upd H p (.lst vs)) := fun p hp => by
  have F : Fw G H (upd G p (.lst vs)) (upd H p (.lst vs)) none := Fw.add A.gh hp
  exact q _ _ _ F ⟨p, vs, rfl, upd_same, RpL.mono F.g ds vs r⟩
theorem fe_tup {f : AF} {x1} (h : FA X C es f) : FE X C (.Tuple es x1 pos) (eA f oTup) := by
  obtain ⟨ta, p, q⟩ := h
  refine ⟨_, pe_tup p, evA_of (op := oTup) q (r := fun xs H1 Q => xs.length ≤ sizeLine ∧ ∀ p, H1 p = none → Q (.ref p) (upd H1 p (.tup xs))) (fun _ _ _ h => h) ?_⟩
  intro G H σ s vs ds d A r e Q k
  unfold oTup at e
  split at e
  · cases e
    rename_i hl
    exact ⟨by rw [r.length]; exact hl, tup_ok A r k⟩
  · cases e
theorem fe_lst {f : AF} (h : FA X C es f) : FE X C (.List es pos) (eA f oLst) := by
  obtain ⟨ta, p, q⟩ := h
  refine ⟨_, pe_lst p, evA_of (op := oLst) q (r := fun xs H1 Q => xs.length ≤ sizeLine ∧ ∀ p, H1 p = none → Q (.ref p) (upd H1 p (.lst xs))) (fun _ _ _ h => h) ?_⟩
  intro G H σ s vs ds d A r e Q k
  unfold oLst at e
  split at e
  · cases e
    rename_i hl
    exact ⟨by rw [r.length]; exact hl, lst_ok A r k⟩
  · cases e

/-! ### operators of one and two -/
def e1 (f : EF) (op : DV → Option DV) : EF := fun s => match f s with
  | some (d, s1) => match op d with
    | some z => some (z, s1)
    | none => none
  | none => none
def e2 (f g : EF) (op : DV → DV → Option DV) : EF := fun s => match f s with
  | some (d, s1) => match g s1 with
    | some (y, s2) => match op d y with
      | some z => some (z, s2)
      | none => none
    | none => none
  | none => none
/-- what an operator's rule r is worth on data -/
def Op2 (K : PySem.W.Frag) (r : R2) (op : DV → DV → Option DV) : Prop := ∀ C G H σ s x y d e z, Ab K C G H σ s → Rp K G x d → Rp K G y e → op d e = some z →
  ∀ Q : VK, (∀ v H' G', Fw G H G' H' none → Rp K G' v z → Q v H') → r x y H Q
def Op1 (K : PySem.W.Frag) (r : V → Hp → VK → Prop) (op : DV → Option DV) : Prop := ∀ C G H σ s x d z, Ab K C G H σ s → Rp K G x d → op d = some z →
  ∀ Q : VK, (∀ v H' G', Fw G H G' H' none → Rp K G' v z → Q v H') → r x H Q
theorem ev2 {K : PySem.W.Frag} {ta tb t : TE} {f g : EF} {r : R2} {op : DV → DV → Option DV} (h1 : EvE K C ta f) (h2 : EvE K C tb g) (ho : Op2 K r op) (ht : ∀ σ H Q, (ta σ H fun x H1 => tb σ H1 fun y H2 => r x y H2 Q) → t σ H Q) : EvE K C t (e2 f g op) := by
  intro G H σ s z s' A h Q q
  unfold e2 at h
  split at h
  · rename_i d s1 q1
    split at h
    · rename_i y s2 q2
      split at h
      · rename_i z' q3
        cases h
        refine ht σ H Q (h1 G H σ s d s1 A q1 _ fun v H1 G1 g1 A1 r1 => ?_)
        refine h2 G1 H1 σ s1 y _ A1 q2 _ fun u H2 G2 g2 A2 r2 => ?_
        exact ho C G2 H2 σ _ v u d y _ A2 (Rp.mono g2 d v r1) r2 q3 Q fun w H' G' F rw' => q w H' G' ((g1.trans g2).trans F.g) (A2.fw0 F) rw'
      · cases h
    · cases h
  · cases h
theorem ev1 {K : PySem.W.Frag} {ta t : TE} {f : EF} {r : V → Hp → VK → Prop} {op : DV → Option DV} (h1 : EvE K C ta f) (ho : Op1 K r op) (ht : ∀ σ H Q, (ta σ H fun x H1 => r x H1 Q) → t σ H Q) : EvE K C t (e1 f op) := by
  intro G H σ s z s' A h Q q
  unfold e1 at h
  split at h
  · rename_i d s1 q1
    split at h
    · rename_i z' q3
      cases h
      refine ht σ H Q (h1 G H σ s d _ A q1 _ fun v H1 G1 g1 A1 r1 => ?_)
      exact ho C G1 H1 σ _ v d _ A1 r1 q3 Q fun w H' G' F rw' => q w H' G' (g1.trans F.g) (A1.fw0 F) rw'
    · cases h
  · cases h
theorem fe_op {r : R2} {op : DV → DV → Option DV} {o : Operator} {f g : EF} (hr : OpR X (binaryOp o) r) (ho : Op2 X.K r op) (h1 : FE X C a f) (h2 : FE X C b g) : FE X C (.BinOp a o b pos) (e2 f g op) := by
  obtain ⟨ta, p1, q1⟩ := h1
  obtain ⟨tb, p2, q2⟩ := h2
  exact ⟨_, pe_op hr p1 p2, ev2 q1 q2 ho fun _ _ _ h => h⟩
theorem fe_un {r : V → Hp → VK → Prop} {op : DV → Option DV} {o : UnaryOp} {f : EF} (hr : UnR X (unaryOp o) r) (ho : Op1 X.K r op) (h1 : FE X C a f) (hn : PE X a = PE X a := rfl) (mk : ∀ {ta}, PE X a ta → PE X (.UnaryOp o a pos) (tUn r ta)) : FE X C (.UnaryOp o a pos) (e1 f op) := by
  obtain ⟨ta, p1, q1⟩ := h1
  exact ⟨_, mk p1, ev1 q1 ho fun _ _ _ h => h⟩
theorem fe_cmp {r : R2} {op : DV → DV → Option DV} {o : CmpOp} {f g : EF} (hr : OpR X (compareOp o) r) (ho : Op2 X.K r op) (h1 : FE X C a f) (h2 : FE X C b g) (hm : behindInMarks o b = false := by first | exact nomark _ | rfl) : FE X C (.Compare a [o] [b] pos) (e2 f g op) := by
  obtain ⟨ta, p1, q1⟩ := h1
  obtain ⟨tb, p2, q2⟩ := h2
  exact ⟨_, pe_cmpR hr p1 p2 hm, ev2 q1 q2 ho fun _ _ _ h => h⟩
end
end FD

set_option maxRecDepth 100000
namespace FD
open PySem PySem.Spec PyProof.Rows L2

theorem OpR.or {X : Cx} {f : Value → Value → Sem Value} {r r' : R2} (h : OpR X f r) (h' : OpR X f r') : OpR X f (fun x y H Q => r x y H Q ∨ r' x y H Q) := by
  intro pins s σ H x y v u Q I rx ry q
  rcases q with q | q
  · exact h pins s σ H x y v u Q I rx ry q
  · exact h' pins s σ H x y v u Q I rx ry q
theorem CallR.or {X : Cx} {f : Value} {r r' : List V → Hp → VK → Prop} (h : CallR X f r) (h' : CallR X f r') : CallR X f (fun x H Q => r x H Q ∨ r' x H Q) := by
  intro pins s σ H x v Q I rx q
  rcases q with q | q
  · exact h pins s σ H x v Q I rx q
  · exact h' pins s σ H x v Q I rx q

/-! ## operations on data -/
def dAdd : DV → DV → Option DV
  | .int i, .int j => some (.int (i + j))
  | .str x, .str y => if x.length + y.length ≤ sizeLine then some (.str (x ++ y)) else none
  | .lst a, .lst b => if a.length + b.length ≤ sizeLine then some (.lst (a ++ b)) else none
  | .tup (a :: as), .tup b => if (a :: as).length + b.length ≤ sizeLine then some (.tup ((a :: as) ++ b)) else none
  | _, _ => none
def dSub : DV → DV → Option DV
  | .int i, .int j => some (.int (i - j))
  | _, _ => none
/-- the bits of a product are bounded -/
def fitM (i j : Int) : Bool := decide (i.natAbs.log2 + j.natAbs.log2 < 134217000)
def dMul : DV → DV → Option DV
  | .int i, .int j => if fitM i j then some (.int (i * j)) else none
  | .lst a, .int k => if decide (-(2 ^ 63) ≤ k ∧ k < 2 ^ 63 ∧ a.length * k.toNat ≤ sizeLine) then some (.lst (List.replicate k.toNat a).flatten) else none
  | _, _ => none
def dFdiv : DV → DV → Option DV
  | .int i, .int j => if decide (j ≠ 0 ∧ j.natAbs.log2 < 9000) then some (.int (i.fdiv j)) else none
  | _, _ => none
def dMod : DV → DV → Option DV
  | .int i, .int j => if decide (j ≠ 0) then some (.int (i.fmod j)) else none
  | _, _ => none
def dPow : DV → DV → Option DV
  | .int i, .int j => if decide (0 ≤ j ∧ j ≤ 1000000 ∧ i.natAbs < 2 ^ 64) then some (.int (i ^ j.toNat)) else none
  | _, _ => none
def dNeg : DV → Option DV
  | .int i => some (.int (-i))
  | _ => none
def dI (p : Int → Int → Bool) : DV → DV → Option DV
  | .int i, .int j => some (.bl (p i j))
  | _, _ => none
abbrev dLt := dI fun i j => decide (i < j)
abbrev dLe := dI fun i j => decide (i ≤ j)
abbrev dGt := dI fun i j => decide (j < i)
abbrev dGe := dI fun i j => decide (j ≤ i)
mutual
def toPy : DV → Option PyData
  | .non => some .none
  | .bl b => some (.bool b)
  | .int i => some (.int i)
  | .str x => some (.str x)
  | .tup ds => (toPyL ds).map .tuple
  | .lst ds => (toPyL ds).map .list
  | .scr ns => some (.list (ns.map .int))
  | .raw _ => none
  | .exc _ => none
def toPyL : List DV → Option (List PyData)
  | [] => some []
  | d :: ds => match toPy d with
    | some x => match toPyL ds with
      | some r => some (x :: r)
      | none => none
    | none => none
end
def dEq (d e : DV) : Option DV := match toPy d with
  | some x => match toPy e with
    | some y => if SeqAt.shaped x && SeqAt.shaped y then some (.bl (PyData.eqv x y)) else none
    | none => none
  | none => none
def dNe (d e : DV) : Option DV := match toPy d with
  | some x => match toPy e with
    | some y => if SeqAt.shaped x && SeqAt.shaped y then some (.bl (!PyData.eqv x y)) else none
    | none => none
  | none => none
def dIsN : DV → DV → Option DV
  | .raw _, _ => none
  | .non, .non => some (.bl true)
  | _, .non => some (.bl false)
  | _, _ => none
def dNotN : DV → DV → Option DV
  | .raw _, _ => none
  | .non, .non => some (.bl false)
  | _, .non => some (.bl true)
  | _, _ => none

section
variable {K : PySem.W.Frag} {X : Cx}
theorem CallFit {i j : Int} (h : fitM i j = true) : IntMulOk i j := by
  have b : ∀ x : Int, Builtin.Int.intBits x ≤ x.natAbs.log2 + 1 := fun x => by
    unfold Builtin.Int.intBits
    split <;> omega
  have h1 := b i
  have h2 := b j
  have h3 : i.natAbs.log2 + j.natAbs.log2 < 134217000 := of_decide_eq_true h
  have e : bitsLine = 134217728 := by decide
  unfold IntMulOk
  intro z
  rw [Bool.and_eq_true] at z
  have z2 := z.2
  unfold Builtin.Int.intTooBig at z2
  have z3 := of_decide_eq_true z2
  rw [e] at z3
  omega
theorem op_mulX : OpR X (binaryOp .Mult) (rI (fun i j => fitM i j = true) fun i j => .int (i * j)) := opI fun _ _ _ _ _ _ _ hc q => mul_int q (CallFit hc)
theorem op_fdivX : OpR X (binaryOp .FloorDiv) (rI (fun i j => j ≠ 0 ∧ j.natAbs.log2 < 9000) fun i j => .int (i.fdiv j)) := opI fun i j _ _ _ _ _ hc q => floordiv_int hc.1 q (.inl (PyProof.noPylong_of_log2 hc.2))

theorem o_int {Cd : Int → Int → Prop} {g : Int → Int → V} {op : DV → DV → Option DV} (h : ∀ d e z, op d e = some z → ∃ i j, d = .int i ∧ e = .int j ∧ Cd i j ∧ ∀ G, Rp K G (g i j) z) : Op2 K (rI Cd g) op := by
  intro C G H σ s x y d e z A r1 r2 ho Q q
  obtain ⟨i, j, rfl, rfl, c, e1⟩ := h d e z ho
  exact ⟨i, j, r1, r2, c, q _ H G (Fw.refl A.gh) (e1 G)⟩
theorem o_int0 {g : Int → Int → V} {op : DV → DV → Option DV} (h : ∀ d e z, op d e = some z → ∃ i j, d = .int i ∧ e = .int j ∧ ∀ G, Rp K G (g i j) z) : Op2 K (rI0 g) op := by
  intro C G H σ s x y d e z A r1 r2 ho Q q
  obtain ⟨i, j, rfl, rfl, e1⟩ := h d e z ho
  exact ⟨i, j, r1, r2, q _ H G (Fw.refl A.gh) (e1 G)⟩
theorem o_sub : Op2 K (rI0 fun i j => .int (i - j)) dSub := o_int0 fun d e z h => by
  unfold dSub at h
  split at h
  · cases h; exact ⟨_, _, rfl, rfl, fun _ => rfl⟩
  · cases h
theorem o_fdiv : Op2 K (rI (fun i j => j ≠ 0 ∧ j.natAbs.log2 < 9000) fun i j => .int (i.fdiv j)) dFdiv := o_int fun d e z h => by
  unfold dFdiv at h
  split at h
  · split at h
    · rename_i hd
      cases h; exact ⟨_, _, rfl, rfl, of_decide_eq_true hd, fun _ => rfl⟩
    · cases h
  · cases h
theorem o_mod : Op2 K (rI (fun _ j => j ≠ 0) fun i j => .int (i.fmod j)) dMod := o_int fun d e z h => by
  unfold dMod at h
  split at h
  · split at h
    · rename_i hd
      cases h; exact ⟨_, _, rfl, rfl, of_decide_eq_true hd, fun _ => rfl⟩
    · cases h
  · cases h
theorem o_pow : Op2 K (rI CPow fun i j => .int (i ^ j.toNat)) dPow := o_int fun d e z h => by
  unfold dPow at h
  split at h
  · split at h
    · rename_i hd
      cases h; exact ⟨_, _, rfl, rfl, (of_decide_eq_true hd : _ ∧ _ ∧ _), fun _ => rfl⟩
    · cases h
  · cases h
theorem o_cmp {p : Int → Int → Bool} : Op2 K (rI0 fun i j => .bl (p i j)) (dI p) := o_int0 fun d e z h => by
  unfold dI at h
  split at h
  · cases h; exact ⟨_, _, rfl, rfl, fun _ => rfl⟩
  · cases h
abbrev rAddX (K : PySem.W.Frag) : R2 := fun x y H Q => (rI0 (fun i j => .int (i + j)) x y H Q) ∨ (rAddS x y H Q ∨ (rCat x y H Q ∨ rCatT K x y H Q))
theorem op_addX : OpR X (binaryOp .Add) (rAddX X.K) := OpR.or op_add (OpR.or op_add_str (OpR.or op_cat op_catT))
theorem o_add : Op2 K (rAddX K) dAdd := by
  intro C G H σ s x y d e z A r1 r2 ho Q q
  unfold dAdd at ho
  split at ho
  · cases ho
    exact .inl ⟨_, _, r1, r2, q _ H G (Fw.refl A.gh) rfl⟩
  · split at ho
    · rename_i hl
      cases ho
      exact .inr (.inl ⟨_, _, r1, r2, hl, q _ H G (Fw.refl A.gh) rfl⟩)
    · cases ho
  · split at ho
    · rename_i hl
      cases ho
      obtain ⟨a, vs, e1, h1, h2⟩ := r1
      obtain ⟨b, us, e2, h3, h4⟩ := r2
      subst e1 e2
      refine .inr (.inr (.inl ⟨a, b, vs, us, rfl, rfl, A.gh _ _ h1, A.gh _ _ h3, by rw [h2.length, h4.length]; exact hl, fun p hp => ?_⟩))
      exact lst_ok A (h2.append h4) q p hp
    · cases ho
  · split at ho
    · rename_i hl
      cases ho
      obtain ⟨a, vs, e1, h1, h2⟩ := r1
      obtain ⟨b, us, e2, h3, h4⟩ := r2
      subst e1 e2
      have l1 := h2.length
      have l2 := h4.length
      refine .inr (.inr (.inr ⟨a, b, vs, us, rfl, rfl, Same.tup A.gh h1, Same.tup A.gh h3, fun z => ?_, by rw [l1, l2]; exact hl, fun z => ?_, fun z p hp => tup_ok A (h2.append h4) q p hp⟩))
      · rw [z] at l1
        simp at l1
      · subst z
        have q1 := h2.append h4
        rw [List.append_nil] at q1
        exact q _ H G (Fw.refl A.gh) ⟨a, vs, rfl, h1, q1⟩
    · cases ho
  · cases ho
abbrev rMulX : R2 := fun x y H Q => (rI (fun i j => fitM i j = true) (fun i j => .int (i * j)) x y H Q) ∨ rRep x y H Q
theorem op_mulXX : OpR X (binaryOp .Mult) rMulX := OpR.or op_mulX op_rep
theorem RpL.rep {G : Hp} {vs : List V} {ds : List DV} (h : RpL K G vs ds) : ∀ n : Nat, RpL K G (List.replicate n vs).flatten (List.replicate n ds).flatten
  | 0 => rfl
  | n + 1 => by
    rw [List.replicate_succ, List.replicate_succ, List.flatten_cons, List.flatten_cons]
    exact h.append (RpL.rep h n)
theorem o_mul : Op2 K rMulX dMul := by
  intro C G H σ s x y d e z A r1 r2 ho Q q
  unfold dMul at ho
  split at ho
  · split at ho
    · rename_i hl
      cases ho
      exact .inl ⟨_, _, r1, r2, hl, q _ H G (Fw.refl A.gh) rfl⟩
    · cases ho
  · split at ho
    · rename_i hl
      cases ho
      obtain ⟨a, vs, e1, h1, h2⟩ := r1
      have e2 : y = .int _ := r2
      subst e1 e2
      obtain ⟨l1, l2, l3⟩ := of_decide_eq_true hl
      exact .inr ⟨a, _, vs, rfl, rfl, A.gh _ _ h1, l1, l2, by rw [h2.length]; exact l3, fun p hp => lst_ok A (h2.rep _) q p hp⟩
    · cases ho
  · cases ho
mutual
theorem Rp.dp {G H : Hp} (g : Same G H) : ∀ (d : DV) (v : V) (x : PyData), Rp K G v d → toPy d = some x → Dp K H v x
  | .non, v, x, h, e => by
    cases e
    have h' : v = .non := h
    rw [h']
    exact .non
  | .bl b, v, x, h, e => by
    cases e
    have h' : v = .bl b := h
    rw [h']
    exact .bl b
  | .int b, v, x, h, e => by
    cases e
    have h' : v = .int b := h
    rw [h']
    exact .int b
  | .str b, v, x, h, e => by
    cases e
    have h' : v = .str b := h
    rw [h']
    exact .str b
  | .tup ds, v, x, h, e => by
    obtain ⟨a, vs, e1, h1, h2⟩ := h
    unfold toPy at e
    cases q : toPyL ds with
    | none => rw [q] at e; cases e
    | some xs =>
      rw [q] at e
      cases e
      rw [e1]
      exact .tup (Same.tup g h1) (RpL.dp g ds vs xs h2 q)
  | .lst ds, v, x, h, e => by
    obtain ⟨a, vs, e1, h1, h2⟩ := h
    unfold toPy at e
    cases q : toPyL ds with
    | none => rw [q] at e; cases e
    | some xs =>
      rw [q] at e
      cases e
      rw [e1]
      exact .lst (SqL.of (g _ _ h1)) (RpL.dp g ds vs xs h2 q)
  | .scr ns, v, x, h, e => by
    obtain ⟨a, e1, h1⟩ := h
    cases e
    rw [e1]
    refine .lst (g.seq h1) ?_
    clear h1 e1
    induction ns with
    | nil => exact .nil
    | cons n ns ih => exact .cons (.int n) ih
  | .raw _, _, _, _, e => by cases e
  | .exc _, _, _, _, e => by cases e
theorem RpL.dp {G H : Hp} (g : Same G H) : ∀ (ds : List DV) (vs : List V) (xs : List PyData), RpL K G vs ds → toPyL ds = some xs → DpAll K H vs xs
  | [], vs, xs, h, e => by
    cases e
    have h' : vs = [] := h
    rw [h']
    exact .nil
  | d :: ds, vs, xs, h, e => by
    obtain ⟨v, r, e1, h1, h2⟩ := h
    unfold toPyL at e
    split at e
    · rename_i x q1
      split at e
      · rename_i r' q2
        cases e
        rw [e1]
        exact .cons (Rp.dp g d v x h1 q1) (RpL.dp g ds r r' h2 q2)
      · cases e
    · cases e
end
theorem o_eq : Op2 K (rEqD K) dEq := by
  intro C G H σ s x y d e z A r1 r2 ho Q q
  unfold dEq at ho
  cases h1 : toPy d with
  | none => rw [h1] at ho; cases ho
  | some a =>
    rw [h1] at ho
    cases h2 : toPy e with
    | none => rw [h2] at ho; cases ho
    | some b =>
      rw [h2] at ho
      dsimp only at ho
      split at ho
      · rename_i hs
        cases ho
        rw [Bool.and_eq_true] at hs
        exact ⟨a, b, Rp.dp A.gh d x a r1 h1, Rp.dp A.gh e y b r2 h2, hs.1, hs.2, q _ H G (Fw.refl A.gh) rfl⟩
      · cases ho
theorem o_ne : Op2 K (rNeD K) dNe := by
  intro C G H σ s x y d e z A r1 r2 ho Q q
  unfold dNe at ho
  cases h1 : toPy d with
  | none => rw [h1] at ho; cases ho
  | some a =>
    rw [h1] at ho
    cases h2 : toPy e with
    | none => rw [h2] at ho; cases ho
    | some b =>
      rw [h2] at ho
      dsimp only at ho
      split at ho
      · rename_i hs
        cases ho
        rw [Bool.and_eq_true] at hs
        exact ⟨a, b, Rp.dp A.gh d x a r1 h1, Rp.dp A.gh e y b r2 h2, hs.1, hs.2, q _ H G (Fw.refl A.gh) rfl⟩
      · cases ho
theorem Rp.non_iff {G : Hp} {v : V} {d : DV} (h : Rp K G v d) (hr : ∀ u, d ≠ .raw u) : v = .non ↔ d = .non := by
  constructor
  · intro e
    subst e
    cases d with
    | non => rfl
    | raw u => exact absurd rfl (hr u)
    | tup ds => obtain ⟨a, vs, e, _⟩ := h; cases e
    | lst ds => obtain ⟨a, vs, e, _⟩ := h; cases e
    | scr ns => obtain ⟨a, e, _⟩ := h; cases e
    | exc c => obtain ⟨a, e, _⟩ := h; cases e
    | bl b => cases (show V.non = V.bl b from h)
    | int b => cases (show V.non = V.int b from h)
    | str b => cases (show V.non = V.str b from h)
  · intro e
    subst e
    exact h
theorem o_isN : Op2 K rIsN dIsN := by
  intro C G H σ s x y d e z A r1 r2 ho Q q
  unfold dIsN at ho
  split at ho
  · cases ho
  · cases ho
    exact ⟨r2, q _ H G (Fw.refl A.gh) (by rw [show x = .non from r1]; rfl)⟩
  · rename_i n1 n2
    cases ho
    have hx : x ≠ .non := fun z => n2 ((Rp.non_iff r1 (fun u z => n1 u z)).mp z)
    exact ⟨r2, q _ H G (Fw.refl A.gh) (by rw [decide_eq_false hx]; rfl)⟩
  · cases ho
theorem o_notN : Op2 K rNotN dNotN := by
  intro C G H σ s x y d e z A r1 r2 ho Q q
  unfold dNotN at ho
  split at ho
  · cases ho
  · cases ho
    exact ⟨r2, q _ H G (Fw.refl A.gh) (by rw [show x = .non from r1]; rfl)⟩
  · rename_i n1 n2
    cases ho
    have hx : x ≠ .non := fun z => n2 ((Rp.non_iff r1 (fun u z => n1 u z)).mp z)
    exact ⟨r2, q _ H G (Fw.refl A.gh) (by rw [decide_eq_false hx]; rfl)⟩
  · cases ho
end

/-! ## expressions by their operators -/
section
variable {X : Cx} {C : Cn} {e a b c : Expr} {es : List Expr} {pos : Pos} {f g h : EF}
theorem fe_add (h1 : FE X C a f) (h2 : FE X C b g) : FE X C (.BinOp a .Add b pos) (e2 f g dAdd) := fe_op op_addX o_add h1 h2
theorem fe_sub (h1 : FE X C a f) (h2 : FE X C b g) : FE X C (.BinOp a .Sub b pos) (e2 f g dSub) := fe_op op_sub o_sub h1 h2
theorem fe_mul (h1 : FE X C a f) (h2 : FE X C b g) : FE X C (.BinOp a .Mult b pos) (e2 f g dMul) := fe_op op_mulXX o_mul h1 h2
theorem fe_fdiv (h1 : FE X C a f) (h2 : FE X C b g) : FE X C (.BinOp a .FloorDiv b pos) (e2 f g dFdiv) := fe_op op_fdivX o_fdiv h1 h2
theorem fe_mod (h1 : FE X C a f) (h2 : FE X C b g) : FE X C (.BinOp a .Mod b pos) (e2 f g dMod) := fe_op op_modN o_mod h1 h2
theorem fe_pow (h1 : FE X C a f) (h2 : FE X C b g) : FE X C (.BinOp a .Pow b pos) (e2 f g dPow) := fe_op op_pow o_pow h1 h2
theorem o_neg {K : PySem.W.Frag} : Op1 K (rU fun i => .int (-i)) dNeg := by
  intro C G H σ s x d z A r1 ho Q q
  unfold dNeg at ho
  split at ho
  · cases ho
    exact ⟨_, r1, q _ H G (Fw.refl A.gh) rfl⟩
  · cases ho
theorem fe_neg (h1 : FE X C a f) : FE X C (.UnaryOp .USub a pos) (e1 f dNeg) := by
  obtain ⟨ta, p1, q1⟩ := h1
  exact ⟨_, pe_un un_neg p1, ev1 q1 o_neg fun _ _ _ h => h⟩
theorem fe_lt (h1 : FE X C a f) (h2 : FE X C b g) : FE X C (.Compare a [.Lt] [b] pos) (e2 f g dLt) := fe_cmp op_lt o_cmp h1 h2
theorem fe_le (h1 : FE X C a f) (h2 : FE X C b g) : FE X C (.Compare a [.LtE] [b] pos) (e2 f g dLe) := fe_cmp op_le o_cmp h1 h2
theorem fe_gt (h1 : FE X C a f) (h2 : FE X C b g) : FE X C (.Compare a [.Gt] [b] pos) (e2 f g dGt) := fe_cmp op_gt o_cmp h1 h2
theorem fe_ge (h1 : FE X C a f) (h2 : FE X C b g) : FE X C (.Compare a [.GtE] [b] pos) (e2 f g dGe) := fe_cmp op_ge o_cmp h1 h2
theorem fe_eq (hu : X.A.units + 64 < cLine) (h1 : FE X C a f) (h2 : FE X C b g) : FE X C (.Compare a [.Eq] [b] pos) (e2 f g dEq) := fe_cmp (op_eqD hu) o_eq h1 h2
theorem fe_ne (hu : X.A.units + 64 < cLine) (h1 : FE X C a f) (h2 : FE X C b g) : FE X C (.Compare a [.NotEq] [b] pos) (e2 f g dNe) := fe_cmp (op_neD hu) o_ne h1 h2
theorem fe_isN (h1 : FE X C a f) (h2 : FE X C b g) : FE X C (.Compare a [.Is] [b] pos) (e2 f g dIsN) := fe_cmp op_isN1 o_isN h1 h2
theorem fe_notN (h1 : FE X C a f) (h2 : FE X C b g) : FE X C (.Compare a [.IsNot] [b] pos) (e2 f g dNotN) := fe_cmp op_notN1 o_notN h1 h2
end
end FD

set_option maxRecDepth 100000
namespace FD
open PySem PySem.Spec PyProof.Rows L2

/-! ## tests -/
def truD : DV → Option Bool
  | .non => some false
  | .bl b => some b
  | .int i => some (i != 0)
  | .str x => if x.length ≤ sizeLine then some ((x.length : Int) != 0) else none
  | .lst ds => some (!ds.isEmpty)
  | .tup ds => some (!ds.isEmpty)
  | .scr ns => some (!ns.isEmpty)
  | .raw _ => none
  | .exc _ => none
/-- a value that is True or False; any value's truth -/
def tBl (f : EF) : TF := fun s => match f s with
  | some (.bl b, s1) => some (b, s1)
  | _ => none
def tTr (f : EF) : TF := fun s => match f s with
  | some (d, s1) => match truD d with
    | some b => some (b, s1)
    | none => none
  | none => none
def tAn (f g : TF) : TF := fun s => match f s with
  | some (true, s1) => g s1
  | some (false, s1) => some (false, s1)
  | none => none
def tOo (f g : TF) : TF := fun s => match f s with
  | some (true, s1) => some (true, s1)
  | some (false, s1) => g s1
  | none => none
def tNo (f : TF) : TF := fun s => match f s with
  | some (b, s1) => some (!b, s1)
  | none => none
def eIf (t : TF) (f g : EF) : EF := fun s => match t s with
  | some (true, s1) => f s1
  | some (false, s1) => g s1
  | none => none
def eAn (f g : EF) : EF := fun s => match f s with
  | some (.bl true, s1) => g s1
  | some (.bl false, s1) => some (.bl false, s1)
  | _ => none
def eOo (f g : EF) : EF := fun s => match f s with
  | some (.bl true, s1) => some (.bl true, s1)
  | some (.bl false, s1) => g s1
  | _ => none
def eNo (f : EF) : EF := fun s => match f s with
  | some (.bl b, s1) => some (.bl (!b), s1)
  | _ => none
section
variable {X : Cx} {C : Cn} {e a b c : Expr} {es : List Expr} {pos : Pos} {f g h : EF} {t u : TF}
theorem evBl {K : PySem.W.Frag} {te : TE} (q : EvE K C te f) {tt : TT} (ht : ∀ σ H Q, (te σ H fun x H' => ∃ k, x = .bl k ∧ Q k H') → tt σ H Q) : EvT K C tt (tBl f) := by
  intro G H σ s k s' A h Q k1
  unfold tBl at h
  split at h
  · rename_i k' s1 e1
    cases h
    exact ht σ H Q (q G H σ s _ _ A e1 _ fun v H' G' g1 A1 r => ⟨_, r, k1 H' G' g1 A1⟩)
  · cases h
theorem ft_cmp {r : R2} {op : DV → DV → Option DV} {o : CmpOp} (hr : OpR X (compareOp o) r) (ho : Op2 X.K r op) (h1 : FE X C a f) (h2 : FE X C b g) (hm : behindInMarks o b = false := by first | exact nomark _ | rfl) : FT X C (.Compare a [o] [b] pos) (tBl (e2 f g op)) := by
  obtain ⟨ta, p1, q1⟩ := h1
  obtain ⟨tb, p2, q2⟩ := h2
  exact ⟨_, pt_cmpR hr p1 p2 hm, evBl (ev2 (t := tOp r ta tb) q1 q2 ho fun _ _ _ h => h) fun _ _ _ h => h⟩
theorem ft_lt (h1 : FE X C a f) (h2 : FE X C b g) : FT X C (.Compare a [.Lt] [b] pos) (tBl (e2 f g dLt)) := ft_cmp op_lt o_cmp h1 h2
theorem ft_le (h1 : FE X C a f) (h2 : FE X C b g) : FT X C (.Compare a [.LtE] [b] pos) (tBl (e2 f g dLe)) := ft_cmp op_le o_cmp h1 h2
theorem ft_gt (h1 : FE X C a f) (h2 : FE X C b g) : FT X C (.Compare a [.Gt] [b] pos) (tBl (e2 f g dGt)) := ft_cmp op_gt o_cmp h1 h2
theorem ft_ge (h1 : FE X C a f) (h2 : FE X C b g) : FT X C (.Compare a [.GtE] [b] pos) (tBl (e2 f g dGe)) := ft_cmp op_ge o_cmp h1 h2
theorem ft_eq (hu : X.A.units + 64 < cLine) (h1 : FE X C a f) (h2 : FE X C b g) : FT X C (.Compare a [.Eq] [b] pos) (tBl (e2 f g dEq)) := ft_cmp (op_eqD hu) o_eq h1 h2
theorem ft_ne (hu : X.A.units + 64 < cLine) (h1 : FE X C a f) (h2 : FE X C b g) : FT X C (.Compare a [.NotEq] [b] pos) (tBl (e2 f g dNe)) := ft_cmp (op_neD hu) o_ne h1 h2
theorem ft_isN (h1 : FE X C a f) (h2 : FE X C b g) : FT X C (.Compare a [.Is] [b] pos) (tBl (e2 f g dIsN)) := ft_cmp op_isN1 o_isN h1 h2
theorem ft_notN (h1 : FE X C a f) (h2 : FE X C b g) : FT X C (.Compare a [.IsNot] [b] pos) (tBl (e2 f g dNotN)) := ft_cmp op_notN1 o_notN h1 h2
theorem tru_of {K : PySem.W.Frag} {G H : Hp} (g : Same G H) {v : V} {d : DV} {k : Bool} (r : Rp K G v d) (e : truD d = some k) : TruV K v H k := by
  cases d with
  | non => cases e; rw [show v = .non from r]; rfl
  | bl b => cases e; rw [show v = .bl _ from r]; rfl
  | int b => cases e; rw [show v = .int _ from r]; rfl
  | str x =>
    simp only [truD] at e
    split at e
    · rename_i hl
      cases e
      rw [show v = .str _ from r]
      exact ⟨hl, rfl⟩
    · cases e
  | lst ds =>
    cases e
    obtain ⟨a, vs, e1, h1, h2⟩ := r
    rw [e1]
    refine .inl ⟨vs, SqL.of (g _ _ h1), ?_⟩
    have := h2.length
    cases vs <;> cases ds <;> first | rfl | (simp at this)
  | tup ds =>
    cases e
    obtain ⟨a, vs, e1, h1, h2⟩ := r
    rw [e1]
    refine .inr (.inl ⟨vs, Same.tup g h1, ?_⟩)
    have := h2.length
    cases vs <;> cases ds <;> first | rfl | (simp at this)
  | scr ns =>
    cases e
    obtain ⟨a, e1, h1⟩ := r
    rw [e1]
    refine .inl ⟨_, g.seq h1, ?_⟩
    cases ns <;> rfl
  | raw u => cases e
  | exc c => cases e
theorem ft_tr (h1 : FE X C a f) (he : ∀ whole, isTrue a X.env whole = (do let v ← whole; standAt a.pos; holding [v] (truthy v)) := by intro _; rfl) : FT X C a (tTr f) := by
  obtain ⟨ta, p1, q1⟩ := h1
  refine ⟨_, pt_truth p1 he, ?_⟩
  intro G H σ s k s' A h Q k1
  unfold tTr at h
  split at h
  · rename_i d s1 e1
    split at h
    · rename_i b e2
      cases h
      exact q1 G H σ s d _ A e1 _ fun v H' G' g1 A1 r => ⟨_, tru_of A1.gh r e2, k1 H' G' g1 A1⟩
    · cases h
  · cases h
theorem FW.ft (h : FW X C e t) : FT X C e t := let ⟨tt, p, q⟩ := h; ⟨tt, p.pt, q⟩
theorem evAn {K : PySem.W.Frag} {ta tb : TT} (q1 : EvT K C ta t) (q2 : EvT K C tb u) : EvT K C (tAnd ta tb) (tAn t u) := by
  intro G H σ s k s' A h Q k1
  unfold tAn at h
  split at h
  · rename_i s1 e1
    refine q1 G H σ s _ _ A e1 _ fun H1 G1 g1 A1 => ?_
    rw [if_pos rfl]
    exact q2 G1 H1 σ _ _ _ A1 h Q fun H2 G2 g2 A2 => k1 H2 G2 (g1.trans g2) A2
  · rename_i s1 e1
    cases h
    refine q1 G H σ s _ _ A e1 _ fun H1 G1 g1 A1 => ?_
    rw [if_neg Bool.false_ne_true]
    exact k1 H1 G1 g1 A1
  · cases h
theorem evOo {K : PySem.W.Frag} {ta tb : TT} (q1 : EvT K C ta t) (q2 : EvT K C tb u) : EvT K C (tOr ta tb) (tOo t u) := by
  intro G H σ s k s' A h Q k1
  unfold tOo at h
  split at h
  · rename_i s1 e1
    cases h
    refine q1 G H σ s _ _ A e1 _ fun H1 G1 g1 A1 => ?_
    rw [if_pos rfl]
    exact k1 H1 G1 g1 A1
  · rename_i s1 e1
    refine q1 G H σ s _ _ A e1 _ fun H1 G1 g1 A1 => ?_
    rw [if_neg Bool.false_ne_true]
    exact q2 G1 H1 σ _ _ _ A1 h Q fun H2 G2 g2 A2 => k1 H2 G2 (g1.trans g2) A2
  · cases h
theorem fw_and1 (h : FT X C a t) : FW X C (.BoolOp .And [a] pos) t := let ⟨tt, p, q⟩ := h; ⟨tt, pw_and1 p, q⟩
theorem fw_or1 (h : FT X C a t) : FW X C (.BoolOp .Or [a] pos) t := let ⟨tt, p, q⟩ := h; ⟨tt, pw_or1 p, q⟩
theorem fw_and (h : FT X C a t) (h2 : FW X C (.BoolOp .And (b :: es) pos) u) : FW X C (.BoolOp .And (a :: b :: es) pos) (tAn t u) :=
  let ⟨_, p, q⟩ := h; let ⟨_, p2, q2⟩ := h2; ⟨_, pw_and p p2, evAn q q2⟩
theorem fw_or (h : FT X C a t) (h2 : FW X C (.BoolOp .Or (b :: es) pos) u) : FW X C (.BoolOp .Or (a :: b :: es) pos) (tOo t u) :=
  let ⟨_, p, q⟩ := h; let ⟨_, p2, q2⟩ := h2; ⟨_, pw_or p p2, evOo q q2⟩
theorem ft_not (h : FT X C a t) : FT X C (.UnaryOp .Not a pos) (tNo t) := by
  obtain ⟨tt, p, q⟩ := h
  refine ⟨_, pt_not p, ?_⟩
  intro G H σ s k s' A h Q k1
  unfold tNo at h
  split at h
  · rename_i b s1 e1
    cases h
    exact q G H σ s _ _ A e1 _ fun H1 G1 g1 A1 => k1 H1 G1 g1 A1
  · cases h
theorem fe_if (h : FT X C c t) (h1 : FE X C a f) (h2 : FE X C b g) : FE X C (.IfExp c a b pos) (eIf t f g) := by
  obtain ⟨tt, p, q⟩ := h
  obtain ⟨ta, p1, q1⟩ := h1
  obtain ⟨tb, p2, q2⟩ := h2
  refine ⟨_, pe_ifExp p p1 p2, ?_⟩
  intro G H σ s k s' A h Q k1
  unfold eIf at h
  split at h
  · rename_i s1 e1
    refine q G H σ s _ _ A e1 _ fun H1 G1 g1 A1 => ?_
    rw [if_pos rfl]
    exact q1 G1 H1 σ _ _ _ A1 h Q fun v H2 G2 g2 A2 r => k1 v H2 G2 (g1.trans g2) A2 r
  · rename_i s1 e1
    refine q G H σ s _ _ A e1 _ fun H1 G1 g1 A1 => ?_
    rw [if_neg Bool.false_ne_true]
    exact q2 G1 H1 σ _ _ _ A1 h Q fun v H2 G2 g2 A2 r => k1 v H2 G2 (g1.trans g2) A2 r
  · cases h
theorem fe_one {op} (h : FE X C a f) : FE X C (.BoolOp op [a] pos) f := let ⟨_, p, q⟩ := h; ⟨_, pe_one p, q⟩
theorem fe_and (h1 : FE X C a f) (h2 : FE X C (.BoolOp .And (b :: es) pos) g) : FE X C (.BoolOp .And (a :: b :: es) pos) (eAn f g) := by
  obtain ⟨ta, p1, q1⟩ := h1
  obtain ⟨tb, p2, q2⟩ := h2
  refine ⟨_, pe_and p1 p2, ?_⟩
  intro G H σ s k s' A h Q k1
  unfold eAn at h
  split at h
  · rename_i s1 e1
    refine q1 G H σ s _ _ A e1 _ fun v H1 G1 g1 A1 r => ⟨true, r, ?_⟩
    rw [if_pos rfl]
    exact q2 G1 H1 σ _ _ _ A1 h Q fun v H2 G2 g2 A2 r => k1 v H2 G2 (g1.trans g2) A2 r
  · rename_i s1 e1
    cases h
    refine q1 G H σ s _ _ A e1 _ fun v H1 G1 g1 A1 r => ⟨false, r, ?_⟩
    rw [if_neg Bool.false_ne_true]
    exact k1 _ H1 G1 g1 A1 rfl
  · cases h
theorem fe_or (h1 : FE X C a f) (h2 : FE X C (.BoolOp .Or (b :: es) pos) g) : FE X C (.BoolOp .Or (a :: b :: es) pos) (eOo f g) := by
  obtain ⟨ta, p1, q1⟩ := h1
  obtain ⟨tb, p2, q2⟩ := h2
  refine ⟨_, pe_or p1 p2, ?_⟩
  intro G H σ s k s' A h Q k1
  unfold eOo at h
  split at h
  · rename_i s1 e1
    cases h
    refine q1 G H σ s _ _ A e1 _ fun v H1 G1 g1 A1 r => ⟨true, r, ?_⟩
    rw [if_pos rfl]
    exact k1 _ H1 G1 g1 A1 rfl
  · rename_i s1 e1
    refine q1 G H σ s _ _ A e1 _ fun v H1 G1 g1 A1 r => ⟨false, r, ?_⟩
    rw [if_neg Bool.false_ne_true]
    exact q2 G1 H1 σ _ _ _ A1 h Q fun v H2 G2 g2 A2 r => k1 v H2 G2 (g1.trans g2) A2 r
  · cases h
theorem fe_not (h1 : FE X C a f) : FE X C (.UnaryOp .Not a pos) (eNo f) := by
  obtain ⟨ta, p1, q1⟩ := h1
  refine ⟨_, pe_not p1, ?_⟩
  intro G H σ s k s' A h Q k1
  unfold eNo at h
  split at h
  · rename_i b s1 e1
    cases h
    exact q1 G H σ s _ _ A e1 _ fun v H1 G1 g1 A1 r => ⟨b, r, k1 _ H1 G1 g1 A1 rfl⟩
  · cases h
end

/-! ## subscripts -/
def dIx : DV → DV → Option DV
  | .lst ds, .int i => atI ds i
  | .tup ds, .int i => atI ds i
  | .str z, .int i => if z.length ≤ sizeLine then (atI z.cps.toList i).map fun c => .str ⟨#[c]⟩ else none
  | _, _ => none
section
variable {K : PySem.W.Frag} {X : Cx} {C : Cn} {e a b c : Expr} {es : List Expr} {pos p2 : Pos} {f g h : EF} {t u : TF}
theorem RpL.atI {G : Hp} {vs : List V} {ds : List DV} {i : Int} {d : DV} (h : RpL K G vs ds) (e : atI ds i = some d) : ∃ v, L2.atI vs i = some v ∧ Rp K G v d := by
  unfold L2.atI at *
  rw [h.length]
  cases q : ixN ds.length i with
  | none => rw [q] at e; cases e
  | some j =>
    rw [q] at e
    exact h.get e
theorem o_ix : Op2 K (rIx K) dIx := by
  intro C G H σ s x y d e z A r1 r2 ho Q q
  unfold dIx at ho
  split at ho
  · obtain ⟨a, vs, e1, h1, h2⟩ := r1
    obtain ⟨v, h3, h4⟩ := h2.atI ho
    exact .inl ⟨a, vs, _, v, e1, r2, SqL.of (A.gh _ _ h1), h3, q v H G (Fw.refl A.gh) h4⟩
  · obtain ⟨a, vs, e1, h1, h2⟩ := r1
    obtain ⟨v, h3, h4⟩ := h2.atI ho
    exact .inr (.inl ⟨a, vs, _, v, e1, r2, Same.tup A.gh h1, h3, q v H G (Fw.refl A.gh) h4⟩)
  · rename_i zz ii
    split at ho
    · rename_i hl
      cases q1 : atI zz.cps.toList ii with
      | none => rw [q1] at ho; cases ho
      | some c =>
        rw [q1] at ho
        cases ho
        exact .inr (.inr ⟨_, _, c, r1, r2, hl, q1, q _ H G (Fw.refl A.gh) rfl⟩)
    · cases ho
  · cases ho
theorem fe_ix (h1 : FE X C a f) (h2 : FE X C b g) (hs : PlainIx b := by exact fun _ _ => rfl) : FE X C (.Subscript a b pos) (e2 f g dIx) := by
  obtain ⟨ta, p1, q1⟩ := h1
  obtain ⟨tb, p2, q2⟩ := h2
  exact ⟨_, pe_ix ix_seq p1 p2 hs, ev2 q1 q2 o_ix fun _ _ _ h => h⟩
/-- what a name's slot is worth for a reader: a list of the frame's own stays its own -/
def peek (s : S) (i : Nat) : Option DV := match s.sl[i]? with
  | some (some (.dat d)) => some d
  | some (some (.own ds)) => some (.lst ds)
  | _ => none
/-- the datum at v, in the heap itself; its items are data -/
theorem Ab.peek {K : PySem.W.Frag} {G H : Hp} {σ : List (Option V)} {s : S} {i : Nat} {d : DV} (A : Ab K C G H σ s) (h : FD.peek s i = some d) : ∃ v G', σ[i]? = some (some v) ∧ Same G G' ∧ Same G' H ∧ Rp K G' v d ∧
    (∀ ds, d = .lst ds → ∃ a vs, v = .ref a ∧ H a = some (.lst vs) ∧ RpL K G vs ds) ∧ ((∀ ds, d ≠ .lst ds) → Rp K G v d) := by
  unfold FD.peek at h
  split at h
  · rename_i d' e1
    cases h
    obtain ⟨o, e2, v, e3, r⟩ := A.slot e1
    subst e3
    refine ⟨v, G, e2, Same.refl _, A.gh, r, fun ds e => ?_, fun _ => r⟩
    subst e
    obtain ⟨a, vs, q1, q2, q3⟩ := r
    exact ⟨a, vs, q1, A.gh _ _ q2, q3⟩
  · rename_i ds e1
    cases h
    obtain ⟨o, e2, a, vs, e3, h1, h2, h3, h4, h5⟩ := A.slot e1
    subst e3
    have sg : Same G (upd G a (.lst vs)) := fun b u e => by rw [upd_ne (fun z => by rw [z, h3] at e; cases e)]; exact e
    refine ⟨_, upd G a (.lst vs), e2, sg, fun b u e => ?_, ⟨a, vs, rfl, upd_same, RpL.mono sg ds vs h2⟩, fun ds' e => ?_, fun z => absurd rfl (z ds)⟩
    · by_cases z : b = a
      · rw [z, upd_same] at e
        rw [z, ← e]
        exact h1
      · rw [upd_ne z] at e
        exact A.gh _ _ e
    · cases e
      exact ⟨a, vs, rfl, h1, h2⟩
  · cases h
def eIxN (i : Nat) (g : EF) : EF := fun s => match FD.peek s i with
  | some _ => match g s with
    | some (k, s1) => match FD.peek s1 i with
      | some d => match dIx d k with
        | some z => some (z, s1)
        | none => none
      | none => none
    | none => none
  | none => none
theorem fe_ixn (i : Nat) {x : Str} {pos' : Pos} (h2 : FE X C b g) (hN : X.N[i]? = some x := by rfl) (hv : Vis X.env.scope x := by first | exact Or.inl rfl | exact Or.inr (Or.inl rfl) | exact Or.inr (Or.inr rfl)) (hd : (x == ("__debug__" : Str)) = false := by decide)
    (hcd : (x == ("__classdict__" : Str)) = false := by decide) (hs : PlainIx b := by exact fun _ _ => rfl) : FE X C (.Subscript (.Name x pos') b pos) (eIxN i g) := by
  obtain ⟨tb, p2, q2⟩ := h2
  refine ⟨_, pe_ix ix_seq (pe_var hN hv hd hcd) p2 hs, ?_⟩
  intro G H σ s z s' A h Q q
  unfold eIxN at h
  split at h
  · rename_i d0 e0
    obtain ⟨v, _, ev, _⟩ := A.peek e0
    split at h
    · rename_i k s1 e1
      split at h
      · rename_i d e2
        split at h
        · rename_i z' e3
          cases h
          refine ⟨v, ev, q2 G H σ s k _ A e1 _ fun u H1 G1 g1 A1 r => ?_⟩
          obtain ⟨w, G2, ew, g2, g3, r2, r3, r4⟩ := A1.peek e2
          rw [ev] at ew
          cases ew
          cases d with
          | lst ds =>
            obtain ⟨a, vs, rfl, ha, hr⟩ := r3 ds rfl
            cases k with
            | int j =>
              obtain ⟨y, q3, q4⟩ := hr.atI e3
              exact .inl ⟨a, vs, _, y, rfl, r, SqL.of ha, q3, q y H1 G1 g1 A1 q4⟩
            | _ => cases e3
          | _ =>
            have r5 := r4 (fun ds z => nomatch z)
            exact o_ix C G1 H1 σ _ v u _ k _ A1 r5 r e3 Q fun y H' G' F ry => q y H' G' (g1.trans F.g) (A1.fw0 F) ry
        · cases h
      · cases h
    · cases h
  · cases h
/-! ## slices -/
def cutD (ds : List DV) (lo hi : Option Int) : List DV := (ds.drop (HT.sIx ds.length 0 lo)).take (HT.sIx ds.length ds.length hi - HT.sIx ds.length 0 lo)
def dSl : DV → Option Int → Option Int → Option DV
  | .lst ds, lo, hi => some (.lst (cutD ds lo hi))
  | .scr ns, lo, hi => some (.lst (cutD (ns.map .int) lo hi))
  | .tup ds, lo, hi => if HT.sIx ds.length 0 lo = 0 ∧ HT.sIx ds.length ds.length hi = ds.length then none else some (.tup (cutD ds lo hi))
  | _, _, _ => none
theorem RpL.cut {G : Hp} {vs : List V} {ds : List DV} (h : RpL K G vs ds) (lo hi : Option Int) : RpL K G (cutV vs lo hi) (cutD ds lo hi) := by
  unfold cutV cutD
  rw [h.length]
  exact (h.drop _).take _
abbrev rSlX (K : PySem.W.Frag) : V → Option Int → Option Int → Hp → VK → Prop := fun x lo hi H Q => rSlL K x lo hi H Q ∨ rSlT K x lo hi H Q
theorem slX : SlR X (rSlX X.K) := SlR.or sl_list sl_tup
/-- a part of a slice -/
abbrev OF := S → Option (Option Int × S)
def EvO (K : PySem.W.Frag) (C : Cn) (to : TO) (f : OF) : Prop := ∀ G H σ s d s', Ab K C G H σ s → f s = some (d, s') →
  ∀ Q : Option Int → Hp → Prop, (∀ H' G', Same G G' → Ab K C G' H' σ s' → Q d H') → to σ H Q
def FO (X : Cx) (C : Cn) (e : Option Expr) (f : OF) : Prop := ∃ to, PO X e to ∧ EvO X.K C to f
def oNo : OF := fun s => some (none, s)
def oSo (f : EF) : OF := fun s => match f s with
  | some (.int i, s1) => some (some i, s1)
  | _ => none
theorem fo_none : FO X C none oNo := ⟨_, po_none, by
  intro G H σ s d s' A h Q q
  cases h
  exact q H G (Same.refl _) A⟩
theorem fo_some (h : FE X C e f) : FO X C (some e) (oSo f) := by
  obtain ⟨te, p, q⟩ := h
  refine ⟨_, po_some p, ?_⟩
  intro G H σ s d s' A h Q k
  unfold oSo at h
  split at h
  · rename_i i s1 e1
    cases h
    exact q G H σ s _ _ A e1 _ fun v H' G' g A' r => ⟨i, r, k H' G' g A'⟩
  · cases h
def eSl (f : EF) (l h : OF) : EF := fun s => match f s with
  | some (d, s1) => match l s1 with
    | some (lo, s2) => match h s2 with
      | some (hi, s3) => match dSl d lo hi with
        | some z => some (z, s3)
        | none => none
      | none => none
    | none => none
  | none => none
theorem sl_of {G H : Hp} {σ : List (Option V)} {s : S} {v : V} {d z : DV} {lo hi : Option Int} {Q : VK} (A : Ab K C G H σ s) (r : Rp K G v d) (e : dSl d lo hi = some z) (q : ∀ v H' G', Fw G H G' H' none → Rp K G' v z → Q v H') : rSlX K v lo hi H Q := by
  unfold dSl at e
  split at e
  · cases e
    obtain ⟨a, vs, e1, h1, h2⟩ := r
    exact .inl ⟨a, vs, e1, SqL.of (A.gh _ _ h1), lst_ok A (h2.cut lo hi) q⟩
  · cases e
    obtain ⟨a, e1, h1⟩ := r
    exact .inl ⟨a, _, e1, A.gh.seq h1, lst_ok A ((RpL.ints _).cut lo hi) q⟩
  · split at e
    · cases e
    · rename_i hw
      cases e
      obtain ⟨a, vs, e1, h1, h2⟩ := r
      exact .inr ⟨a, vs, e1, Same.tup A.gh h1, by rw [h2.length]; exact hw, tup_ok A (h2.cut lo hi) q⟩
  · cases e
theorem fe_sl {lo hi : Option Expr} {l h : OF} (h1 : FE X C e f) (h2 : FO X C lo l) (h3 : FO X C hi h) : FE X C (.Subscript e (.Slice lo hi none p2) pos) (eSl f l h) := by
  obtain ⟨te, p1, q1⟩ := h1
  obtain ⟨tl, pl, ql⟩ := h2
  obtain ⟨th, ph, qh⟩ := h3
  refine ⟨_, pe_slice slX p1 pl ph, ?_⟩
  intro G H σ s z s' A e Q q
  unfold eSl at e
  split at e
  · rename_i d s1 a1
    split at e
    · rename_i lo' s2 a2
      split at e
      · rename_i hi' s3 a3
        split at e
        · rename_i z' a4
          cases e
          refine q1 G H σ s d s1 A a1 _ fun v H1 G1 g1 A1 r1 => ?_
          refine ql G1 H1 σ s1 _ s2 A1 a2 _ fun H2 G2 g2 A2 => ?_
          refine qh G2 H2 σ s2 _ _ A2 a3 _ fun H3 G3 g3 A3 => ?_
          exact sl_of A3 (Rp.mono (g2.trans g3) d v r1) a4 fun v H' G' F r => q v H' G' ((g1.trans (g2.trans g3)).trans F.g) (A3.fw0 F) r
        · cases e
      · cases e
    · cases e
  · cases e
/-- a slice of a name's list -/
def eSlN (i : Nat) (l h : OF) : EF := fun s => match FD.peek s i with
  | some _ => match l s with
    | some (lo, s2) => match h s2 with
      | some (hi, s3) => match FD.peek s3 i with
        | some d => match dSl d lo hi with
          | some z => some (z, s3)
          | none => none
        | none => none
      | none => none
    | none => none
  | none => none
theorem fe_sln (i : Nat) {x : Str} {pos' : Pos} {lo hi : Option Expr} {l h : OF} (h2 : FO X C lo l) (h3 : FO X C hi h) (hN : X.N[i]? = some x := by rfl) (hv : Vis X.env.scope x := by first | exact Or.inl rfl | exact Or.inr (Or.inl rfl) | exact Or.inr (Or.inr rfl)) (hd : (x == ("__debug__" : Str)) = false := by decide)
    (hcd : (x == ("__classdict__" : Str)) = false := by decide) : FE X C (.Subscript (.Name x pos') (.Slice lo hi none p2) pos) (eSlN i l h) := by
  obtain ⟨tl, pl, ql⟩ := h2
  obtain ⟨th, ph, qh⟩ := h3
  refine ⟨_, pe_slice slX (pe_var hN hv hd hcd) pl ph, ?_⟩
  intro G H σ s z s' A e Q q
  unfold eSlN at e
  split at e
  · rename_i d0 e0
    obtain ⟨v, _, ev, _⟩ := A.peek e0
    split at e
    · rename_i lo' s2 a2
      split at e
      · rename_i hi' s3 a3
        split at e
        · rename_i d a5
          split at e
          · rename_i z' a4
            cases e
            refine ⟨v, ev, ql G H σ s _ s2 A a2 _ fun H2 G2 g2 A2 => ?_⟩
            refine qh G2 H2 σ s2 _ _ A2 a3 _ fun H3 G3 g3 A3 => ?_
            obtain ⟨w, G4, ew, g4, g5, r2, r3, r4⟩ := A3.peek a5
            rw [ev] at ew
            cases ew
            cases d with
            | lst ds =>
              obtain ⟨a, vs, rfl, ha, hr⟩ := r3 ds rfl
              cases a4
              exact .inl ⟨a, vs, rfl, SqL.of ha, lst_ok A3 (hr.cut lo' hi') fun v H' G' F r => q v H' G' ((g2.trans g3).trans F.g) (A3.fw0 F) r⟩
            | _ => exact sl_of A3 (r4 (fun ds z => nomatch z)) a4 fun v H' G' F r => q v H' G' ((g2.trans g3).trans F.g) (A3.fw0 F) r
          · cases e
        · cases e
      · cases e
    · cases e
  · cases e
end

/-! ## calls of built-ins -/
def OpA (K : PySem.W.Frag) (r : List V → Hp → VK → Prop) (op : List DV → Option DV) : Prop := ∀ C G H σ s vs ds d, Ab K C G H σ s → RpL K G vs ds → op ds = some d →
  ∀ Q : VK, (∀ v H' G', Fw G H G' H' none → Rp K G' v d → Q v H') → r vs H Q
section
variable {K : PySem.W.Frag} {X : Cx} {C : Cn} {e a b c : Expr} {es : List Expr} {pos p p2 : Pos} {f g h : EF} {fa : AF} {x : Str} {id : String} {r : List V → Hp → VK → Prop} {op : List DV → Option DV}
theorem fe_callB (hc : CallR X (.builtin id) r) (ho : OpA X.K r op) (hm : X.mg x = none) (hv : bootBuiltins x = some (.builtin id)) (ha : FA X C (e :: es) fa) (hg : Gl X x := by rfl) (hn : x ≠ "__name__" := by decide) (hdb : (x == ("__debug__" : Str)) = false := by decide)
    (he : starEach (e :: es) X.env = (false, eval e X.env) :: starEach es X.env := by rfl) (hpl : (backTo pos (starEach es X.env)).any (·.1) = false := by rfl) : FE X C (.Call (.Name x p) (e :: es) [] pos) (eA fa op) := by
  obtain ⟨ta, p1, q1⟩ := ha
  exact ⟨_, pe_callB hc hg hm hv p1 hn hdb he hpl, evA_of q1 (fun _ _ _ h => h) fun G H σ s vs ds d A r e Q q => ho C G H σ s vs ds d A r e Q q⟩
theorem fe_callTy {T : String} (hc : CallR X (.type T) r) (ho : OpA X.K r op) (hm : X.mg x = none) (hv : bootBuiltins x = some (.type T)) (ha : FA X C (e :: es) fa) (hg : Gl X x := by rfl) (hn : x ≠ "__name__" := by decide) (hdb : (x == ("__debug__" : Str)) = false := by decide)
    (he : starEach (e :: es) X.env = (false, eval e X.env) :: starEach es X.env := by rfl) (hpl : (backTo pos (starEach es X.env)).any (·.1) = false := by rfl) : FE X C (.Call (.Name x p) (e :: es) [] pos) (eA fa op) := by
  obtain ⟨ta, p1, q1⟩ := ha
  exact ⟨_, pe_callTy hc hg hm hv p1 hn hdb he hpl, evA_of q1 (fun _ _ _ h => h) fun G H σ s vs ds d A r e Q q => ho C G H σ s vs ds d A r e Q q⟩
theorem fe_callM (hc : CallR X (.builtin id) r) (ho : OpA X.K r op) (hm : X.mg x = some (.builtin id)) (ha : FA X C (e :: es) fa) (hg : Gl X x := by rfl) (hdb : (x == ("__debug__" : Str)) = false := by decide)
    (he : starEach (e :: es) X.env = (false, eval e X.env) :: starEach es X.env := by rfl) (hpl : (backTo pos (starEach es X.env)).any (·.1) = false := by rfl) : FE X C (.Call (.Name x p) (e :: es) [] pos) (eA fa op) := by
  obtain ⟨ta, p1, q1⟩ := ha
  exact ⟨_, pe_callBfun hc hg hm p1 hdb he hpl, evA_of q1 (fun _ _ _ h => h) fun G H σ s vs ds d A r e Q q => ho C G H σ s vs ds d A r e Q q⟩
def dLen : List DV → Option DV
  | [.lst ds] => some (.int ds.length)
  | [.tup ds] => some (.int ds.length)
  | [.scr ns] => some (.int ns.length)
  | [.str x] => if x.length ≤ sizeLine then some (.int x.length) else none
  | _ => none
theorem RpL.single {G : Hp} {vs : List V} {d : DV} (h : RpL K G vs [d]) : ∃ v, vs = [v] ∧ Rp K G v d := by
  obtain ⟨v, r, e, h1, h2⟩ := h
  have h2' : r = [] := h2
  exact ⟨v, by rw [e, h2'], h1⟩
theorem RpL.double {G : Hp} {vs : List V} {d d' : DV} (h : RpL K G vs [d, d']) : ∃ v v', vs = [v, v'] ∧ Rp K G v d ∧ Rp K G v' d' := by
  obtain ⟨v, r, e, h1, h2⟩ := h
  obtain ⟨w, rfl, h3⟩ := h2.single
  exact ⟨v, w, e, h1, h3⟩
theorem o_len : OpA K (fun xs H Q => ∃ x n, xs = [x] ∧ LenV K x H n ∧ Q (.int n) H) dLen := by
  intro C G H σ s vs ds d A r ho Q q
  unfold dLen at ho
  split at ho
  · cases ho
    obtain ⟨v, e, a, us, e1, h1, h2⟩ := r.single
    rw [e1] at e
    exact ⟨_, _, e, .inl ⟨us, SqL.of (A.gh _ _ h1), h2.length.symm⟩, q _ H G (Fw.refl A.gh) rfl⟩
  · cases ho
    obtain ⟨v, e, a, us, e1, h1, h2⟩ := r.single
    rw [e1] at e
    exact ⟨_, _, e, .inr ⟨us, Same.tup A.gh h1, h2.length.symm⟩, q _ H G (Fw.refl A.gh) rfl⟩
  · cases ho
    obtain ⟨v, e, a, e1, h1⟩ := r.single
    rw [e1] at e
    exact ⟨_, _, e, .inl ⟨_, A.gh.seq h1, (List.length_map _).symm⟩, q _ H G (Fw.refl A.gh) rfl⟩
  · split at ho
    · rename_i hl
      cases ho
      obtain ⟨v, e, e1⟩ := r.single
      rw [show v = .str _ from e1] at e
      exact ⟨_, _, e, ⟨hl, rfl⟩, q _ H G (Fw.refl A.gh) rfl⟩
    · cases ho
  · cases ho
def dAbs : List DV → Option DV
  | [.int i] => some (.int (if i < 0 then -i else i))
  | _ => none
theorem o_abs : OpA K (fun xs H Q => ∃ i, xs = [.int i] ∧ Q (.int (if i < 0 then -i else i)) H) dAbs := by
  intro C G H σ s vs ds d A r ho Q q
  unfold dAbs at ho
  split at ho
  · cases ho
    obtain ⟨v, e, e1⟩ := r.single
    rw [show v = .int _ from e1] at e
    exact ⟨_, e, q _ H G (Fw.refl A.gh) rfl⟩
  · cases ho
def dMax : List DV → Option DV
  | [.int i, .int j] => some (.int (if j > i then j else i))
  | _ => none
def dMin : List DV → Option DV
  | [.int i, .int j] => some (.int (if j < i then j else i))
  | _ => none
theorem o_max : OpA K (fun xs H Q => ∃ i j, xs = [.int i, .int j] ∧ Q (.int (if j > i then j else i)) H) dMax := by
  intro C G H σ s vs ds d A r ho Q q
  unfold dMax at ho
  split at ho
  · cases ho
    obtain ⟨v, w, e, e1, e2⟩ := r.double
    rw [show v = .int _ from e1, show w = .int _ from e2] at e
    exact ⟨_, _, e, q _ H G (Fw.refl A.gh) rfl⟩
  · cases ho
theorem o_min : OpA K (fun xs H Q => ∃ i j, xs = [.int i, .int j] ∧ Q (.int (if j < i then j else i)) H) dMin := by
  intro C G H σ s vs ds d A r ho Q q
  unfold dMin at ho
  split at ho
  · cases ho
    obtain ⟨v, w, e, e1, e2⟩ := r.double
    rw [show v = .int _ from e1, show w = .int _ from e2] at e
    exact ⟨_, _, e, q _ H G (Fw.refl A.gh) rfl⟩
  · cases ho
theorem fe_len (hm : X.mg "len" = none) (ha : FA X C [e] fa) (hg : Gl X "len" := by rfl) (he : starEach [e] X.env = (false, eval e X.env) :: starEach [] X.env := by rfl) : FE X C (.Call (.Name "len" p) [e] [] pos) (eA fa dLen) := fe_callB call_len o_len hm PySem.boot_len ha hg (he := he)
theorem fe_abs (hm : X.mg "abs" = none) (ha : FA X C [e] fa) (hg : Gl X "abs" := by rfl) (he : starEach [e] X.env = (false, eval e X.env) :: starEach [] X.env := by rfl) : FE X C (.Call (.Name "abs" p) [e] [] pos) (eA fa dAbs) := fe_callB call_abs o_abs hm (by decide +kernel) ha hg (he := he)
theorem fe_max (hc : X.calm = true) (hm : X.mg "max" = none) (ha : FA X C [a, b] fa) (hg : Gl X "max" := by rfl) (he : starEach [a, b] X.env = (false, eval a X.env) :: starEach [b] X.env := by rfl) (hpl : (backTo pos (starEach [b] X.env)).any (·.1) = false := by rfl) : FE X C (.Call (.Name "max" p) [a, b] [] pos) (eA fa dMax) := fe_callB (call_max2 hc) o_max hm (by decide +kernel) ha hg (he := he) (hpl := hpl)
theorem fe_min (hc : X.calm = true) (hm : X.mg "min" = none) (ha : FA X C [a, b] fa) (hg : Gl X "min" := by rfl) (he : starEach [a, b] X.env = (false, eval a X.env) :: starEach [b] X.env := by rfl) (hpl : (backTo pos (starEach [b] X.env)).any (·.1) = false := by rfl) : FE X C (.Call (.Name "min" p) [a, b] [] pos) (eA fa dMin) := fe_callB (call_min2 hc) o_min hm (by decide +kernel) ha hg (he := he) (hpl := hpl)
end
end FD

set_option maxRecDepth 100000
namespace FD
open PySem PySem.Spec PyProof.Rows L2

/-! ## statements -/
inductive Out where
  | nx (s : S) | rt (d : DV) (s : S) | bk (s : S) | ct (s : S) | er (c : Str) (s : S)
abbrev SF := S → Option Out
def Kont (K : PySem.W.Frag) (C : Cn) (G : Hp) (D : Ends) : Out → Prop
  | .nx s' => ∀ σ' H' G', Same G G' → Ab K C G' H' σ' s' → D.nx σ' H'
  | .bk s' => ∀ σ' H' G', Same G G' → Ab K C G' H' σ' s' → D.bk σ' H'
  | .ct s' => ∀ σ' H' G', Same G G' → Ab K C G' H' σ' s' → D.ct σ' H'
  | .rt d s' => ∀ v σ' H' G', Same G G' → Ab K C G' H' σ' s' → Rp K G' v d → D.rt v H'
  | .er c s' => ∀ σ' H' G', Same G G' → Ab K C G' H' σ' s' → C.W (.ref (He.ga K c)) none σ' H'
def EvS (K : PySem.W.Frag) (C : Cn) (ts : TS) (g : SF) : Prop := ∀ G H σ s o, Ab K C G H σ s → g s = some o → ∀ D : Ends, Kont K C G D o → ts D σ H
def FS (X : Cx) (C : Cn) (st : Stmt) (g : SF) : Prop := ∃ ts, PS X st ts ∧ EvS X.K C ts g
def FSs (X : Cx) (C : Cn) (st : List Stmt) (g : SF) : Prop := ∃ ts, PSs X st ts ∧ EvS X.K C ts g
theorem Kont.to {K : PySem.W.Frag} {C : Cn} {G G' : Hp} {D : Ends} {o : Out} (k : Kont K C G D o) (g : Same G G') : Kont K C G' D o := by
  cases o with
  | nx s => exact fun σ' H' G2 g2 A => k σ' H' G2 (g.trans g2) A
  | bk s => exact fun σ' H' G2 g2 A => k σ' H' G2 (g.trans g2) A
  | ct s => exact fun σ' H' G2 g2 A => k σ' H' G2 (g.trans g2) A
  | rt d s => exact fun v σ' H' G2 g2 A => k v σ' H' G2 (g.trans g2) A
  | er c s => exact fun σ' H' G2 g2 A => k σ' H' G2 (g.trans g2) A

def sNx : SF := fun s => some (.nx s)
def sSeq (f g : SF) : SF := fun s => match f s with
  | some (.nx s1) => g s1
  | o => o
section
variable {X : Cx} {C : Cn} {e a b c : Expr} {es : List Expr} {st : Stmt} {rest body orelse : List Stmt} {pos : Pos} {f g h : EF} {t : TF} {u w : SF}
theorem evSeq {K : PySem.W.Frag} {ta tb : TS} (q1 : EvS K C ta u) (q2 : EvS K C tb w) : EvS K C (tSeq ta tb) (sSeq u w) := by
  intro G H σ s o A e1 D k
  unfold sSeq at e1
  split at e1
  · rename_i s1 e2
    exact q1 G H σ s _ A e2 { D with nx := tb D } fun σ1 H1 G1 g1 A1 => q2 G1 H1 σ1 s1 o A1 e1 D (k.to g1)
  · rename_i o' ne
    refine q1 G H σ s o A e1 { D with nx := tb D } ?_
    cases o with
    | nx s1 => exact absurd e1 (ne s1)
    | bk s1 => exact k
    | ct s1 => exact k
    | rt d s1 => exact k
    | er c s1 => exact k
theorem fs_nil : FSs X C [] sNx := ⟨_, pss_nil, by
  intro G H σ s o A e1 D k
  cases e1
  exact k σ H G (Same.refl _) A⟩
theorem fs_one (h : FS X C st u) : FSs X C [st] u := let ⟨_, p, q⟩ := h; ⟨_, pss_one p, q⟩
theorem fs_cons (h1 : FS X C st u) (h2 : FSs X C rest w) : FSs X C (st :: rest) (sSeq u w) := let ⟨_, p, q⟩ := h1; let ⟨_, p2, q2⟩ := h2; ⟨_, pss_cons p p2, evSeq q q2⟩
theorem fs_pass : FS X C (.Pass pos) sNx := ⟨_, ps_pass, by
  intro G H σ s o A e1 D k
  cases e1
  exact k σ H G (Same.refl _) A⟩
def sBk : SF := fun s => some (.bk s)
def sCt : SF := fun s => some (.ct s)
theorem fs_break : FS X C (.Break pos) sBk := ⟨_, ps_break, by
  intro G H σ s o A e1 D k
  cases e1
  exact k σ H G (Same.refl _) A⟩
theorem fs_continue : FS X C (.Continue pos) sCt := ⟨_, ps_continue, by
  intro G H σ s o A e1 D k
  cases e1
  exact k σ H G (Same.refl _) A⟩
/-- a statement that is not come to -/
def sNo : SF := fun _ => none
theorem fs_never : FS X C st sNo := ⟨_, ps_never, by
  intro G H σ s o A e1 D k
  cases e1⟩
def sRt (f : EF) : SF := fun s => match f s with
  | some (d, s1) => some (.rt d s1)
  | none => none
theorem fs_ret (h : FE X C e f) : FS X C (.Return (some e) pos) (sRt f) := by
  obtain ⟨te, p, q⟩ := h
  refine ⟨_, ps_ret p, ?_⟩
  intro G H σ s o A e1 D k
  unfold sRt at e1
  split at e1
  · cases e1
    rename_i d s1 e2
    exact q G H σ s d s1 A e2 _ fun v H1 G1 g1 A1 r => k v σ H1 G1 g1 A1 r
  · cases e1
def sDr (f : EF) : SF := fun s => match f s with
  | some (_, s1) => some (.nx s1)
  | none => none
theorem fs_expr (h : FE X C e f) (hs : swapsWith e none pos.line X.env = pure false := by rfl) : FS X C (.Expr e pos) (sDr f) := by
  obtain ⟨te, p, q⟩ := h
  refine ⟨_, ps_expr p hs, ?_⟩
  intro G H σ s o A e1 D k
  unfold sDr at e1
  split at e1
  · cases e1
    rename_i d s1 e2
    exact q G H σ s d s1 A e2 _ fun v H1 G1 g1 A1 r => k σ H1 G1 g1 A1
  · cases e1
def sIf (t : TF) (u w : SF) : SF := fun s => match t s with
  | some (true, s1) => u s1
  | some (false, s1) => w s1
  | none => none
theorem fs_if (h : FT X C c t) (h1 : FSs X C body u) (h2 : FSs X C orelse w) : FS X C (.If c body orelse pos) (sIf t u w) := by
  obtain ⟨tt, p, q⟩ := h
  obtain ⟨ta, p1, q1⟩ := h1
  obtain ⟨tb, p2, q2⟩ := h2
  refine ⟨_, ps_if p p1 p2, ?_⟩
  intro G H σ s o A e1 D k
  unfold sIf at e1
  split at e1
  · rename_i s1 e2
    refine q G H σ s _ _ A e2 _ fun H1 G1 g1 A1 => ?_
    rw [if_pos rfl]
    exact q1 G1 H1 σ s1 o A1 e1 D (k.to g1)
  · rename_i s1 e2
    refine q G H σ s _ _ A e2 _ fun H1 G1 g1 A1 => ?_
    rw [if_neg Bool.false_ne_true]
    exact q2 G1 H1 σ s1 o A1 e1 D (k.to g1)
  · cases e1

/-! ### targets -/
abbrev GF := DV → S → Option S
def EvG (K : PySem.W.Frag) (C : Cn) (tg : TG) (g : GF) : Prop := ∀ G H σ s v d s', Ab K C G H σ s → Rp K G v d → g d s = some s' → ∀ Q : St → Hp → Prop, (∀ σ' H' G', Same G G' → Ab K C G' H' σ' s' → Q σ' H') → tg v σ H Q
def EvGs (K : PySem.W.Frag) (C : Cn) (tg : TGs) (g : List DV → S → Option S) : Prop := ∀ G H σ s vs ds s', Ab K C G H σ s → RpL K G vs ds → g ds s = some s' → ∀ Q : St → Hp → Prop, (∀ σ' H' G', Same G G' → Ab K C G' H' σ' s' → Q σ' H') → tg vs σ H Q
def FG (X : Cx) (C : Cn) (e : Expr) (g : GF) : Prop := ∃ tg, PG X e tg ∧ EvG X.K C tg g
def FGs (X : Cx) (C : Cn) (es : List Expr) (g : List DV → S → Option S) : Prop := ∃ tg, PGs X es tg ∧ EvGs X.K C tg g
def gNm (i : Nat) : GF := fun d s => some { s with sl := s.sl.set i (some (.dat d)) }
theorem fg_name (i : Nat) {x : Str} (hN : X.N.Nodup) (hi : X.N[i]? = some x := by rfl) (hx : Loc X.env.scope x := by first | exact Or.inl rfl | exact Or.inr rfl) (hf : X.fn x = true ∨ X.env.scope.names.lookup x = some .local := by first | exact .inl rfl | exact .inr rfl | assumption) : FG X C (.Name x pos) (gNm i) := by
  refine ⟨_, pg_name hN hi hx hf, ?_⟩
  intro G H σ s v d s' A r e1 Q k
  cases e1
  exact k _ H G (Same.refl _) (A.set_dat r)
def gNi : List DV → S → Option S := fun ds s => match ds with
  | [] => some s
  | _ => none
def gCo (g : GF) (r : List DV → S → Option S) : List DV → S → Option S := fun ds s => match ds with
  | d :: ds => match g d s with
    | some s1 => r ds s1
    | none => none
  | [] => none
theorem fgs_nil : FGs X C [] gNi := ⟨_, pgs_nil, by
  intro G H σ s vs ds s' A r e1 Q k
  unfold gNi at e1
  split at e1
  · cases e1
    exact ⟨r, k σ H G (Same.refl _) A⟩
  · cases e1⟩
theorem fgs_cons {g : GF} {r : List DV → S → Option S} (h1 : FG X C e g) (h2 : FGs X C es r) (hs : (assignEach (e :: es) X.env).map (·.2) = assign e X.env :: (assignEach es X.env).map (·.2) := by rfl) : FGs X C (e :: es) (gCo g r) := by
  obtain ⟨tg, p, q⟩ := h1
  obtain ⟨tr, p2, q2⟩ := h2
  refine ⟨_, pgs_cons p p2 hs, ?_⟩
  intro G H σ s vs ds s' A rr e1 Q k
  unfold gCo at e1
  split at e1
  · rename_i d ds
    split at e1
    · rename_i s1 e2
      obtain ⟨v, vr, rfl, r1, r2⟩ := rr
      refine ⟨v, vr, rfl, q G H σ s v d s1 A r1 e2 _ fun σ1 H1 G1 g1 A1 => ?_⟩
      exact q2 G1 H1 σ1 s1 vr ds s' A1 (RpL.mono g1 ds vr r2) e1 Q fun σ2 H2 G2 g2 A2 => k σ2 H2 G2 (g1.trans g2) A2
    · cases e1
  · cases e1
def gTp (n : Nat) (r : List DV → S → Option S) : GF := fun d s => match d with
  | .tup ds => if ds.length = n then r ds s else none
  | _ => none
def gLs (n : Nat) (r : List DV → S → Option S) : GF := fun d s => match d with
  | .lst ds => if ds.length = n then r ds s else none
  | _ => none
theorem fg_tup {r : List DV → S → Option S} {k : Nat} {n : Nat} (hc : X.calm = true) (h : FGs X C es r) (hn : (assignEach es X.env).length = n := by rfl) (hst : (assignEach es X.env).findIdx? (·.1) = none := by rfl) : FG X C (.Tuple es k pos) (gTp n r) := by
  obtain ⟨tg, p, q⟩ := h
  refine ⟨_, pg_tup hc p hn hst, ?_⟩
  intro G H σ s v d s' A rr e1 Q k
  unfold gTp at e1
  split at e1
  · rename_i ds
    split at e1
    · rename_i hl
      obtain ⟨a, vs, rfl, r1, r2⟩ := rr
      exact ⟨a, vs, rfl, Same.tup A.gh r1, by rw [r2.length]; exact hl, q G H σ s vs ds s' A r2 e1 Q k⟩
    · cases e1
  · cases e1
theorem fg_lst {r : List DV → S → Option S} {k : Nat} {n : Nat} (hc : X.calm = true) (h : FGs X C es r) (hn : (assignEach es X.env).length = n := by rfl) (hst : (assignEach es X.env).findIdx? (·.1) = none := by rfl) : FG X C (.Tuple es k pos) (gLs n r) := by
  obtain ⟨tg, p, q⟩ := h
  refine ⟨_, pg_lst hc p hn hst, ?_⟩
  intro G H σ s v d s' A rr e1 Q k
  unfold gLs at e1
  split at e1
  · rename_i ds
    split at e1
    · rename_i hl
      obtain ⟨a, vs, rfl, r1, r2⟩ := rr
      exact ⟨a, vs, rfl, SqL.of (A.gh _ _ r1), by rw [r2.length]; exact hl, q G H σ s vs ds s' A r2 e1 Q k⟩
    · cases e1
  · cases e1
def sAsg (f : EF) (g : GF) : SF := fun s => match f s with
  | some (d, s1) => match g d s1 with
    | some s2 => some (.nx s2)
    | none => none
  | none => none
theorem fs_asg {tg : Expr} {g : GF} (he : FE X C e f) (hg : FG X C tg g) (hs : swapsWithSole [tg] e pos.line X.env = pure false := by rfl) (hw : swappedStores [tg] e X.env = pure none := by rfl)
    (h1 : (assignEach [tg] X.env).map (·.2) = [assign tg X.env] := by rfl) : FS X C (.Assign [tg] e pos) (sAsg f g) := by
  obtain ⟨te, p, q⟩ := he
  obtain ⟨tg', p2, q2⟩ := hg
  refine ⟨_, ps_asg p p2 hs hw h1, ?_⟩
  intro G H σ s o A e1 D k
  unfold sAsg at e1
  split at e1
  · rename_i d s1 e2
    split at e1
    · rename_i s2 e3
      cases e1
      exact q G H σ s d s1 A e2 _ fun v H1 G1 g1 A1 r => q2 G1 H1 σ s1 v d s2 A1 r e3 _ fun σ2 H2 G2 g2 A2 => k σ2 H2 G2 (g1.trans g2) A2
    · cases e1
  · cases e1
theorem fs_set (i : Nat) {x : Str} {pos' : Pos} (he : FE X C e f) (hN : X.N.Nodup) (hi : X.N[i]? = some x := by rfl) (hx : Loc X.env.scope x := by first | exact Or.inl rfl | exact Or.inr rfl) (hs : swapsWith e (some (.Name x pos')) pos.line X.env = pure false := by rfl) (hf : X.fn x = true ∨ X.env.scope.names.lookup x = some .local := by first | exact .inl rfl | exact .inr rfl | assumption) :
    FS X C (.Assign [.Name x pos'] e pos) (sAsg f (gNm i)) := by
  obtain ⟨te, p, q⟩ := he
  refine ⟨_, ps_set hN hi hx p hs hf, ?_⟩
  intro G H σ s o A e1 D k
  unfold sAsg at e1
  split at e1
  · rename_i d s1 e2
    cases e1
    exact q G H σ s d s1 A e2 _ fun v H1 G1 g1 A1 r => k _ H1 G1 g1 (A1.set_dat r)
  · cases e1
/-- a, b = x, y -/
def sPar (i j : Nat) (f : AF) : SF := fun s => match f s with
  | some ([d, e], s1) => some (.nx { s1 with sl := (s1.sl.set i (some (.dat d))).set j (some (.dat e)) })
  | _ => none
theorem fs_par (i j : Nat) {x y : Str} {ff : AF} {px py pt : Pos} {kt k2 pt2} (ha : FA X C [a, b] ff) (hc : X.calm = true) (hN : X.N.Nodup) (hi : X.N[i]? = some x := by rfl) (hj : X.N[j]? = some y := by rfl) (hij : i ≠ j := by decide)
    (hx : X.env.scope.names.lookup x = some .local := by rfl) (hy : X.env.scope.names.lookup y = some .local := by rfl)
    (hw : swappedStores [.Tuple [.Name x px, .Name y py] kt pt] (.Tuple [a, b] k2 pt2) X.env = pure (some [x, y]) := by rfl)
    (hs : swapsWithSole [.Tuple [.Name x px, .Name y py] kt pt] (.Tuple [a, b] k2 pt2) pos.line X.env = pure false := by rfl) :
    FS X C (.Assign [.Tuple [.Name x px, .Name y py] kt pt] (.Tuple [a, b] k2 pt2) pos) (sPar i j ff) := by
  obtain ⟨ta, p, q⟩ := ha
  refine ⟨_, ps_par hc hN hi hj hij hx hy p hw hs, ?_⟩
  intro G H σ s o A e1 D k
  unfold sPar at e1
  split at e1
  · rename_i d e' s1 e2
    cases e1
    refine q G H σ s _ s1 A e2 _ fun vs H1 G1 g1 A1 r => ?_
    obtain ⟨v, w, e3, r1, r2⟩ := r.double
    exact ⟨v, w, e3, k _ H1 G1 g1 ((A1.set_dat r1).set_dat (s := { s1 with sl := s1.sl.set i (some (.dat d)) }) r2)⟩
  · cases e1

/-! ### lists of the frame's own -/
theorem Ab.fresh {K : PySem.W.Frag} {G H : Hp} {σ : List (Option V)} {s : S} (A : Ab K C G H σ s) {p : Addr} (hp : H p = none) :
    G p = none ∧ C.H0 p = none ∧ C.sp ≠ some p ∧ ∀ (j : Nat) es, s.sl[j]? = some (some (.own es)) → σ[j]? ≠ some (some (.ref p)) := by
  refine ⟨?_, ?_, fun z => ?_, fun j es h1 h2 => ?_⟩
  · cases q : G p with
    | none => rfl
    | some o => rw [A.gh _ _ q] at hp; cases hp
  · cases q : C.H0 p with
    | none => rfl
    | some o => exact absurd hp (A.h0 (by rw [q]; exact fun z => nomatch z))
  · have k := A.spk
    unfold SpOk at k
    rw [z] at k
    obtain ⟨_, nb, k2, _⟩ := k
    rw [hp] at k2
    cases k2
  · obtain ⟨o, e1, a, vs, e2, h3, _⟩ := A.slot h1
    subst e2
    rw [h2] at e1
    cases e1
    rw [hp] at h3
    cases h3
/-- an expression that makes a new list -/
abbrev LF := S → Option (List DV × S)
structure NewL (K : PySem.W.Frag) (C : Cn) (G H : Hp) (σ : List (Option V)) (s : S) (p : Addr) (vs : List V) (ds : List DV) : Prop where
  at_ : H p = some (.lst vs)
  rp : RpL K G vs ds
  g : G p = none
  h0 : C.H0 p = none
  sp : C.sp ≠ some p
  no : ∀ (j : Nat) es, s.sl[j]? = some (some (.own es)) → σ[j]? ≠ some (some (.ref p))
def EvL (K : PySem.W.Frag) (C : Cn) (te : TE) (f : LF) : Prop := ∀ G H σ s ds s', Ab K C G H σ s → f s = some (ds, s') →
  ∀ Q : VK, (∀ p vs H' G', Same G G' → Ab K C G' H' σ s' → NewL K C G' H' σ s' p vs ds → Q (.ref p) H') → te σ H Q
def FL (X : Cx) (C : Cn) (e : Expr) (f : LF) : Prop := ∃ te, PE X e te ∧ EvL X.K C te f
theorem Ab.lay {K : PySem.W.Frag} {G H : Hp} {σ : List (Option V)} {s : S} {p : Addr} {vs : List V} {ds : List DV} (A : Ab K C G H σ s) (r : RpL K G vs ds) (hp : H p = none) : Ab K C G (upd H p (.lst vs)) σ s ∧ NewL K C G (upd H p (.lst vs)) σ s p vs ds := by
  obtain ⟨h1, h2, h3, h4⟩ := A.fresh hp
  exact ⟨A.fw0 (Fw.lay A.gh hp), ⟨upd_same, r, h1, h2, h3, h4⟩⟩
def lDs (f : AF) : LF := fun s => match f s with
  | some (ds, s1) => if ds.length ≤ sizeLine then some (ds, s1) else none
  | none => none
theorem fl_lst {ff : AF} (h : FA X C es ff) : FL X C (.List es pos) (lDs ff) := by
  obtain ⟨ta, p, q⟩ := h
  refine ⟨_, pe_lst p, ?_⟩
  intro G H σ s ds s' A e1 Q k
  unfold lDs at e1
  split at e1
  · split at e1
    · rename_i ds' s1 e2 hl
      cases e1
      refine q G H σ s _ _ A e2 _ fun vs H1 G1 g1 A1 r => ⟨by rw [r.length]; exact hl, fun p hp => ?_⟩
      obtain ⟨B, n⟩ := A1.lay r hp
      exact k p vs _ G1 g1 B n
    · cases e1
  · cases e1
/-- a new list as a datum -/
def eL (f : LF) : EF := fun s => match f s with
  | some (ds, s1) => some (.lst ds, s1)
  | none => none
theorem Ab.take_in {K : PySem.W.Frag} {G H : Hp} {σ : List (Option V)} {s : S} {p : Addr} {vs : List V} {ds : List DV} (A : Ab K C G H σ s) (n : NewL K C G H σ s p vs ds) : ∃ G', Same G G' ∧ Ab K C G' H σ s ∧ Rp K G' (.ref p) (.lst ds) := by
  have sg : Same G (upd G p (.lst vs)) := fun b u e => by rw [upd_ne (fun z => by rw [z, n.g] at e; cases e)]; exact e
  refine ⟨_, sg, ⟨fun b u e => ?_, A.fr, A.g0.trans sg, fun b e => ?_, A.len, fun j v x q1 q2 => ?_, A.dis, ?_⟩, ⟨p, vs, rfl, upd_same, RpL.mono sg ds vs n.rp⟩⟩
  · by_cases z : b = p
    · rw [z, upd_same] at e
      rw [z, ← e]
      exact n.at_
    · rw [upd_ne z] at e
      exact A.gh _ _ e
  · rw [upd_ne (fun z => e (by rw [z]; exact n.h0)), A.gn b e]
  · have r := A.sl j v x q1 q2
    match x, r with
    | none, _ => trivial
    | some (.dat d), ⟨w, e, r⟩ => exact ⟨w, e, Rp.mono sg d w r⟩
    | some (.own es), ⟨b, us, e, r1, r2, r3, r4, r5⟩ =>
      subst e
      have nb : b ≠ p := fun zz => n.no j es q2 (by rw [q1, zz])
      exact ⟨b, us, rfl, r1, RpL.mono sg es us r2, by rw [upd_ne nb]; exact r3, r4, r5⟩
    | some .spl, r => exact r
  · have k := A.spk
    unfold SpOk at *
    cases z : C.sp with
    | none => rw [z] at k; trivial
    | some c =>
      rw [z] at k
      obtain ⟨k1, nb, k2, k3⟩ := k
      exact ⟨by rw [upd_ne (fun e => n.sp (by rw [z, e]))]; exact k1, nb, k2, Rp.mono sg _ _ k3⟩
theorem fe_fl {ff : LF} (h : FL X C e ff) : FE X C e (eL ff) := by
  obtain ⟨te, p, q⟩ := h
  refine ⟨te, p, ?_⟩
  intro G H σ s d s' A e1 Q k
  unfold eL at e1
  split at e1
  · rename_i ds s1 e2
    cases e1
    refine q G H σ s ds _ A e2 _ fun p vs H1 G1 g1 A1 n => ?_
    obtain ⟨G2, g2, A2, r⟩ := A1.take_in n
    exact k _ H1 G2 (g1.trans g2) A2 r
  · cases e1
def sOwn (i : Nat) (f : LF) : SF := fun s => match f s with
  | some (ds, s1) => some (.nx { s1 with sl := s1.sl.set i (some (.own ds)) })
  | none => none
theorem fs_own (i : Nat) {x : Str} {pos' : Pos} {ff : LF} (he : FL X C e ff) (hN : X.N.Nodup) (hi : X.N[i]? = some x := by rfl) (hx : Loc X.env.scope x := by first | exact Or.inl rfl | exact Or.inr rfl) (hs : swapsWith e (some (.Name x pos')) pos.line X.env = pure false := by rfl) (hf : X.fn x = true ∨ X.env.scope.names.lookup x = some .local := by first | exact .inl rfl | exact .inr rfl | assumption) :
    FS X C (.Assign [.Name x pos'] e pos) (sOwn i ff) := by
  obtain ⟨te, p, q⟩ := he
  refine ⟨_, ps_set hN hi hx p hs hf, ?_⟩
  intro G H σ s o A e1 D k
  unfold sOwn at e1
  split at e1
  · rename_i ds s1 e2
    cases e1
    exact q G H σ s ds s1 A e2 _ fun p vs H1 G1 g1 A1 n => k _ H1 G1 g1 (A1.set_own n.at_ n.rp n.g n.h0 n.sp n.no)
  · cases e1
/-- xs.append(e), xs a list of the frame's own -/
def sApp (i : Nat) (f : EF) : SF := fun s => match s.sl[i]? with
  | some (some (.own _)) => match f s with
    | some (d, s1) => match s1.sl[i]? with
      | some (some (.own ds)) => if ds.length < sizeLine then some (.nx { s1 with sl := s1.sl.set i (some (.own (ds ++ [d]))) }) else none
      | _ => none
    | none => none
  | _ => none
theorem fs_app (i : Nat) {x : Str} {pos' apos cpos : Pos} (he : FE X C e f) (hN : X.N[i]? = some x := by rfl) (hv : Vis X.env.scope x := by first | exact Or.inl rfl | exact Or.inr (Or.inl rfl) | exact Or.inr (Or.inr rfl)) (hd : (x == ("__debug__" : Str)) = false := by decide)
    (hcd : (x == ("__classdict__" : Str)) = false := by decide)
    (hbase : attributeBase (.Name x pos') "append" X.env (eval (.Name x pos') X.env) = eval (.Name x pos') X.env := by rfl)
    (hfew : ((backTo cpos (starEach [e] X.env)).all (fun x => !x.1) && (backToKw cpos (keywordEach [] X.env)).all (fun x => x.1.isSome)
      && decide (([e] : List Expr).length + ([] : List Keyword).length + (if ([] : List Keyword).isEmpty then 0 else 1) < 30)) = true := by rfl)
    (hline : (apos.endLine == cpos.line) = true := by rfl) (hs : starEach [e] X.env = (false, eval e X.env) :: starEach [] X.env := by rfl) (hplain : (backTo cpos (starEach [] X.env)).any (·.1) = false := by rfl)
    (hs' : swapsWith (.Call (.Attribute (.Name x pos') "append" apos) [e] [] cpos) none pos.line X.env = pure false := by rfl) :
    FS X C (.Expr (.Call (.Attribute (.Name x pos') "append" apos) [e] [] cpos) pos) (sApp i f) := by
  obtain ⟨te, p, q⟩ := he
  refine ⟨_, ps_expr (pe_bm PySem.F.plainAttrs_list PySem.F.slot_list_append PySem.F.type_list_append mt_append (pe_var hN hv hd hcd) (pa_cons p pa_nil hs) hbase hfew hline hs hplain) hs', ?_⟩
  intro G H σ s o A e1 D k
  unfold sApp at e1
  split at e1
  · rename_i ds0 e0
    split at e1
    · rename_i d s1 e2
      split at e1
      · rename_i ds e3
        split at e1
        · rename_i hl
          cases e1
          obtain ⟨w, ew, a, vs0, rfl, h0, _⟩ := A.slot e0
          refine ⟨.ref a, ew, .inl ⟨rfl, _, .inl (.inl h0)⟩, q G H σ s d s1 A e2 _ fun v H1 G1 g1 A1 r => ?_⟩
          obtain ⟨w1, ew1, a1, vs1, e5, h1, h2, _⟩ := A1.slot e3
          subst e5
          rw [ew] at ew1
          cases ew1
          refine ⟨a, vs1, v, rfl, rfl, h1, by rw [h2.length]; exact hl, ?_⟩
          exact k σ _ G1 g1 (A1.put_own e3 ew (h2.append (RpL.one r)))
        · cases e1
      · cases e1
    · cases e1
  · cases e1
/-- xs[k] = e, xs a list of the frame's own -/
def sPut (i : Nat) (f kf : EF) : SF := fun s => match f s with
  | some (d, s1) => match s1.sl[i]? with
    | some (some (.own _)) => match kf s1 with
      | some (.int j, s2) => match s2.sl[i]? with
        | some (some (.own ds)) => match ixN ds.length j with
          | some n => some (.nx { s2 with sl := s2.sl.set i (some (.own (ds.set n d))) })
          | none => none
        | _ => none
      | _ => none
    | _ => none
  | none => none
theorem fs_put (i : Nat) {x : Str} {pos' pos2 : Pos} (he : FE X C e f) (hk : FE X C b g) (hN : X.N[i]? = some x := by rfl) (hv : Vis X.env.scope x := by first | exact Or.inl rfl | exact Or.inr (Or.inl rfl) | exact Or.inr (Or.inr rfl)) (hd : (x == ("__debug__" : Str)) = false := by decide)
    (hcd : (x == ("__classdict__" : Str)) = false := by decide)
    (ha : ∀ v, assign (.Subscript (.Name x pos') b pos2) X.env v = (do
      let ov ← holding [v] (eval (.Name x pos') X.env)
      let iv ← holding [v, ov] (eval b X.env)
      standAt pos2
      holding [v, ov, iv] (setItem ov iv v)
      release [v, ov, iv] []) := by intro _; rfl)
    (hs : swapsWithSole [.Subscript (.Name x pos') b pos2] e pos.line X.env = pure false := by rfl) (hw : swappedStores [.Subscript (.Name x pos') b pos2] e X.env = pure none := by rfl)
    (h1 : (assignEach [.Subscript (.Name x pos') b pos2] X.env).map (·.2) = [assign (.Subscript (.Name x pos') b pos2) X.env] := by rfl) :
    FS X C (.Assign [.Subscript (.Name x pos') b pos2] e pos) (sPut i f g) := by
  obtain ⟨te, p, q⟩ := he
  obtain ⟨tk, p2, q2⟩ := hk
  refine ⟨_, ps_asg p (pg_sub (pe_var hN hv hd hcd) p2 set_list ha) hs hw h1, ?_⟩
  intro G H σ s o A e1 D k
  unfold sPut at e1
  split at e1
  · rename_i d s1 e2
    split at e1
    · rename_i ds0 e0
      split at e1
      · rename_i j s2 e3
        split at e1
        · rename_i ds e4
          split at e1
          · rename_i n e5
            cases e1
            refine q G H σ s d s1 A e2 _ fun v H1 G1 g1 A1 r => ?_
            obtain ⟨w, ew, a, vs0, rfl, h0, _⟩ := A1.slot e0
            refine ⟨.ref a, ew, q2 G1 H1 σ s1 _ s2 A1 e3 _ fun u H2 G2 g2 A2 r2 => ?_⟩
            obtain ⟨w1, ew1, a1, vs1, e6, h1, h2, _⟩ := A2.slot e4
            subst e6
            rw [ew] at ew1
            cases ew1
            refine ⟨a, vs1, j, n, rfl, r2, h1, by rw [h2.length]; exact e5, ?_⟩
            exact k σ _ G2 (g1.trans g2) (A2.put_own e4 ew (h2.set n (Rp.mono g2 d v r)))
          · cases e1
        · cases e1
      · cases e1
    · cases e1
  · cases e1

/-! ### the spool -/
def eSp (i : Nat) (j : Int) : EF := fun s => match s.sl[i]? with
  | some (some .spl) => if j = 0 then some (.lst (s.sp.nums.map .int), s) else if j = 1 then some (.int s.sp.place, s) else if j = 2 then some (.int s.sp.cell, s) else if j = 3 then some (.int s.sp.size, s) else none
  | _ => none
theorem fe_sp (i : Nat) {j : Int} {x : Str} {pos' pos2 : Pos} {k : Nat} (hN : X.N[i]? = some x := by rfl) (hv : Vis X.env.scope x := by first | exact Or.inl rfl | exact Or.inr (Or.inl rfl) | exact Or.inr (Or.inr rfl)) (hd : (x == ("__debug__" : Str)) = false := by decide)
    (hcd : (x == ("__classdict__" : Str)) = false := by decide) : FE X C (.Subscript (.Name x pos') (.Constant (.int j) k pos2) pos) (eSp i j) := by
  refine ⟨_, pe_ix ix_list (pe_var hN hv hd hcd) pe_int (fun _ _ => rfl), ?_⟩
  intro G H σ s d s' A e1 Q q
  unfold eSp at e1
  split at e1
  · rename_i e0
    obtain ⟨w, ew, a, ha, rfl⟩ := A.slot e0
    have kk := A.spk
    unfold SpOk at kk
    rw [ha] at kk
    obtain ⟨k1, nb, k2, k3⟩ := kk
    refine ⟨.ref a, ew, ?_⟩
    split at e1
    · rename_i z
      cases e1
      exact ⟨a, _, j, _, rfl, rfl, SqL.of k2, (by rw [z]; rfl), q _ H G (Same.refl _) A k3⟩
    · split at e1
      · rename_i z
        cases e1
        exact ⟨a, _, j, _, rfl, rfl, SqL.of k2, (by rw [z]; rfl), q _ H G (Same.refl _) A rfl⟩
      · split at e1
        · rename_i z
          cases e1
          exact ⟨a, _, j, _, rfl, rfl, SqL.of k2, (by rw [z]; rfl), q _ H G (Same.refl _) A rfl⟩
        · split at e1
          · rename_i z
            cases e1
            exact ⟨a, _, j, _, rfl, rfl, SqL.of k2, (by rw [z]; rfl), q _ H G (Same.refl _) A rfl⟩
          · cases e1
  · cases e1
def sSp (i : Nat) (j : Int) (f : EF) : SF := fun s => match f s with
  | some (.int v, s1) => match s1.sl[i]? with
    | some (some .spl) => if j = 1 then some (.nx { s1 with sp := { s1.sp with place := v } }) else if j = 2 then some (.nx { s1 with sp := { s1.sp with cell := v } }) else if j = 3 then some (.nx { s1 with sp := { s1.sp with size := v } }) else none
    | _ => none
  | _ => none
theorem fs_sp (i : Nat) {j : Int} {x : Str} {pos' pos2 pos3 : Pos} {kk : Nat} (he : FE X C e f) (hN : X.N[i]? = some x := by rfl) (hv : Vis X.env.scope x := by first | exact Or.inl rfl | exact Or.inr (Or.inl rfl) | exact Or.inr (Or.inr rfl)) (hd : (x == ("__debug__" : Str)) = false := by decide)
    (hcd : (x == ("__classdict__" : Str)) = false := by decide)
    (ha : ∀ v, assign (.Subscript (.Name x pos') (.Constant (.int j) kk pos3) pos2) X.env v = (do
      let ov ← holding [v] (eval (.Name x pos') X.env)
      let iv ← holding [v, ov] (eval (.Constant (.int j) kk pos3) X.env)
      standAt pos2
      holding [v, ov, iv] (setItem ov iv v)
      release [v, ov, iv] []) := by intro _; rfl)
    (hs : swapsWithSole [.Subscript (.Name x pos') (.Constant (.int j) kk pos3) pos2] e pos.line X.env = pure false := by rfl) (hw : swappedStores [.Subscript (.Name x pos') (.Constant (.int j) kk pos3) pos2] e X.env = pure none := by rfl)
    (h1 : (assignEach [.Subscript (.Name x pos') (.Constant (.int j) kk pos3) pos2] X.env).map (·.2) = [assign (.Subscript (.Name x pos') (.Constant (.int j) kk pos3) pos2) X.env] := by rfl) :
    FS X C (.Assign [.Subscript (.Name x pos') (.Constant (.int j) kk pos3) pos2] e pos) (sSp i j f) := by
  obtain ⟨te, p, q⟩ := he
  refine ⟨_, ps_asg p (pg_sub (pe_var hN hv hd hcd) pe_int set_list ha) hs hw h1, ?_⟩
  intro G H σ s o A e1 D k
  unfold sSp at e1
  split at e1
  · rename_i v s1 e2
    split at e1
    · rename_i e0
      refine q G H σ s _ s1 A e2 _ fun u H1 G1 g1 A1 r => ?_
      have er : u = .int v := r
      subst er
      obtain ⟨w, ew, a, ha, rfl⟩ := A1.slot e0
      have kq := A1.spk
      unfold SpOk at kq
      rw [ha] at kq
      obtain ⟨k1, nb, k2, k3⟩ := kq
      refine ⟨.ref a, ew, ?_⟩
      split at e1
      · rename_i z
        cases e1
        refine ⟨a, _, j, 1, rfl, rfl, k2, (by rw [z]; rfl), ?_⟩
        exact k σ _ G1 g1 (A1.put_spl (t := { s1.sp with place := v }) ha k3)
      · split at e1
        · rename_i z
          cases e1
          refine ⟨a, _, j, 2, rfl, rfl, k2, (by rw [z]; rfl), ?_⟩
          exact k σ _ G1 g1 (A1.put_spl (t := { s1.sp with cell := v }) ha k3)
        · split at e1
          · rename_i z
            cases e1
            refine ⟨a, _, j, 3, rfl, rfl, k2, (by rw [z]; rfl), ?_⟩
            exact k σ _ G1 g1 (A1.put_spl (t := { s1.sp with size := v }) ha k3)
          · cases e1
    · cases e1
  · cases e1
end
end FD

set_option maxRecDepth 100000
namespace FD
open PySem PySem.Spec PyProof.Rows L2
/-! ## room, and no text being made of an object around -/
structure Rm (k : Nat) (A : Around) : Prop where
  rm : Room k A
  gd : A.guards = some []
theorem Rm.units {k : Nat} {A : Around} (r : Rm k A) : A.units + 64 < cLine := r.rm.units
theorem Rm.units0 {k : Nat} {A : Around} (r : Rm k A) : A.units < cLine := r.rm.units0
theorem Rm.mono {j k : Nat} {A : Around} (r : Rm k A) (h : j ≤ k) : Rm j A := ⟨r.rm.mono h, r.gd⟩
theorem Rm.deeper {k : Nat} {A : Around} (r : Rm (k + 1) A) (env : Env) : Rm k (A.deeper env) := ⟨r.rm.deeper env, r.gd⟩
/-- what a def promises where there is room -/
structure FnG (P : Program) (w : World) (K : PySem.W.Frag) (mg : Str → Option Value) (base : Heap) (CX : CXT) (k : Nat) (f : Addr) (fd : FuncData) (ps : List Str) (sp : Sp) : Prop where
  len : ∀ vs H Q E, sp vs H Q E → vs.length = ps.length
  run : ∀ (A : Around) (outer : List Env) (s : Shared) (H : Hp) (args : Args) (us : List Value) (vs : List V) (Q : VK) (E : XK),
    Rm k A → Env0 P w K mg base A outer s H → BindsTo s fd args (ps.zip us) → Vals vs us → sp vs H Q E → codeAny (model P w) A (.call (.ref f) args) (CR CX outer P w H s Q E) s
section
variable {P : Program} {w : World} {K : PySem.W.Frag} {mg : Str → Option Value} {base : Heap} {CX : CXT} {j k : Nat} {f : Addr} {fd : FuncData} {ps N : List Str} {sp sp' : Sp}
theorem FnG.mono (F : FnG P w K mg base CX j f fd ps sp) (h : j ≤ k) : FnG P w K mg base CX k f fd ps sp where
  len := F.len
  run := fun A outer s H args us vs Q E r => F.run A outer s H args us vs Q E (r.mono h)
theorem FnG.imp (F : FnG P w K mg base CX k f fd ps sp) (h : ∀ vs H Q E, sp' vs H Q E → sp vs H Q E) : FnG P w K mg base CX k f fd ps sp' where
  len := fun vs H Q E q => F.len vs H Q E (h _ _ _ _ q)
  run := fun A outer s H args us vs Q E r e b v q => F.run A outer s H args us vs Q E r e b v (h _ _ _ _ q)
theorem okG {x qual : Str} {params : Arguments} {body : List Stmt} {scope : Scope} {dvs : List V} {kws : List (Str × V)} (F : FunD K x qual params body scope dvs kws f fd) (S : FnScope N ps scope) (len : ∀ vs H Q E, sp vs H Q E → vs.length = ps.length)
    (hbody : ∀ (cdv : Value) (A : Around) (outer : List Env) (s : Shared) (H : Hp) (vs : List V) (Q : VK) (E : XK), Rm k (A.deeper (envOfC qual scope s.heap.objs.size f cdv)) → sp vs H Q E →
      ∃ t, PSs (cxOf CX P w K mg base N qual scope f cdv A outer s H E) body t ∧ t { nx := fun _ H' => Q .non H', rt := Q } (start N vs) H) : FnG P w K mg base CX (k + 1) f fd ps sp := by
  obtain ⟨oc, od, dV, kV, doc, pm, an, cdv, ct, osl, rfl, lk, hcd, _, _⟩ := F.ex
  refine ⟨len, fun A outer s H args us vs Q E rr env hb vv want => ?_⟩
  have inK : K.In s.heap := env.mod.kin.keeps fun b o z => (env.bs b o z).1
  have nolim : s.heap.NoLimit := env.mod.nolimit.keeps fun b o z => (env.bs b o z).1
  have kinds : ∀ y ∈ ps.zip us, scope.names.lookup y.1 = some .local ∨ (scope.names.lookup y.1 = some .cell ∧ ((cellsFrom (s.heap.objs.size + 1) scope.names []).lookup y.1).isSome = true) := by
    intro ⟨n, v⟩ hy
    rcases S.par n (List.of_mem_zip hy).1 with q | q
    · exact .inl q
    · exact .inr ⟨q, PySem.W.cellsFrom_some _ _ _ (.inl q)⟩
  refine codeAny_call_function rr.rm.depth (inK _ _ lk) rfl S.co S.gen rfl (PySem.W.codeRec_of inK hcd) (hb _ _ _ _ (wpAny_newFunctionEnv_cells S.kind kinds fun fr hfr s1 x => ?_))
  subst hfr
  refine ⟨nolim.keeps x.toInCall.keep, codeAny_func ?_⟩
  obtain ⟨t, pt, tw⟩ := hbody cdv A outer s H vs Q E (rr.deeper _) want
  have I0 : Inv (cxOf CX P w K mg base N qual scope f cdv A outer s H E) [] (start N vs) H s1 := inv_start S rr.rm.hd env (len _ _ _ _ want) vv x
  have close : ∀ {s' : Shared} {σ' : St} {H' : Hp} {v : V} {u : Value}, Inv (cxOf CX P w K mg base N qual scope f cdv A outer s H E) [] σ' H' s' → RelV v u → Q v H' → CE outer P w H s Q u s' := fun J rv q => ⟨_, _, J.os, J.bare, J.base, J.hok, rv, q⟩
  refine wpAny_mono (pt.run [] s1 (start N vs) H _ I0 tw) (fun fl s' hs => ?_) fun _ _ hs => hs
  match fl, hs with
  | .ret u, ⟨_, _, _, J, rv, q⟩ => exact close J rv q
  | .next, ⟨_, _, J, q⟩ => exact close (v := V.non) (u := Value.none) J rfl q
  | .brk, ⟨_, _, _, q⟩ => exact False.elim q
  | .cont, ⟨_, _, _, q⟩ => exact False.elim q
end
section
variable {X : Cx} {CX : CXT} {k : Nat} {f : Addr} {fd : FuncData} {ps : List Str} {sp : Sp} {dvs : List V} {ds : List Value} {E : XK} {x : Str} {p pos : Pos} {e : Expr} {es : List Expr} {t : TA}
theorem pe_callG (F : FnG X.prog X.w X.K X.mg X.base CX k f fd ps sp) (hr : Rm k X.A) (hg : Gl X x) (hm : X.mg x = some (.ref f)) (hk : PySem.W.keepIn X.K (.ref f) = true) (hb : Binds X.K fd ps ds) (hd : Vals dvs ds) (hx : Passes CX X E)
    (ha : PA X (e :: es) t) (hdb : (x == ("__debug__" : Str)) = false := by decide) (he : starEach (e :: es) X.env = (false, eval e X.env) :: starEach es X.env := by rfl) (hpl : (backTo pos (starEach es X.env)).any (·.1) = false := by rfl) : PE X (.Call (.Name x p) (e :: es) [] pos) (tCall sp dvs E t) where
  run := by
    intro pins s σ H Q I h
    refine wpAny_Call_Name_kw (ld_glob I hg hm (PySem.W.callWith_K (h₀ := X.base) I.ok.mod.kin hk ?_ he hpl) hdb)
    refine thn (ha.run pos pins s σ H _ I h) ?_
    rintro us s1 ⟨vs, H1, I1, rv, want⟩
    refine ⟨I1.kIn, ?_⟩
    have all : Vals (vs ++ dvs) (us ++ ds) := rv.append hd
    have hl : (us ++ ds).length = ps.length := by rw [← all.length]; exact F.len _ _ _ _ want
    refine wpAny_call (codeAny_mono (F.run X.A X.stack s1 H1 ⟨us, []⟩ (us ++ ds) (vs ++ dvs) Q E hr I1.env0 (hb s1 us I1.kIn hl) all want) fun r s' hq => ?_)
    match r, hq with
    | .error e, hq => exact hx pins σ H1 s1 e s' I1 hq
    | .ok (.ret u), hq => exact I1.after hq
    | .ok .next, hq => exact False.elim hq
    | .ok .brk, hq => exact False.elim hq
    | .ok .cont, hq => exact False.elim hq
end
/-! ## the law called -/
section
variable {P : Program} {w : World} {K : PySem.W.Frag} {mg mb : Str → Option Value} {CX : CXT} {k : Nat} {fa a : Addr} {fd : FuncData} {x : Str} {sp : Sp} {s1 : Shared} {vs : List Value} {ns : List Int}
abbrev LawEnd (s1 : Shared) : Result → Shared → Prop := fun r s' => r = .ok (.ret (.bool true)) ∧ OldK s1.heap s'.heap ∧ s'.os = s1.os ∧ AllBare s'.gens
theorem callG (inK : K.In s1.heap) (hns : s1.heap.Ns mainGlobals mg) (hb : s1.heap.Ns builtinsNs mb) (hbb : ∀ x : Str, x ≠ "__name__" → mb x = bootBuiltins x) (hlim : s1.heap.NoLimit) (hg : s1.gens = #[]) (ha : s1.heap.get? a = some { cls := .type "list", data := .seq vs.toArray }) (hi : IntsAre vs ns)
    (hl : ns.length ≤ sizeLine) (hr : Rm k callerA) (F : ∀ base : Heap, K.In base → base.Ns mainGlobals mg → FnG P w K mg base CX k fa fd [x] sp) (bind : ∀ (s : Shared) (u : Value), BindsTo s fd ⟨[u], []⟩ [(x, u)])
    (hsp : ∀ H : Hp, Only H → SqL K H a (ns.map V.int) → sp [.ref a] H (fun v _ => v = .bl true) fun _ _ _ => False) (hCX : ∀ H e s', CX [] H s1 (fun _ _ _ => False) e s' → False) : codeAny (model P w) callerA (.call (.ref fa) ⟨[.ref a], []⟩) (LawEnd s1) s1 := by
  have vals := vals_ints hi
  have lenV := hi.length
  have core : ∀ H : Hp, Only H → SqL K H a (ns.map V.int) → HOk P w H s1.heap → (∀ b, H b ≠ none → b = a) → (H a ≠ none → K.lookup a = none) → codeAny (model P w) callerA (.call (.ref fa) ⟨[.ref a], []⟩) (LawEnd s1) s1 := by
    intro H only sq ok just notK
    have down : ∀ {b : Addr} {o : Obj}, s1.heap.get? b = some o → H b = none → (hidT s1.heap H).get? b = some o := fun z n => hidT_get z n
    have off : ∀ {b : Addr} {o : Obj} {es : Array DictEntry} {ep : Nat}, s1.heap.get? b = some o → o.data = .dict es ep → H b = none := by
      intro b o es ep z d
      cases q : H b with
      | none => rfl
      | some u =>
        obtain rfl : b = a := just b (by rw [q]; simp)
        rw [ha] at z
        cases z
        exact nomatch (show Data.seq vs.toArray _ = Data.dict es ep from d)
    have names : ∀ {b : Addr} {m : Str → Option Value}, s1.heap.Ns b m → (hidT s1.heap H).Ns b m := fun ⟨o, es, ep, z, d, r⟩ => ⟨o, es, ep, down z (off z d), d, r⟩
    have inB : K.In (hidT s1.heap H) := by
      intro b o z
      refine down (inK b o z) ?_
      cases q : H b with
      | none => rfl
      | some u =>
        obtain rfl : b = a := just b (by rw [q]; simp)
        rw [notK (by rw [q]; simp)] at z
        cases z
    have md : Mod K mg (hidT s1.heap H) := ⟨inB, names hns, ⟨mb, names hb, hbb⟩, let ⟨mc, h1, h2⟩ := hlim; ⟨mc, names h1, h2⟩⟩
    have env : Env0 P w K mg (hidT s1.heap H) callerA [] s1 H := ⟨rfl, md, fun b o z => of_hidT z, Nat.le_of_eq (hidT_size _ _), trivial, fun b hb => absurd (show b ∈ ([] : List Addr) from hb) (by simp), ok, .of_eq hg⟩
    refine codeAny_mono ((F _ inB (names hns)).run callerA [] s1 H ⟨[.ref a], []⟩ [.ref a] [.ref a] _ _ hr env (bind s1 (.ref a)) (.cons rfl .nil) (hsp H only sq)) fun r s' h => ?_
    match r, h with
    | .error e, h => exact (hCX H e s' h).elim
    | .ok .next, h => exact False.elim h
    | .ok .brk, h => exact False.elim h
    | .ok .cont, h => exact False.elim h
    | .ok (.ret u), ⟨v, H', os, bare, un, ok', r', q⟩ =>
      obtain rfl : v = .bl true := q
      obtain rfl : u = Value.bool true := r'
      refine ⟨rfl, OldK.of_keep fun b o z => ?_, os, bare⟩
      cases q : H b with
      | none => exact un.keep b o z q (by intro y; exact absurd (show b ∈ ([] : List Addr) from y) (by simp)) (by simp)
      | some u =>
        rcases only b with y | ⟨ob, xs, y⟩
        · rw [q] at y
          cases y
        · obtain ⟨z1, _⟩ := ok b _ y
          obtain ⟨z2, _⟩ := ok' b _ (un.frzs b ob _ y)
          rw [z] at z1
          cases z1
          exact z2
  cases hk : K.lookup a with
  | some o =>
    have z := inK a o hk
    rw [ha] at z
    cases z
    exact core (fun _ => none) (fun _ => .inl rfl) (.inr ⟨_, vs.toArray, _, hk, rfl, rfl, rfl, by rw [List.size_toArray, lenV]; exact hl, by simpa using vals⟩) (fun b u z => nomatch (show (none : Option HO) = some u from z)) (fun b z => absurd rfl z) fun z => absurd rfl z
  | none =>
    refine core (fun b => if b = a then some (.frz { cls := .type "list", data := .seq vs.toArray } (.lst (ns.map V.int))) else none) (fun b => ?_) (.inl (.inr ⟨{ cls := .type "list", data := .seq vs.toArray }, if_pos rfl⟩)) (fun b u z => ?_) (fun b z => ?_) fun _ => hk
    · by_cases c : b = a
      · exact .inr ⟨_, _, if_pos c⟩
      · exact .inl (if_neg c)
    · by_cases c : b = a
      · cases (if_pos c).symm.trans z
        subst c
        exact ⟨ha, by rw [List.length_map]; exact hl, vs, _, vals, ha⟩
      · cases (if_neg c).symm.trans z
    · by_cases c : b = a
      · exact c
      · exact absurd (if_neg c) z
end
theorem walkG {l : PySem.W.OpenLaw} {n k : Nat} {q : Program} {loose : List Str} {XP : (Str → Option Value) → Heap → Prop} {YP : World → Heap → Prop} {d : DefRec} {CX : CXT} {x : Str} (hn : l.most = some n) (hn2 : n ≤ sizeLine) (hdf : d.params.defaults = []) (hr : Rm k callerA)
    (F : ∀ (w : World) (mg : Str → Option Value) (fa : Addr) (h : Heap), YP w h → h.Ns mainGlobals mg → mg d.name = some (.ref fa) → ∃ (K : PySem.W.Frag) (fd : FuncData) (sp : Sp), K.In h ∧ (∀ (s : Shared) (u : Value), BindsTo s fd ⟨[u], []⟩ [(x, u)]) ∧
      (∀ (H : Hp) (a : Addr) (ns : List Int), ns.length ≤ n → Only H → SqL K H a (ns.map V.int) → sp [.ref a] H (fun v _ => v = .bl true) fun _ _ _ => False) ∧ ∀ base : Heap, K.In base → base.Ns mainGlobals mg → FnG l.prog w K mg base CX k fa fd [x] sp)
    (hCX : ∀ (H : Hp) (s : Shared) (e : Value) (s' : Shared), CX [] H s (fun _ _ _ => False) e s' → False) : PySem.W.WalkO q loose XP YP l.row.toRowW d [] (fun f vs => PySem.call f vs) :=
  Att.attach_call hn hdf fun w s0 s1 mg mb fa o pm cd doc a vs ns G Y ho hd hcd hmg hobj hints hlen hg => by
    obtain ⟨K, fd, sp, inK, hb, hsp, hF⟩ := F w mg fa _ Y G.T.g hmg
    exact callG inK G.T.g G.T.b G.T.builtins G.T.nolimit hg hobj hints (Nat.le_trans hlen hn2) hr hF hb (fun H only sq => hsp H a ns hlen only sq) fun H e s' => hCX H s1 e s'
end FD

set_option maxRecDepth 100000
namespace FD
open PySem PySem.Spec PyProof.Rows L2

/-! ## loops -/
def whN : Nat → TF → SF → SF
  | 0, c, _, s => match c s with
    | some (false, s1) => some (.nx s1)
    | _ => none
  | n + 1, c, b, s => match c s with
    | some (false, s1) => some (.nx s1)
    | some (true, s1) => match b s1 with
      | some (.nx s2) => whN n c b s2
      | some (.ct s2) => whN n c b s2
      | some (.bk s2) => some (.nx s2)
      | some (.rt d s2) => some (.rt d s2)
      | some (.er c s2) => some (.er c s2)
      | none => none
    | none => none
def sWh (n : S → Nat) (c : TF) (b : SF) : SF := fun s => whN (n s) c b s
def frN : List DV → GF → SF → SF
  | [], _, _, s => some (.nx s)
  | d :: ds, g, b, s => match g d s with
    | some s1 => match b s1 with
      | some (.nx s2) => frN ds g b s2
      | some (.ct s2) => frN ds g b s2
      | some (.bk s2) => some (.nx s2)
      | some (.rt d s2) => some (.rt d s2)
      | some (.er c s2) => some (.er c s2)
      | none => none
    | none => none
def sFr (it : LF) (g : GF) (b : SF) : SF := fun s => match it s with
  | some (ds, s1) => frN ds g b s1
  | none => none
/-- what an iterator walks -/
structure Wk (K : PySem.W.Frag) (G0 : Hp) (J : It) (ds : List DV) : Prop where
  stop : ∀ (i : Nat) (G H : Hp), Same G0 G → Same G H → ds.length ≤ i → J.stop i H
  go : ∀ (i : Nat) (G H : Hp), Same G0 G → Same G H → i < ds.length → J.go i H
  yld : ∀ (i : Nat) (G H : Hp) d x H', Same G0 G → Same G H → ds[i]? = some d → J.yld i H x H' → ∃ G', Fw G H G' H' none ∧ Rp K G' x d
def EvI (K : PySem.W.Frag) (C : Cn) (wi : TI) (f : LF) : Prop := ∀ G H σ s ds s', Ab K C G H σ s → f s = some (ds, s') →
  ∀ R : It → Hp → Prop, (∀ J H' G', Same G G' → Ab K C G' H' σ s' → Wk K G' J ds → R J H') → wi σ H R
def FI (X : Cx) (C : Cn) (tg iter : Expr) (f : LF) : Prop := ∃ wi, PI X tg iter wi ∧ EvI X.K C wi f
theorem wk_list {K : PySem.W.Frag} {G : Hp} {a : Addr} {vs : List V} {ds : List DV} (h : G a = some (.lst vs)) (r : RpL K G vs ds) : Wk K G (Itl K a) ds where
  stop := fun i G1 H g1 g2 hi => ⟨vs, SqL.of (g2 _ _ (g1 _ _ h)), by rw [r.length]; exact hi⟩
  go := fun i G1 H g1 g2 hi => by
    have hv : i < vs.length := by rw [r.length]; exact hi
    exact ⟨vs, vs[i], SqL.of (g2 _ _ (g1 _ _ h)), List.getElem?_eq_getElem hv⟩
  yld := fun i G1 H d x H' g1 g2 e y => by
    obtain ⟨e1, e2⟩ := y
    subst e1
    obtain ⟨v, q1, q2⟩ := r.get e
    have q3 := e2 vs (SqL.of (g2 _ _ (g1 _ _ h)))
    rw [q1] at q3
    cases q3
    exact ⟨G1, Fw.refl g2, Rp.mono g1 d _ q2⟩
theorem wk_tup {K : PySem.W.Frag} {G : Hp} {a : Addr} {vs : List V} {ds : List DV} (h : SqT K G a vs) (r : RpL K G vs ds) : Wk K G (Itt K a) ds where
  stop := fun i G1 H g1 g2 hi => ⟨vs, Same.tup g2 (Same.tup g1 h), by rw [r.length]; exact hi⟩
  go := fun i G1 H g1 g2 hi => by
    have hv : i < vs.length := by rw [r.length]; exact hi
    exact ⟨vs, vs[i], Same.tup g2 (Same.tup g1 h), List.getElem?_eq_getElem hv⟩
  yld := fun i G1 H d x H' g1 g2 e y => by
    obtain ⟨e1, e2⟩ := y
    subst e1
    obtain ⟨v, q1, q2⟩ := r.get e
    have q3 := e2 vs (Same.tup g2 (Same.tup g1 h))
    rw [q1] at q3
    cases q3
    exact ⟨G1, Fw.refl g2, Rp.mono g1 d _ q2⟩
def rngD (lo : Int) (n : Nat) : List DV := (List.range n).map fun (i : Nat) => .int (lo + (i : Int))
theorem wk_rng {K : PySem.W.Frag} {G : Hp} (lo : Int) (n : Nat) : Wk K G (Itr lo n) (rngD lo n) where
  stop := fun i G1 H g1 g2 hi => by
    unfold rngD at hi
    rw [List.length_map, List.length_range] at hi
    exact hi
  go := fun i G1 H g1 g2 hi => by
    unfold rngD at hi
    rw [List.length_map, List.length_range] at hi
    exact hi
  yld := fun i G1 H d x H' g1 g2 e y => by
    obtain ⟨e1, e2⟩ := y
    subst e1
    unfold rngD at e
    rw [List.getElem?_map] at e
    by_cases hi : i < n
    · rw [List.getElem?_range hi] at e
      cases e
      exact ⟨G1, Fw.refl g2, e2⟩
    · rw [List.getElem?_eq_none (by rw [List.length_range]; omega)] at e
      cases e
section
variable {X : Cx} {C : Cn} {e a b c tg : Expr} {es : List Expr} {st : Stmt} {rest body : List Stmt} {pos p p2 : Pos} {f g h : EF} {t : TF} {u w : SF}
/-- over a value: a list or a tuple -/
def iVal (f : EF) : LF := fun s => match f s with
  | some (.lst ds, s1) => some (ds, s1)
  | _ => none
def iTp (f : EF) : LF := fun s => match f s with
  | some (.tup ds, s1) => some (ds, s1)
  | _ => none
theorem fi_list (h : FE X C e f) : FI X C tg e (iVal f) := by
  obtain ⟨te, p, q⟩ := h
  refine ⟨_, pi_list p, ?_⟩
  intro G H σ s ds s' A e1 R k
  unfold iVal at e1
  split at e1
  · rename_i ds' s1 e2
    cases e1
    refine q G H σ s _ _ A e2 _ fun v H1 G1 g1 A1 r => ?_
    obtain ⟨a, vs, rfl, r1, r2⟩ := r
    exact ⟨a, rfl, ⟨vs, SqL.of (A1.gh _ _ r1)⟩, k _ H1 G1 g1 A1 (wk_list r1 r2)⟩
  · cases e1
theorem fi_tup (h : FE X C e f) : FI X C tg e (iTp f) := by
  obtain ⟨te, p, q⟩ := h
  refine ⟨_, pi_tup p, ?_⟩
  intro G H σ s ds s' A e1 R k
  unfold iTp at e1
  split at e1
  · rename_i ds' s1 e2
    cases e1
    refine q G H σ s _ _ A e2 _ fun v H1 G1 g1 A1 r => ?_
    obtain ⟨a, vs, rfl, r1, r2⟩ := r
    exact ⟨a, rfl, ⟨vs, Same.tup A1.gh r1⟩, k _ H1 G1 g1 A1 (wk_tup r1 r2)⟩
  · cases e1
def inR (j : Int) : Bool := decide (-(2 ^ 62) ≤ j ∧ j < 2 ^ 62)
def iRg1 (f : AF) : LF := fun s => match f s with
  | some ([.int j], s1) => if inR j then some (rngD 0 j.toNat, s1) else none
  | _ => none
def iRg2 (f : AF) : LF := fun s => match f s with
  | some ([.int i, .int j], s1) => if inR i && inR j then some (rngD i (j - i).toNat, s1) else none
  | _ => none
theorem fi_range1 {ff : AF} (hm : X.mg "range" = none) (h : FA X C [a] ff) (hg : Gl X "range" := by rfl) (hs : starEach [a] X.env = [(false, eval a X.env)] := by rfl) : FI X C tg (.Call (.Name "range" p) [a] [] pos) (iRg1 ff) := by
  obtain ⟨ta, p, q⟩ := h
  refine ⟨_, pi_range1 hg hm p hs, ?_⟩
  intro G H σ s ds s' A e1 R k
  unfold iRg1 at e1
  split at e1
  · split at e1
    · rename_i j s1 e2 hj
      cases e1
      refine q G H σ s _ _ A e2 _ fun vs H1 G1 g1 A1 r => ?_
      obtain ⟨v, e3, r1⟩ := r.single
      rw [show v = .int j from r1] at e3
      obtain ⟨h1, h2⟩ := of_decide_eq_true hj
      exact ⟨j, e3, h1, h2, k _ H1 G1 g1 A1 (wk_rng 0 _)⟩
    · cases e1
  · cases e1
theorem fi_range2 {ff : AF} (hm : X.mg "range" = none) (h : FA X C [a, b] ff) (hg : Gl X "range" := by rfl) (hs : starEach [a, b] X.env = [(false, eval a X.env), (false, eval b X.env)] := by rfl) (hs2 : starEach [b] X.env = [(false, eval b X.env)] := by rfl) : FI X C tg (.Call (.Name "range" p) [a, b] [] pos) (iRg2 ff) := by
  obtain ⟨ta, p, q⟩ := h
  refine ⟨_, pi_range2 hg hm p hs hs2, ?_⟩
  intro G H σ s ds s' A e1 R k
  unfold iRg2 at e1
  split at e1
  · split at e1
    · rename_i i j s1 e2 hj
      cases e1
      refine q G H σ s _ _ A e2 _ fun vs H1 G1 g1 A1 r => ?_
      obtain ⟨v, w, e3, r1, r2⟩ := r.double
      rw [show v = .int i from r1, show w = .int j from r2] at e3
      rw [Bool.and_eq_true] at hj
      obtain ⟨h1, h2⟩ := of_decide_eq_true hj.1
      obtain ⟨h3, h4⟩ := of_decide_eq_true hj.2
      exact ⟨i, j, e3, ⟨h1, h2, h3, h4⟩, k _ H1 G1 g1 A1 (wk_rng i _)⟩
    · cases e1
  · cases e1
theorem fs_for {g : GF} {it : LF} (hp : PassesOwn (model X.prog X.w) X.A X.env X.xe) (hc : X.calm = true) (hi : FI X C tg e it) (hg : FG X C tg g) (hb : FSs X C body u) (hs : ∀ x, foldedSetIterable e X.env x = pure x := by intro _; rfl) : FS X C (.For tg e body [] pos) (sFr it g u) := by
  obtain ⟨wi, p1, q1⟩ := hi
  obtain ⟨tg', p2, q2⟩ := hg
  obtain ⟨tb, p3, q3⟩ := hb
  refine ⟨_, ps_for hp hc p1 p2 p3 hs, ?_⟩
  intro G H σ s o A e1 D k
  unfold sFr at e1
  split at e1
  · rename_i ds s1 e2
    refine q1 G H σ s ds s1 A e2 _ fun J H1 G1 g1 A1 wk => ?_
    refine ⟨fun i m σ' H' => m = ds.length - i ∧ i ≤ ds.length ∧ ∃ G2 s2, Same G1 G2 ∧ Ab X.K C G2 H' σ' s2 ∧ frN (ds.drop i) g u s2 = some o, ⟨_, rfl, Nat.zero_le _, G1, s1, Same.refl _, A1, e1⟩, ?_⟩
    rintro i m σ' H' ⟨rfl, hi, G2, s2, g2, A2, e3⟩
    by_cases hl : i < ds.length
    · refine .inr ⟨wk.go i G2 H' g2 A2.gh hl, fun σ'' H'' => ∃ G3 s3, Same G1 G3 ∧ Ab X.K C G3 H'' σ'' s3 ∧ frN (ds.drop (i + 1)) g u s3 = some o, ?_, ?_⟩
      · rintro σ'' H'' ⟨G3, s3, g3, A3, e4⟩
        exact ⟨ds.length - (i + 1), by omega, rfl, hl, G3, s3, g3, A3, e4⟩
      · intro x H'' y
        have ed : ds.drop i = ds[i] :: ds.drop (i + 1) := List.drop_eq_getElem_cons hl
        obtain ⟨G3, F, r⟩ := wk.yld i G2 H' ds[i] x H'' g2 A2.gh (List.getElem?_eq_getElem hl) y
        have A3 := A2.fw0 F
        rw [ed] at e3
        unfold frN at e3
        split at e3
        · rename_i s3 e4
          refine q2 G3 H'' σ' s2 x ds[i] s3 A3 r e4 _ fun σ4 H4 G4 g4 A4 => ?_
          have g5 : Same G1 G4 := (g2.trans F.g).trans g4
          split at e3
          · rename_i s5 e5
            refine q3 G4 H4 σ4 s3 _ A4 e5 _ ?_
            exact fun σ6 H6 G6 g6 A6 => ⟨G6, s5, g5.trans g6, A6, e3⟩
          · rename_i s5 e5
            refine q3 G4 H4 σ4 s3 _ A4 e5 _ ?_
            exact fun σ6 H6 G6 g6 A6 => ⟨G6, s5, g5.trans g6, A6, e3⟩
          · rename_i s5 e5
            cases e3
            refine q3 G4 H4 σ4 s3 _ A4 e5 _ ?_
            exact fun σ6 H6 G6 g6 A6 => k σ6 H6 G6 ((g1.trans g5).trans g6) A6
          · rename_i d5 s5 e5
            cases e3
            refine q3 G4 H4 σ4 s3 _ A4 e5 _ ?_
            exact fun v σ6 H6 G6 g6 A6 => k v σ6 H6 G6 ((g1.trans g5).trans g6) A6
          · rename_i d5 s5 e5
            cases e3
            refine q3 G4 H4 σ4 s3 _ A4 e5 _ ?_
            exact fun σ6 H6 G6 g6 A6 => k σ6 H6 G6 ((g1.trans g5).trans g6) A6
          · cases e3
        · cases e3
    · have hz : ds.drop i = [] := List.drop_eq_nil_of_le (by omega)
      rw [hz] at e3
      unfold frN at e3
      cases e3
      exact .inl ⟨wk.stop i G2 H' g2 A2.gh (by omega), k σ' H' G2 (g1.trans g2) A2⟩
  · cases e1
theorem fs_while (n : S → Nat) (hp : PassesOwn (model X.prog X.w) X.A X.env X.xe) (hc : FT X C c t) (hb : FSs X C body u) : FS X C (.While c body [] pos) (sWh n t u) := by
  obtain ⟨tc, p1, q1⟩ := hc
  obtain ⟨tb, p2, q2⟩ := hb
  refine ⟨_, ps_while hp p1 p2, ?_⟩
  intro G H σ s o A e1 D k
  refine ⟨fun m σ' H' => ∃ G2 s2, Same G G2 ∧ Ab X.K C G2 H' σ' s2 ∧ whN m t u s2 = some o, ⟨n s, G, s, Same.refl _, A, e1⟩, ?_⟩
  rintro m σ' H' ⟨G2, s2, g2, A2, e2⟩
  cases m with
  | zero =>
    unfold whN at e2
    split at e2
    · rename_i s3 e3
      cases e2
      refine q1 G2 H' σ' s2 _ _ A2 e3 _ fun H3 G3 g3 A3 => ?_
      rw [if_neg Bool.false_ne_true]
      exact k σ' H3 G3 (g2.trans g3) A3
    · cases e2
  | succ m =>
    unfold whN at e2
    split at e2
    · rename_i s3 e3
      cases e2
      refine q1 G2 H' σ' s2 _ _ A2 e3 _ fun H3 G3 g3 A3 => ?_
      rw [if_neg Bool.false_ne_true]
      exact k σ' H3 G3 (g2.trans g3) A3
    · rename_i s3 e3
      refine q1 G2 H' σ' s2 _ _ A2 e3 _ fun H3 G3 g3 A3 => ?_
      rw [if_pos rfl]
      refine ⟨fun σ'' H'' => ∃ G4 s4, Same G G4 ∧ Ab X.K C G4 H'' σ'' s4 ∧ whN m t u s4 = some o, fun σ'' H'' z => ⟨m, Nat.lt_succ_self _, z⟩, ?_⟩
      split at e2
      · rename_i s5 e5
        exact q2 G3 H3 σ' s3 _ A3 e5 _ fun σ6 H6 G6 g6 A6 => ⟨G6, s5, (g2.trans g3).trans g6, A6, e2⟩
      · rename_i s5 e5
        exact q2 G3 H3 σ' s3 _ A3 e5 _ fun σ6 H6 G6 g6 A6 => ⟨G6, s5, (g2.trans g3).trans g6, A6, e2⟩
      · rename_i s5 e5
        cases e2
        exact q2 G3 H3 σ' s3 _ A3 e5 _ fun σ6 H6 G6 g6 A6 => k σ6 H6 G6 ((g2.trans g3).trans g6) A6
      · rename_i d5 s5 e5
        cases e2
        exact q2 G3 H3 σ' s3 _ A3 e5 _ fun v σ6 H6 G6 g6 A6 => k v σ6 H6 G6 ((g2.trans g3).trans g6) A6
      · rename_i d5 s5 e5
        cases e2
        exact q2 G3 H3 σ' s3 _ A3 e5 _ fun σ6 H6 G6 g6 A6 => k σ6 H6 G6 ((g2.trans g3).trans g6) A6
      · cases e2
    · cases e2
end

/-! ## defs -/
/-- a def that reads data and gives data; one that draws from the spool, its first argument -/
def spP (K : PySem.W.Frag) (f : List DV → Option DV) : Sp := fun vs H Q _ => ∃ G ds d, Same G H ∧ RpL K G vs ds ∧ f ds = some d ∧ ∀ v H' G', Fw G H G' H' none → Rp K G' v d → Q v H'
def spS (K : PySem.W.Frag) (f : List DV → Spl → Option (DV × Spl)) : Sp := fun vs H Q _ => ∃ G a vs' ds s d s', vs = .ref a :: vs' ∧ Same G H ∧ RpL K G vs' ds ∧ SpOk K G H (some a) s ∧ f ds s = some (d, s') ∧
  ∀ v H' G', Fw G H G' H' (some a) → SpOk K G' H' (some a) s' → Rp K G' v d → Q v H'
def spl0 : Spl := ⟨[], 0, 0, 0⟩
/-- what a body is worth for arguments; n parameters, m slots -/
def bodyP (n m : Nat) (g : SF) : List DV → Option DV := fun ds =>
  if ds.length = n then match g ⟨ds.map (fun d => some (.dat d)) ++ List.replicate (m - n) none, spl0⟩ with
    | some (.rt d _) => some d
    | some (.nx _) => some .non
    | _ => none
  else none
def bodyS (n m : Nat) (g : SF) : List DV → Spl → Option (DV × Spl) := fun ds t =>
  if ds.length + 1 = n then match g ⟨some .spl :: ds.map (fun d => some (.dat d)) ++ List.replicate (m - n) none, t⟩ with
    | some (.rt d s) => some (d, s.sp)
    | some (.nx s) => some (.non, s.sp)
    | _ => none
  else none
section
variable {P : Program} {w : World} {K : PySem.W.Frag} {mg : Str → Option Value} {base : Heap}
theorem slots_ok {C : Cn} {G H : Hp} : ∀ {vs : List V} {ds : List DV}, RpL K G vs ds → ∀ (m i : Nat) v x, (vs.map some ++ List.replicate m none)[i]? = some v → (ds.map (fun d => some (SV.dat d)) ++ List.replicate m none)[i]? = some x → SlOk K C G H v x := fun {vs ds} r m i v x e1 e2 => by
  have hl := r.length
  by_cases hi : i < ds.length
  · rw [List.getElem?_append_left (by simpa using hi), List.getElem?_map] at e2
    rw [List.getElem?_append_left (by rw [List.length_map, hl]; exact hi), List.getElem?_map] at e1
    obtain ⟨u, q1, q2⟩ := r.get (i := i) (d := ds[i]) (List.getElem?_eq_getElem hi)
    rw [q1] at e1
    rw [List.getElem?_eq_getElem hi] at e2
    cases e1
    cases e2
    exact ⟨u, rfl, q2⟩
  · rw [List.getElem?_append_right (by simpa using hi), List.getElem?_replicate] at e2
    split at e2
    · cases e2
      trivial
    · cases e2
theorem no_own {ds : List DV} {m i : Nat} {es : List DV} (h : (ds.map (fun d => some (SV.dat d)) ++ List.replicate m none)[i]? = some (some (.own es))) : False := by
  by_cases hi : i < ds.length
  · rw [List.getElem?_append_left (by simpa using hi), List.getElem?_map, List.getElem?_eq_getElem hi] at h
    cases h
  · rw [List.getElem?_append_right (by simpa using hi), List.getElem?_replicate] at h
    split at h <;> cases h
theorem ab_start {W : Value → Option Addr → St → Hp → Prop} {G H : Hp} {vs : List V} {ds : List DV} (g : Same G H) (r : RpL K G vs ds) (m : Nat) (t : Spl) : Ab K ⟨G, H, none, W⟩ G H (vs.map some ++ List.replicate m none) ⟨ds.map (fun d => some (.dat d)) ++ List.replicate m none, t⟩ where
  gh := g
  fr := fun b o e _ => e
  g0 := Same.refl _
  gn := fun b _ => rfl
  len := by simp [r.length]
  sl := fun i v x e1 e2 => slots_ok r m i v x e1 e2
  dis := fun i j a ds' es _ h => (no_own h).elim
  spk := trivial
theorem ab_startS {W : Value → Option Addr → St → Hp → Prop} {G H : Hp} {a : Addr} {vs : List V} {ds : List DV} {t : Spl} (g : Same G H) (r : RpL K G vs ds) (k : SpOk K G H (some a) t) (m : Nat) : Ab K ⟨G, H, some a, W⟩ G H (some (.ref a) :: vs.map some ++ List.replicate m none) ⟨some .spl :: ds.map (fun d => some (.dat d)) ++ List.replicate m none, t⟩ where
  gh := g
  fr := fun b o e _ => e
  g0 := Same.refl _
  gn := fun b _ => rfl
  len := by simp [r.length]
  sl := fun i v x e1 e2 => by
    cases i with
    | zero =>
      cases e1
      cases e2
      exact ⟨a, rfl, rfl⟩
    | succ i => exact slots_ok r m i v x (by simpa using e1) (by simpa using e2)
  dis := fun i j a' ds' es _ h => by
    cases i with
    | zero => cases h
    | succ i => exact (no_own (by simpa using h)).elim
  spk := k
/-- what a def of the text promises, from its body -/
theorem fn_pure {x qual : Str} {params : Arguments} {body : List Stmt} {scope : Scope} {dvs : List V} {kws : List (Str × V)} {f : Addr} {fd : FuncData} {N ps : List Str} {k : Nat} {g : SF} (F : FunD K x qual params body scope dvs kws f fd) (Sc : FnScope N ps scope)
    (h : ∀ (C : Cn) (cdv : Value) (A : Around) (outer : List Env) (s : Shared) (H : Hp) (E : XK), C.sp = none → Rm k (A.deeper (envOfC qual scope s.heap.objs.size f cdv)) → FSs (cxOf CX0 P w K mg base N qual scope f cdv A outer s H E).nox C body g) :
    FnG P w K mg base CX0 (k + 1) f fd ps (spP K (bodyP ps.length N.length g)) := by
  refine okG F Sc (fun vs H Q E h => ?_) (fun cdv A outer s H vs Q E hr hsp => ?_)
  · obtain ⟨G, ds, d, _, r, e, _⟩ := h
    unfold bodyP at e
    split at e
    · rename_i hl
      rw [r.length, hl]
    · cases e
  · obtain ⟨G, ds, d, g0, r, e, q⟩ := hsp
    unfold bodyP at e
    split at e
    · rename_i hl
      obtain ⟨t, p1, q1⟩ := h ⟨G, H, none, noW⟩ cdv A outer s H E rfl hr
      have A0 := ab_start (K := K) (W := noW) g0 r (N.length - ps.length) spl0
      have es : L2.start N vs = vs.map some ++ List.replicate (N.length - ps.length) none := by
        unfold L2.start
        rw [r.length, hl]
      refine ⟨t, p1.nox, ?_⟩
      rw [es]
      split at e
      · rename_i d' s' e1
        cases e
        refine q1 G H _ _ _ A0 e1 _ ?_
        exact fun v σ' H' G' g1 A1 rv => q v H' G' ⟨g1, A1.gh, fun b o e n => A1.fr b o e n, A1.gn⟩ rv
      · rename_i s' e1
        cases e
        refine q1 G H _ _ _ A0 e1 _ ?_
        exact fun σ' H' G' g1 A1 => q .non H' G' ⟨g1, A1.gh, fun b o e n => A1.fr b o e n, A1.gn⟩ rfl
      · cases e
    · cases e
theorem fn_spool {x qual : Str} {params : Arguments} {body : List Stmt} {scope : Scope} {dvs : List V} {kws : List (Str × V)} {f : Addr} {fd : FuncData} {N ps : List Str} {k : Nat} {g : SF} (F : FunD K x qual params body scope dvs kws f fd) (Sc : FnScope N ps scope)
    (h : ∀ (C : Cn) (cdv : Value) (A : Around) (outer : List Env) (s : Shared) (H : Hp) (E : XK), Rm k (A.deeper (envOfC qual scope s.heap.objs.size f cdv)) → FSs (cxOf CX0 P w K mg base N qual scope f cdv A outer s H E).nox C body g) :
    FnG P w K mg base CX0 (k + 1) f fd ps (spS K (bodyS ps.length N.length g)) := by
  refine okG F Sc (fun vs H Q E h => ?_) (fun cdv A outer s H vs Q E hr hsp => ?_)
  · obtain ⟨G, a, vs', ds, t, d, t', e0, _, r, _, e, _⟩ := h
    unfold bodyS at e
    split at e
    · rename_i hl
      rw [e0, List.length_cons, r.length, hl]
    · cases e
  · obtain ⟨G, a, vs', ds, t, d, t', e0, g0, r, kk, e, q⟩ := hsp
    subst e0
    unfold bodyS at e
    split at e
    · rename_i hl
      obtain ⟨tt, p1, q1⟩ := h ⟨G, H, some a, noW⟩ cdv A outer s H E hr
      have A0 := ab_startS (K := K) (W := noW) g0 r kk (N.length - ps.length)
      have es : L2.start N (.ref a :: vs') = some (.ref a) :: vs'.map some ++ List.replicate (N.length - ps.length) none := by
        unfold L2.start
        rw [List.length_cons, r.length, hl]
        rfl
      refine ⟨tt, p1.nox, ?_⟩
      rw [es]
      split at e
      · rename_i d' s' e1
        cases e
        refine q1 G H _ _ _ A0 e1 _ ?_
        exact fun v σ' H' G' g1 A1 rv => q v H' G' ⟨g1, A1.gh, fun b o e n => A1.fr b o e n, A1.gn⟩ A1.spk rv
      · rename_i s' e1
        cases e
        refine q1 G H _ _ _ A0 e1 _ ?_
        exact fun σ' H' G' g1 A1 => q .non H' G' ⟨g1, A1.gh, fun b o e n => A1.fr b o e n, A1.gn⟩ A1.spk rfl
      · cases e
    · cases e
theorem FnG.toP {k : Nat} {f : Addr} {fd : FuncData} {ps : List Str} {f1 f2 : List DV → Option DV} (F : FnG P w K mg base CX0 k f fd ps (spP K f1)) (h : ∀ ds d, f2 ds = some d → f1 ds = some d) : FnG P w K mg base CX0 k f fd ps (spP K f2) :=
  F.imp fun vs H Q E ⟨G, ds, d, g, r, e, q⟩ => ⟨G, ds, d, g, r, h ds d e, q⟩
theorem FnG.toS {k : Nat} {f : Addr} {fd : FuncData} {ps : List Str} {f1 f2 : List DV → Spl → Option (DV × Spl)} (F : FnG P w K mg base CX0 k f fd ps (spS K f1)) (h : ∀ ds t d, f2 ds t = some d → f1 ds t = some d) : FnG P w K mg base CX0 k f fd ps (spS K f2) :=
  F.imp fun vs H Q E ⟨G, a, vs', ds, t, d, t', e0, g, r, kk, e, q⟩ => ⟨G, a, vs', ds, t, d, t', e0, g, r, kk, h ds t _ e, q⟩
end
section
variable {X : Cx} {C : Cn} {e a b c tg : Expr} {es : List Expr} {pos p p2 : Pos} {f g h : EF}
/-- f(e, ..), f a def of the text -/
theorem fe_call {op : List DV → Option DV} {k : Nat} {fa : Addr} {fd : FuncData} {ps : List Str} {x : Str} {ff : AF} (F : FnG X.prog X.w X.K X.mg X.base CX0 k fa fd ps (spP X.K op)) (hr : Rm k X.A) (hm : X.mg x = some (.ref fa)) (hk : PySem.W.keepIn X.K (.ref fa) = true) (hb : Binds X.K fd ps [])
    (ha : FA X C (e :: es) ff) (hg : Gl X x := by rfl) (hdb : (x == ("__debug__" : Str)) = false := by decide) (he : starEach (e :: es) X.env = (false, eval e X.env) :: starEach es X.env := by rfl) (hpl : (backTo pos (starEach es X.env)).any (·.1) = false := by rfl) :
    FE X C (.Call (.Name x p) (e :: es) [] pos) (eA ff op) := by
  obtain ⟨ta, p1, q1⟩ := ha
  refine ⟨_, pe_callG F hr hg hm hk hb .nil pass0 p1 hdb he hpl, evA_of (r := fun vs H1 Q => spP X.K op (vs ++ []) H1 Q E0) q1 (fun _ _ _ h => h) fun G H σ s vs ds d A r e1 Q q => ?_⟩
  rw [List.append_nil]
  exact ⟨G, ds, d, A.gh, r, e1, q⟩
/-- f(spool, e, ..) -/
def eS (i : Nat) (g : AF) (op : List DV → Spl → Option (DV × Spl)) : EF := fun s => match s.sl[i]? with
  | some (some .spl) => match g s with
    | some (ds, s1) => match op ds s1.sp with
      | some (d, t) => some (d, { s1 with sp := t })
      | none => none
    | none => none
  | _ => none
theorem fe_callS (i : Nat) {op : List DV → Spl → Option (DV × Spl)} {k : Nat} {fa : Addr} {fd : FuncData} {ps : List Str} {x y : Str} {ff : AF} {py : Pos} (F : FnG X.prog X.w X.K X.mg X.base CX0 k fa fd ps (spS X.K op)) (hr : Rm k X.A) (hm : X.mg x = some (.ref fa)) (hk : PySem.W.keepIn X.K (.ref fa) = true) (hb : Binds X.K fd ps [])
    (ha : FA X C es ff) (hg : Gl X x := by rfl) (hN : X.N[i]? = some y := by rfl) (hv : Vis X.env.scope y := by first | exact Or.inl rfl | exact Or.inr (Or.inl rfl) | exact Or.inr (Or.inr rfl)) (hd : (y == ("__debug__" : Str)) = false := by decide)
    (hcd : (y == ("__classdict__" : Str)) = false := by decide) (hdb : (x == ("__debug__" : Str)) = false := by decide) (he : starEach (.Name y py :: es) X.env = (false, eval (.Name y py) X.env) :: starEach es X.env := by rfl) (hpl : (backTo pos (starEach es X.env)).any (·.1) = false := by rfl) :
    FE X C (.Call (.Name x p) (.Name y py :: es) [] pos) (eS i ff op) := by
  obtain ⟨ta, p1, q1⟩ := ha
  refine ⟨_, pe_callG F hr hg hm hk hb .nil pass0 (pa_cons (pe_var hN hv hd hcd) p1 he) hdb he hpl, ?_⟩
  intro G H σ s d s' A e1 Q q
  unfold eS at e1
  split at e1
  · rename_i e0
    split at e1
    · rename_i ds s1 e2
      split at e1
      · rename_i d' t e3
        cases e1
        obtain ⟨w, ew, a, ha, rfl⟩ := A.slot e0
        refine ⟨.ref a, ew, q1 G H σ s ds s1 A e2 _ fun vs H1 G1 g1 A1 r => ?_⟩
        have kk := A1.spk
        rw [ha] at kk
        refine ⟨G1, a, vs, ds, s1.sp, _, t, by rw [List.append_nil], A1.gh, r, kk, e3, fun v H' G' F' k' rv => ?_⟩
        rw [← ha] at F' k'
        exact q v H' G' (g1.trans F'.g) (A1.fw F' k') rv
      · cases e1
    · cases e1
  · cases e1
end
end FD

set_option maxRecDepth 100000
namespace FD
open PySem PySem.Spec PyProof.Rows L2

/-! ## enumerate -/
def enD : Nat → List DV → List DV
  | _, [] => []
  | n, d :: ds => .tup [.int (n : Int), d] :: enD (n + 1) ds
theorem enD_len : ∀ (n : Nat) (ds : List DV), (enD n ds).length = ds.length
  | _, [] => rfl
  | n, d :: ds => congrArg Nat.succ (enD_len (n + 1) ds)
theorem enD_get : ∀ (ds : List DV) (n i : Nat) (x : DV), (enD n ds)[i]? = some x → ∃ d, ds[i]? = some d ∧ x = .tup [.int ((n + i : Nat) : Int), d]
  | [], n, i, x, h => by simp [enD] at h
  | d :: ds, n, 0, x, h => by
    simp [enD] at h
    exact ⟨d, rfl, h.symm⟩
  | d :: ds, n, i + 1, x, h => by
    have h' : (enD (n + 1) ds)[i]? = some x := by simpa [enD] using h
    obtain ⟨e, h1, h2⟩ := enD_get ds (n + 1) i x h'
    refine ⟨e, by simpa using h1, ?_⟩
    rw [h2]
    congr 4
    omega
theorem wk_enum {K : PySem.W.Frag} {G : Hp} {a : Addr} {vs : List V} {ds : List DV} (h : G a = some (.lst vs)) (r : RpL K G vs ds) : Wk K G (Ite K a) (enD 0 ds) where
  stop := fun i G1 H g1 g2 hi => ⟨vs, SqL.of (g2 _ _ (g1 _ _ h)), by rw [r.length, ← enD_len 0 ds]; exact hi⟩
  go := fun i G1 H g1 g2 hi => by
    have hv : i < vs.length := by rw [r.length, ← enD_len 0 ds]; exact hi
    exact ⟨vs, vs[i], SqL.of (g2 _ _ (g1 _ _ h)), List.getElem?_eq_getElem hv⟩
  yld := fun i G1 H d x H' g1 g2 e y => by
    obtain ⟨T, z, rfl, nT, rfl, q⟩ := y
    obtain ⟨dd, e1, e2⟩ := enD_get ds 0 i d e
    subst e2
    obtain ⟨v, q1, q2⟩ := r.get e1
    have q3 := q vs (SqL.of (g2 _ _ (g1 _ _ h)))
    rw [q1] at q3
    have ez : z = v := (Option.some.inj q3).symm
    subst ez
    have F : Fw G1 H (upd G1 T (.tup [.int (i : Nat), z])) (upd H T (.tup [.int (i : Nat), z])) none := Fw.add g2 nT
    refine ⟨_, F, T, _, rfl, SqT.of upd_same, _, _, rfl, ?_, RpL.one (Rp.mono F.g _ _ (Rp.mono g1 _ _ q2))⟩
    show V.int (i : Nat) = V.int ((0 + i : Nat) : Int)
    rw [Nat.zero_add]
section
variable {X : Cx} {C : Cn} {e a b c : Expr} {es elts : List Expr} {pos p tpos : Pos} {f g h : EF}
def iEn (f : EF) : LF := fun s => match f s with
  | some (.lst ds, s1) => some (enD 0 ds, s1)
  | _ => none
theorem fi_enum {kk : Nat} (hm : X.mg "enumerate" = none) (h : FE X C e f) (hg : Gl X "enumerate" := by rfl) (hs : starEach [e] X.env = (false, eval e X.env) :: starEach [] X.env := by rfl) (hs' : starEach [e] X.env = [(false, eval e X.env)] := by rfl) : FI X C (.Tuple elts kk tpos) (.Call (.Name "enumerate" p) [e] [] pos) (iEn f) := by
  obtain ⟨te, p1, q1⟩ := h
  refine ⟨_, pi_enum hg hm (pa_cons p1 pa_nil hs) hs', ?_⟩
  intro G H σ s ds s' A e1 R k
  unfold iEn at e1
  split at e1
  · rename_i ds' s1 e2
    cases e1
    refine q1 G H σ s _ _ A e2 _ fun v H1 G1 g1 A1 r => ?_
    obtain ⟨a, vs, rfl, r1, r2⟩ := r
    exact ⟨a, vs, rfl, SqL.of (A1.gh _ _ r1), k _ H1 G1 g1 A1 (wk_enum r1 r2)⟩
  · cases e1

/-! ## list comprehensions: one for, one name -/
def tY : TF := fun s => some (true, s)
def cpN : List DV → Nat → TF → EF → S → List DV → Option (List DV × S)
  | [], _, _, _, s, acc => some (acc, s)
  | d :: ds, i, t, f, s, acc => match t { s with sl := s.sl.set i (some (.dat d)) } with
    | some (true, s2) => match f s2 with
      | some (y, s3) => if acc.length < sizeLine then cpN ds i t f { s3 with sl := s3.sl.set i none } (acc ++ [y]) else none
      | none => none
    | some (false, s2) => cpN ds i t f { s2 with sl := s2.sl.set i none } acc
    | none => none
def lCp (it : LF) (i : Nat) (t : TF) (f : EF) : LF := fun s => match it s with
  | some (ds, s1) => cpN ds i t f { s1 with sl := s1.sl.set i none } []
  | none => none
theorem Ab.forget {K : PySem.W.Frag} {G H : Hp} {σ σ' : List (Option V)} {s : S} {sl' : List (Option SV)} (A : Ab K C G H σ s) (hl : σ'.length = sl'.length) (h : ∀ (i : Nat) x, sl'[i]? = some (some x) → s.sl[i]? = some (some x) ∧ σ'[i]? = σ[i]?) : Ab K C G H σ' { s with sl := sl' } where
  gh := A.gh
  fr := A.fr
  g0 := A.g0
  gn := A.gn
  len := hl
  sl := fun i v x e1 e2 => by
    cases x with
    | none => trivial
    | some x =>
      obtain ⟨h1, h2⟩ := h i x e2
      exact A.sl i v (some x) (by rw [← h2]; exact e1) h1
  dis := fun i j a ds es n e1 e2 e3 => by
    obtain ⟨h1, h2⟩ := h i _ e1
    obtain ⟨h3, h4⟩ := h j _ e2
    rw [h4]
    rw [h2] at e3
    exact A.dis i j a ds es n h1 h3 e3
  spk := A.spk
section
variable {K : PySem.W.Frag} {G H G' H' : Hp} {σ : List (Option V)} {s : S} {D : Addr} {vs : List V} {acc : List DV}
theorem NewL.fw (n : NewL K C G H σ s D vs acc) (F : Fw G H G' H' none) : NewL K C G' H' σ s D vs acc where
  at_ := F.h _ _ n.at_ (fun z => nomatch z)
  rp := RpL.mono F.g _ _ n.rp
  g := by rw [F.n D (by rw [n.at_]; exact fun z => nomatch z)]; exact n.g
  h0 := n.h0
  sp := n.sp
  no := n.no
theorem Ab.rebase (A : Ab K C G H σ s) (n : NewL K C G H σ s D vs acc) : Ab K { C with H0 := upd C.H0 D (.lst vs) } G H σ s where
  gh := A.gh
  fr := fun b o e q => by
    by_cases z : b = D
    · have e' : upd C.H0 D (.lst vs) b = some o := e
      rw [z, upd_same] at e'
      rw [z, ← e']
      exact n.at_
    · have e' : upd C.H0 D (.lst vs) b = some o := e
      rw [upd_ne z] at e'
      exact A.fr b o e' q
  g0 := A.g0
  gn := fun b e => by
    have e' : upd C.H0 D (.lst vs) b ≠ none := e
    by_cases z : b = D
    · rw [z, n.g]
      cases q : C.G0 D with
      | none => rfl
      | some o =>
        have q' := A.g0 _ _ q
        rw [n.g] at q'
        cases q'
    · rw [upd_ne z] at e'
      exact A.gn b e'
  len := A.len
  sl := fun i v x e1 e2 => by
    have r := A.sl i v x e1 e2
    match x, r with
    | none, _ => trivial
    | some (.dat d), r => exact r
    | some (.own es), ⟨b, us, e, r1, r2, r3, r4, r5⟩ =>
      subst e
      have nb : b ≠ D := fun zz => n.no i es e2 (by rw [e1, zz])
      exact ⟨b, us, rfl, r1, r2, r3, by show upd C.H0 D (.lst vs) b = none; rw [upd_ne nb]; exact r4, r5⟩
    | some .spl, r => exact r
  dis := A.dis
  spk := A.spk
theorem Ab.unbase (A : Ab K { C with H0 := upd C.H0 D (.lst vs) } G H σ s) (h0 : C.H0 D = none) (g0 : C.G0 D = none) (hs : C.sp ≠ some D) (r : RpL K G vs acc) : Ab K C G H σ s ∧ NewL K C G H σ s D vs acc := by
  have hD : H D = some (.lst vs) := A.fr D _ upd_same hs
  have ne : ∀ {b : Addr}, upd C.H0 D (.lst vs) b = none → b ≠ D := fun {b} e z => by
    rw [z, upd_same] at e
    cases e
  refine ⟨⟨A.gh, fun b o e q => A.fr b o ?_ q, A.g0, fun b e => A.gn b ?_, A.len, fun i v x e1 e2 => ?_, A.dis, A.spk⟩, ⟨hD, r, ?_, h0, hs, fun j es e1 e2 => ?_⟩⟩
  · show upd C.H0 D (.lst vs) b = some o
    rw [upd_ne (fun z => by rw [z, h0] at e; cases e)]
    exact e
  · show upd C.H0 D (.lst vs) b ≠ none
    rw [upd_ne (fun z => by rw [z, h0] at e; exact e rfl)]
    exact e
  · have r := A.sl i v x e1 e2
    match x, r with
    | none, _ => trivial
    | some (.dat d), r => exact r
    | some (.own es), ⟨b, us, e, r1, r2, r3, r4, r5⟩ =>
      have r4' : upd C.H0 D (.lst vs) b = none := r4
      exact ⟨b, us, e, r1, r2, r3, by rw [upd_ne (ne r4')] at r4'; exact r4', r5⟩
    | some .spl, r => exact r
  · have q := A.gn D (by show upd C.H0 D (.lst vs) D ≠ none; rw [upd_same]; exact fun z => nomatch z)
    rw [q]
    exact g0
  · obtain ⟨o, q1, b, us, e, _, _, _, r4, _⟩ := A.slot e1
    subst e
    rw [e2] at q1
    cases q1
    exact ne r4 rfl
theorem Ab.put_new (A : Ab K C G H σ s) (n : NewL K C G H σ s D vs acc) {ws : List V} {bcc : List DV} (r : RpL K G ws bcc) : Ab K C G (upd H D (.lst ws)) σ s ∧ NewL K C G (upd H D (.lst ws)) σ s D ws bcc := by
  refine ⟨⟨fun b u q => ?_, fun b o q z => ?_, A.g0, A.gn, A.len, fun i v x e1 e2 => ?_, A.dis, ?_⟩, ⟨upd_same, r, n.g, n.h0, n.sp, n.no⟩⟩
  · rw [upd_ne (fun z => by rw [z, n.g] at q; cases q)]
    exact A.gh _ _ q
  · rw [upd_ne (fun z => by rw [z, n.h0] at q; cases q)]
    exact A.fr b o q z
  · have r := A.sl i v x e1 e2
    match x, r with
    | none, _ => trivial
    | some (.dat d), r => exact r
    | some (.own es), ⟨b, us, e, r1, r2, r3, r4, r5⟩ =>
      subst e
      have nb : b ≠ D := fun zz => n.no i es e2 (by rw [e1, zz])
      exact ⟨b, us, rfl, by rw [upd_ne nb]; exact r1, r2, r3, r4, r5⟩
    | some .spl, r => exact r
  · have k := A.spk
    unfold SpOk at *
    cases z : C.sp with
    | none => rw [z] at k; trivial
    | some c =>
      rw [z] at k
      obtain ⟨k1, nb, k2, k3⟩ := k
      exact ⟨k1, nb, by rw [upd_ne (fun e => n.sp (by rw [z, e]))]; exact k2, k3⟩
theorem Ab.set_none (A : Ab K C G H σ s) (i : Nat) : Ab K C G H (σ.set i none) { s with sl := s.sl.set i none } :=
  A.forget (by rw [List.length_set, List.length_set]; exact A.len) fun j x e => by
    rw [List.getElem?_set] at e
    rw [List.getElem?_set]
    by_cases z : i = j
    · rw [if_pos z] at e
      split at e <;> cases e
    · rw [if_neg z] at e ⊢
      exact ⟨e, rfl⟩
theorem not_own_set {i j : Nat} {x : Option SV} {es : List DV} (hx : ∀ es, x ≠ some (.own es)) (e : (s.sl.set i x)[j]? = some (some (.own es))) : i ≠ j ∧ s.sl[j]? = some (some (.own es)) := by
  rw [List.getElem?_set] at e
  by_cases z : i = j
  · rw [if_pos z] at e
    split at e
    · cases e
      exact absurd rfl (hx es)
    · cases e
  · rw [if_neg z] at e
    exact ⟨z, e⟩
theorem NewL.set {i : Nat} {x : Option SV} {o : Option V} (n : NewL K C G H σ s D vs acc) (hx : ∀ es, x ≠ some (.own es)) : NewL K C G H (σ.set i o) { s with sl := s.sl.set i x } D vs acc where
  at_ := n.at_
  rp := n.rp
  g := n.g
  h0 := n.h0
  sp := n.sp
  no := fun j es e1 e2 => by
    obtain ⟨z, e3⟩ := not_own_set hx e1
    rw [List.getElem?_set, if_neg z] at e2
    exact n.no j es e3 e2
end
theorem evLc {K : PySem.W.Frag} {i : Nat} {wi : TI} {tt : TT} {te : TE} {it : LF} {t : TF} {f : EF} (q1 : EvI K C wi it) (q2 : ∀ C', EvT K C' tt t) (q3 : ∀ C', EvE K C' te f) : EvL K C (tLc wi (gName i) tt te [i]) (lCp it i t f) := by
  intro G H σ s ds s' A e1 Q k
  unfold lCp at e1
  split at e1
  · rename_i items s1 e2
    refine q1 G H σ s items s1 A e2 _ fun J H1 G1 g1 A1 wk => ?_
    intro D hD
    obtain ⟨B1, n1⟩ := A1.lay (ds := []) rfl hD
    refine ⟨fun j m H' => m = items.length - j ∧ j ≤ items.length ∧ ∃ G2 s2 acc vs, Same G1 G2 ∧ Ab K C G2 H' (σ.set i none) s2 ∧ NewL K C G2 H' (σ.set i none) s2 D vs acc ∧ (∀ x, s2.sl[i]? ≠ some (some x)) ∧ cpN (items.drop j) i t f s2 acc = some (ds, s'), ⟨_, rfl, Nat.zero_le _, G1, _, [], [], Same.refl _, B1.set_none i, n1.set (fun es z => nomatch z), fun y e => ?_, e1⟩, ?_⟩
    · have e' : (s1.sl.set i none)[i]? = some (some y) := e
      rw [List.getElem?_set, if_pos rfl] at e'
      split at e' <;> cases e'
    rintro j m H' ⟨rfl, hj, G2, s2, acc, vs, g2, A2, n2, hn, e3⟩
    by_cases hl : j < items.length
    · refine .inr ⟨wk.go j G2 H' g2 A2.gh hl, fun H'' => ∃ G3 s3 acc vs, Same G1 G3 ∧ Ab K C G3 H'' (σ.set i none) s3 ∧ NewL K C G3 H'' (σ.set i none) s3 D vs acc ∧ (∀ x, s3.sl[i]? ≠ some (some x)) ∧ cpN (items.drop (j + 1)) i t f s3 acc = some (ds, s'), ?_, ?_⟩
      · rintro H'' ⟨G3, s3, acc', vs', g3, A3, n3, hn3, e4⟩
        exact ⟨items.length - (j + 1), by omega, rfl, hl, G3, s3, acc', vs', g3, A3, n3, hn3, e4⟩
      · intro z H'' y
        have ed : items.drop j = items[j] :: items.drop (j + 1) := List.drop_eq_getElem_cons hl
        obtain ⟨G3, F, r⟩ := wk.yld j G2 H' items[j] z H'' g2 A2.gh (List.getElem?_eq_getElem hl) y
        have A3 := A2.fw0 F
        have n3 := n2.fw F
        rw [ed] at e3
        have A4 := A3.set_dat (i := i) r
        have n4 : NewL K C G3 H'' ((σ.set i none).set i (some z)) { s2 with sl := s2.sl.set i (some (.dat items[j])) } D vs acc := n3.set (fun es z => nomatch z)
        have A5 := A4.rebase n4
        have g0D : C.G0 D = none := by
          cases q : C.G0 D with
          | none => rfl
          | some o =>
            have q' := A3.g0 _ _ q
            rw [n3.g] at q'
            cases q'
        have back : ∀ {G6 H6 : Hp} {s6 : S} {ws : List V} {bcc : List DV}, Ab K C G6 H6 ((σ.set i none).set i (some z)) s6 → NewL K C G6 H6 ((σ.set i none).set i (some z)) s6 D ws bcc →
            Ab K C G6 H6 (σ.set i none) { s6 with sl := s6.sl.set i none } ∧ NewL K C G6 H6 (σ.set i none) { s6 with sl := s6.sl.set i none } D ws bcc ∧ ∀ x, ({ s6 with sl := s6.sl.set i none } : S).sl[i]? ≠ some (some x) := by
          intro G6 H6 s6 ws bcc A6 n6
          have e7 : ((σ.set i none).set i (some z)).set i none = σ.set i none := by
            rw [List.set_set, List.set_set]
          have A7 := A6.set_none i
          have n7 : NewL K C G6 H6 (((σ.set i none).set i (some z)).set i none) { s6 with sl := s6.sl.set i none } D ws bcc := n6.set (fun es z => nomatch z)
          rw [e7] at A7 n7
          refine ⟨A7, n7, fun y e => ?_⟩
          have e' : (s6.sl.set i none)[i]? = some (some y) := e
          rw [List.getElem?_set, if_pos rfl] at e'
          split at e' <;> cases e'
        unfold cpN at e3
        show wipe ((wipe σ [i]).set i (some z)) [i] = wipe σ [i] ∧ _
        refine ⟨?_, ?_⟩
        · show ((σ.set i none).set i (some z)).set i none = σ.set i none
          rw [List.set_set, List.set_set]
        show tt ((σ.set i none).set i (some z)) H'' _
        split at e3
        · rename_i s6 e6
          refine q2 _ G3 H'' _ _ _ _ A5 e6 _ fun H6 G6 g6 A6 => ?_
          rw [if_pos rfl]
          split at e3
          · rename_i y7 s7 e7
            split at e3
            · rename_i hsz
              refine q3 _ G6 H6 _ _ _ _ A6 e7 _ fun v7 H7 G7 g7 A7 r7 => ?_
              obtain ⟨A8, n8⟩ := A7.unbase (acc := acc) n3.h0 g0D n3.sp (RpL.mono (g6.trans g7) _ _ n3.rp)
              refine ⟨vs, n8.at_, by rw [n8.rp.length]; exact hsz, ?_⟩
              obtain ⟨A9, n9⟩ := A8.put_new n8 (n8.rp.append (RpL.one r7))
              obtain ⟨A10, n10, h10⟩ := back A9 n9
              exact ⟨G7, _, _, _, ((g2.trans F.g).trans g6).trans g7, A10, n10, h10, e3⟩
            · cases e3
          · cases e3
        · rename_i s6 e6
          refine q2 _ G3 H'' _ _ _ _ A5 e6 _ fun H6 G6 g6 A6 => ?_
          rw [if_neg Bool.false_ne_true]
          obtain ⟨A8, n8⟩ := A6.unbase (acc := acc) n3.h0 g0D n3.sp (RpL.mono g6 _ _ n3.rp)
          obtain ⟨A10, n10, h10⟩ := back A8 n8
          exact ⟨G6, _, _, _, (g2.trans F.g).trans g6, A10, n10, h10, e3⟩
        · cases e3
    · have hz : items.drop j = [] := List.drop_eq_nil_of_le (by omega)
      rw [hz] at e3
      unfold cpN at e3
      cases e3
      refine .inl ⟨wk.stop j G2 H' g2 A2.gh (by omega), k D vs H' G2 (g1.trans g2) ?_ ?_⟩
      · refine A2.forget (s := s') (sl' := s'.sl) ?_ fun q x e => ⟨e, ?_⟩
        · have := A2.len
          rw [List.length_set] at this
          exact this
        · rw [List.getElem?_set, if_neg (fun z => hn x (by rw [z]; exact e))]
      · refine ⟨n2.at_, n2.rp, n2.g, n2.h0, n2.sp, fun q es e1' e2' => n2.no q es e1' ?_⟩
        rw [List.getElem?_set, if_neg (fun z => hn _ (by rw [z]; exact e1'))]
        exact e2'
  · cases e1
theorem fl_comp (i : Nat) {x : Str} {px : Pos} {elt iter : Expr} {ifs : List Expr} {scope : Scope} {it : LF} {t : TF} {f : EF} (hi : FI X C (.Name x px) iter it) (hc : X.calm = true) (hN : X.N.Nodup) (ok : BlkOk X.N X.env.scope scope [(x, i)])
    (hg : ∀ (s : Shared) (H : Hp) (C : Addr) (cl : List (Str × Addr)) (fp : List Addr), PG (X.blk s H scope (compEnvC scope cl C X.env) fp) (.Name x px) (gName i))
    (ht : ∃ tt, (∀ (s : Shared) (H : Hp) (C : Addr) (cl : List (Str × Addr)) (fp : List Addr), PTs (X.blk s H scope (compEnvC scope cl C X.env) fp) ifs tt) ∧ ∀ C', EvT X.K C' tt t)
    (he : ∃ te, (∀ (s : Shared) (H : Hp) (C : Addr) (cl : List (Str × Addr)) (fp : List Addr), PE (X.blk s H scope (compEnvC scope cl C X.env) fp) elt te) ∧ ∀ C', EvE X.K C' te f) (hs : ∀ x, foldedSetIterable iter X.env x = pure x := by intro _; rfl) :
    FL X C (.ListComp elt [⟨.Name x px, iter, ifs, 0⟩] scope pos) (lCp it i t f) := by
  obtain ⟨wi, p1, q1⟩ := hi
  obtain ⟨tt, p2, q2⟩ := ht
  obtain ⟨te, p3, q3⟩ := he
  exact ⟨_, pe_lc hc hN p1 ok hg p2 p3 hs, evLc q1 q2 q3⟩
theorem ev_yes {K : PySem.W.Frag} : EvT K C tYes tY := by
  intro G H σ s b s' A e Q k
  cases e
  exact k H G (Same.refl _) A
end
end FD

set_option maxRecDepth 100000
namespace FD
open PySem PySem.Spec PyProof.Rows L2

/-! ## x op= e -/
def sAug (i : Nat) (f : EF) (op : DV → DV → Option DV) : SF := fun s => match s.sl[i]? with
  | some (some (.dat d)) => match f s with
    | some (e, s1) => match op d e with
      | some z => some (.nx { s1 with sl := s1.sl.set i (some (.dat z)) })
      | none => none
    | none => none
  | _ => none
def dAddI : DV → DV → Option DV
  | .int i, .int j => some (.int (i + j))
  | _, _ => none
def dMulI : DV → DV → Option DV
  | .int i, .int j => if fitM i j then some (.int (i * j)) else none
  | _, _ => none
section
variable {X : Cx} {C : Cn} {e a b c : Expr} {es elts : List Expr} {pos p tpos : Pos} {f g h : EF}
theorem fs_aug (i : Nat) {x : Str} {o : Operator} {r : R2} {op : DV → DV → Option DV} {pos' : Pos} (hr : PIp X o r) (ho : Op2 X.K r op) (he : FE X C e f) (hN : X.N.Nodup) (hi : X.N[i]? = some x := by rfl) (hx : Loc X.env.scope x := by first | exact Or.inl rfl | exact Or.inr rfl) (hf : X.fn x = true ∨ X.env.scope.names.lookup x = some .local := by first | exact .inl rfl | exact .inr rfl | assumption) :
    FS X C (.AugAssign (.Name x pos') o e pos) (sAug i f op) := by
  obtain ⟨te, p, q⟩ := he
  refine ⟨_, ps_aug hN hi hx p hr hf, ?_⟩
  intro G H σ s o' A e1 D k
  unfold sAug at e1
  split at e1
  · rename_i d e0
    split at e1
    · rename_i e' s1 e2
      split at e1
      · rename_i z e3
        cases e1
        obtain ⟨w, ew, v, rfl, rv⟩ := A.slot e0
        refine ⟨v, ew, q G H σ s e' s1 A e2 _ fun y H1 G1 g1 A1 r1 => ?_⟩
        exact ho C G1 H1 σ s1 v y d e' z A1 (Rp.mono g1 d v rv) r1 e3 _ fun u H2 G2 F r2 => k _ H2 G2 (g1.trans F.g) ((A1.fw0 F).set_dat r2)
      · cases e1
    · cases e1
  · cases e1
theorem iop_mulX : OpR X (inplaceOp .Mult) (rI (fun i j => fitM i j = true) fun i j => .int (i * j)) := opI fun _ _ _ _ _ _ _ hc q => imul_int q (CallFit hc)
theorem iop_fdivX : OpR X (inplaceOp .FloorDiv) (rI (fun i j => j ≠ 0 ∧ j.natAbs.log2 < 9000) fun i j => .int (i.fdiv j)) := opI fun i j _ _ _ _ _ hc q => ifloordiv_int hc.1 q (.inl (PyProof.noPylong_of_log2 hc.2))
theorem o_addI {K : PySem.W.Frag} : Op2 K (rI0 fun i j => .int (i + j)) dAddI := o_int0 fun d e z h => by
  unfold dAddI at h
  split at h
  · cases h; exact ⟨_, _, rfl, rfl, fun _ => rfl⟩
  · cases h
theorem o_mulI {K : PySem.W.Frag} : Op2 K (rI (fun i j => fitM i j = true) fun i j => .int (i * j)) dMulI := o_int fun d e z h => by
  unfold dMulI at h
  split at h
  · split at h
    · rename_i hd
      cases h; exact ⟨_, _, rfl, rfl, hd, fun _ => rfl⟩
    · cases h
  · cases h
theorem fs_iadd (i : Nat) {x : Str} {pos' : Pos} (he : FE X C e f) (hN : X.N.Nodup) (hi : X.N[i]? = some x := by rfl) (hx : Loc X.env.scope x := by first | exact Or.inl rfl | exact Or.inr rfl) (hf : X.fn x = true ∨ X.env.scope.names.lookup x = some .local := by first | exact .inl rfl | exact .inr rfl | assumption) : FS X C (.AugAssign (.Name x pos') .Add e pos) (sAug i f dAddI) :=
  fs_aug i (r := rI0 fun i j => .int (i + j)) (fun pins s σ H x y v u Q I rx ry h => iop_add pins s σ H x y v u Q I rx ry h) o_addI he hN hi hx hf
theorem fs_isub (i : Nat) {x : Str} {pos' : Pos} (he : FE X C e f) (hN : X.N.Nodup) (hi : X.N[i]? = some x := by rfl) (hx : Loc X.env.scope x := by first | exact Or.inl rfl | exact Or.inr rfl) (hf : X.fn x = true ∨ X.env.scope.names.lookup x = some .local := by first | exact .inl rfl | exact .inr rfl | assumption) : FS X C (.AugAssign (.Name x pos') .Sub e pos) (sAug i f dSub) :=
  fs_aug i (r := rI0 fun i j => .int (i - j)) (fun pins s σ H x y v u Q I rx ry h => iop_sub pins s σ H x y v u Q I rx ry h) o_sub he hN hi hx hf
theorem fs_imul (i : Nat) {x : Str} {pos' : Pos} (he : FE X C e f) (hN : X.N.Nodup) (hi : X.N[i]? = some x := by rfl) (hx : Loc X.env.scope x := by first | exact Or.inl rfl | exact Or.inr rfl) (hf : X.fn x = true ∨ X.env.scope.names.lookup x = some .local := by first | exact .inl rfl | exact .inr rfl | assumption) : FS X C (.AugAssign (.Name x pos') .Mult e pos) (sAug i f dMulI) :=
  fs_aug i (r := rI (fun i j => fitM i j = true) fun i j => .int (i * j)) (fun pins s σ H x y v u Q I rx ry h => iop_mulX pins s σ H x y v u Q I rx ry h) o_mulI he hN hi hx hf
theorem fs_ifdiv (i : Nat) {x : Str} {pos' : Pos} (he : FE X C e f) (hN : X.N.Nodup) (hi : X.N[i]? = some x := by rfl) (hx : Loc X.env.scope x := by first | exact Or.inl rfl | exact Or.inr rfl) (hf : X.fn x = true ∨ X.env.scope.names.lookup x = some .local := by first | exact .inl rfl | exact .inr rfl | assumption) : FS X C (.AugAssign (.Name x pos') .FloorDiv e pos) (sAug i f dFdiv) :=
  fs_aug i (r := rI (fun i j => j ≠ 0 ∧ j.natAbs.log2 < 9000) fun i j => .int (i.fdiv j)) (fun pins s σ H x y v u Q I rx ry h => iop_fdivX pins s σ H x y v u Q I rx ry h) o_fdiv he hN hi hx hf
/-- a module's int -/
theorem fe_gint {x : Str} {i : Int} {t : Tok} (hm : X.mg x = some (.int i t)) (hg : Gl X x := by rfl) (hd : (x == ("__debug__" : Str)) = false := by decide) : FE X C (.Name x pos) (eC (.int i)) := ⟨_, pe_glob (v := .int i) hg hm ⟨t, rfl⟩ hd, evC fun _ => rfl⟩
end

/-! ## math.gcd, math.isqrt -/
theorem args_gcd3 (a b c : Value) : argsOk "math.gcd" ⟨[a, b, c], []⟩ := by unfold argsOk; kernel_rfl
theorem run_gcd3 (a : Int) (t : Tok) (b : Int) (u : Tok) (c : Int) (v : Tok) :
    Gives (Builtin.«math.gcd» ⟨[.int a t, .int b u, .int c v], []⟩) (.int (((((Nat.gcd 0 a.natAbs).gcd b.natAbs).gcd c.natAbs : Nat) : Int))) :=
  .of_wp fun M A E s Q h => by obtain ⟨hp, g, d, tk, os⟩ := s; wp_walk; exact ⟨_, rfl, h⟩
def dGcd : List DV → Option DV
  | [.int a, .int b] => some (.int ((Nat.gcd a.natAbs b.natAbs : Nat) : Int))
  | [.int a, .int b, .int c] => some (.int (((Nat.gcd a.natAbs b.natAbs).gcd c.natAbs : Nat) : Int))
  | _ => none
def rGcdX : List V → Hp → VK → Prop := fun vs H Q => (rGcd vs H Q) ∨ ∃ a b c : Int, vs = [.int a, .int b, .int c] ∧ Q (.int (((Nat.gcd a.natAbs b.natAbs).gcd c.natAbs : Nat) : Int)) H
theorem RpL.triple {K : PySem.W.Frag} {G : Hp} {vs : List V} {d d' d'' : DV} (h : RpL K G vs [d, d', d'']) : ∃ v v' v'', vs = [v, v', v''] ∧ Rp K G v d ∧ Rp K G v' d' ∧ Rp K G v'' d'' := by
  obtain ⟨v, r, e, h1, h2⟩ := h
  obtain ⟨w, w', rfl, h3, h4⟩ := h2.double
  exact ⟨v, w, w', e, h1, h3, h4⟩
section
variable {X : Cx} {C : Cn} {e a b c : Expr} {es elts : List Expr} {pos p tpos : Pos} {f g h : EF}
theorem cr_gcdX : CallR X (.builtin "math.gcd") rGcdX := by
  intro pins s σ H vs us Q I r h
  rcases h with h | ⟨a, b, c, rfl, q⟩
  · exact cr_gcd pins s σ H vs us Q I r h
  · cases r with
    | cons r1 r2 =>
      obtain ⟨u, w, e, r3, r4⟩ := vals2 r2
      subst e
      obtain ⟨t, rfl⟩ := r1
      obtain ⟨t', rfl⟩ := r3
      obtain ⟨t'', rfl⟩ := r4
      have gg := run_gcd3 a t b t' c t''
      rw [Nat.gcd_zero_left] at gg
      exact call_function_meets PySem.W.MGF.kind_gcd PySem.W.MGF.plain_gcd PySem.W.MGF.entry_gcd (args_gcd3 _ _ _) gg.meets ⟨.int _, H, I.tok _, ⟨_, rfl⟩, q⟩
theorem o_gcd {K : PySem.W.Frag} : OpA K rGcdX dGcd := by
  intro C G H σ s vs ds d A r ho Q q
  unfold dGcd at ho
  split at ho
  · cases ho
    obtain ⟨v, w, e, e1, e2⟩ := r.double
    rw [show v = .int _ from e1, show w = .int _ from e2] at e
    exact .inl ⟨_, _, e, q _ H G (Fw.refl A.gh) rfl⟩
  · cases ho
    obtain ⟨v, w, z, e, e1, e2, e3⟩ := r.triple
    rw [show v = .int _ from e1, show w = .int _ from e2, show z = .int _ from e3] at e
    exact .inr ⟨_, _, _, e, q _ H G (Fw.refl A.gh) rfl⟩
  · cases ho
theorem fe_gcd {ff : AF} (hm : X.mg "gcd" = some (.builtin "math.gcd")) (ha : FA X C (e :: es) ff) (hg : Gl X "gcd" := by rfl) (he : starEach (e :: es) X.env = (false, eval e X.env) :: starEach es X.env := by rfl) (hpl : (backTo pos (starEach es X.env)).any (·.1) = false := by rfl) :
    FE X C (.Call (.Name "gcd" p) (e :: es) [] pos) (eA ff dGcd) := fe_callM cr_gcdX o_gcd hm ha hg (he := he) (hpl := hpl)
def okSq (i : Int) : Bool := decide (0 ≤ i ∧ i.toNat.log2 < 13500)
def rSq : List V → Hp → VK → Prop := fun vs H Q => ∃ a : Int, vs = [.int a] ∧ okSq a = true ∧ Q (.int ((Float64.isqrt a.toNat : Nat) : Int)) H
theorem cr_sq : CallR X (.builtin "math.isqrt") rSq := by
  intro pins s σ H vs us Q I r h
  obtain ⟨a, rfl, ok, q⟩ := h
  obtain ⟨u, rfl, t, rfl⟩ := vals1 r
  obtain ⟨h0, h1⟩ := of_decide_eq_true ok
  exact call_function_meets PySem.W.MGF.kind_isqrt PySem.W.MGF.plain_isqrt PySem.W.MGF.entry_isqrt (PySem.W.MGF.args_isqrt _) (PySem.W.mg_run_isqrt a t (by omega) (by omega) (by omega)).meets ⟨.int _, H, I.tok _, ⟨_, rfl⟩, q⟩
def dSq : List DV → Option DV
  | [.int a] => if okSq a then some (.int ((Float64.isqrt a.toNat : Nat) : Int)) else none
  | _ => none
theorem o_sq {K : PySem.W.Frag} : OpA K rSq dSq := by
  intro C G H σ s vs ds d A r ho Q q
  unfold dSq at ho
  split at ho
  · split at ho
    · rename_i hk
      cases ho
      obtain ⟨v, e, e1⟩ := r.single
      rw [show v = .int _ from e1] at e
      exact ⟨_, e, hk, q _ H G (Fw.refl A.gh) rfl⟩
    · cases ho
  · cases ho
theorem fe_isqrt {ff : AF} (hm : X.mg "isqrt" = some (.builtin "math.isqrt")) (ha : FA X C [e] ff) (hg : Gl X "isqrt" := by rfl) (he : starEach [e] X.env = (false, eval e X.env) :: starEach [] X.env := by rfl) :
    FE X C (.Call (.Name "isqrt" p) [e] [] pos) (eA ff dSq) := fe_callM cr_sq o_sq hm ha hg (he := he)
end

/-! ## a def of the text, with all that its callers want -/
def DefOk (P : Program) (w : World) (K : PySem.W.Frag) (mg : Str → Option Value) (base : Heap) (k : Nat) (x : Str) (ps : List Str) (sp : Sp) : Prop :=
  ∃ f fd, FnG P w K mg base CX0 k f fd ps sp ∧ mg x = some (.ref f) ∧ PySem.W.keepIn K (.ref f) = true ∧ Binds K fd ps []
section
variable {X : Cx} {C : Cn} {e a b c : Expr} {es elts : List Expr} {pos p tpos : Pos} {f g h : EF}
theorem fe_def {op : List DV → Option DV} {k j : Nat} {ps : List Str} {x : Str} {ff : AF} (D : DefOk X.prog X.w X.K X.mg X.base j x ps (spP X.K op)) (hr : Rm k X.A) (hj : j ≤ k) (ha : FA X C (e :: es) ff) (hg : Gl X x := by rfl) (hdb : (x == ("__debug__" : Str)) = false := by decide) (he : starEach (e :: es) X.env = (false, eval e X.env) :: starEach es X.env := by rfl) (hpl : (backTo pos (starEach es X.env)).any (·.1) = false := by rfl) :
    FE X C (.Call (.Name x p) (e :: es) [] pos) (eA ff op) := by
  obtain ⟨fa, fd, F, hm, hk, hb⟩ := D
  exact fe_call (F.mono hj) hr hm hk hb ha hg hdb he hpl
theorem fe_defS (i : Nat) {op : List DV → Spl → Option (DV × Spl)} {k j : Nat} {ps : List Str} {x y : Str} {ff : AF} {py : Pos} (D : DefOk X.prog X.w X.K X.mg X.base j x ps (spS X.K op)) (hr : Rm k X.A) (hj : j ≤ k) (ha : FA X C es ff) (hg : Gl X x := by rfl) (hN : X.N[i]? = some y := by rfl) (hv : Vis X.env.scope y := by first | exact Or.inl rfl | exact Or.inr (Or.inl rfl) | exact Or.inr (Or.inr rfl)) (hd : (y == ("__debug__" : Str)) = false := by decide)
    (hcd : (y == ("__classdict__" : Str)) = false := by decide) (hdb : (x == ("__debug__" : Str)) = false := by decide) (he : starEach (.Name y py :: es) X.env = (false, eval (.Name y py) X.env) :: starEach es X.env := by rfl) (hpl : (backTo pos (starEach es X.env)).any (·.1) = false := by rfl) :
    FE X C (.Call (.Name x p) (.Name y py :: es) [] pos) (eS i ff op) := by
  obtain ⟨fa, fd, F, hm, hk, hb⟩ := D
  exact fe_callS i (F.mono hj) hr hm hk hb ha hg hN hv hd hcd hdb he hpl
end
/-- an int in a slot (0 where none is) -/
def slI (s : S) (i : Nat) : Int := match s.sl[i]? with
  | some (some (.dat (.int n))) => n
  | _ => 0
end FD

set_option maxRecDepth 100000
namespace FD
open PySem PySem.Spec PyProof.Rows L2

/-! ## a reading that serves in every context -/
def tU (K : PySem.W.Frag) (f : EF) : TE := fun σ H Q => ∃ C G s d s', Ab K C G H σ s ∧ f s = some (d, s') ∧ ∀ v H' G', Same G G' → Ab K C G' H' σ s' → Rp K G' v d → Q v H'
def tUt (K : PySem.W.Frag) (f : TF) : TT := fun σ H Q => ∃ C G s d s', Ab K C G H σ s ∧ f s = some (d, s') ∧ ∀ H' G', Same G G' → Ab K C G' H' σ s' → Q d H'
theorem pe_U {X : Cx} {e : Expr} {f : EF} (h : ∀ C, FE X C e f) : PE X e (tU X.K f) := by
  refine ⟨fun pins s σ H Q I z => ?_⟩
  obtain ⟨C, G, st, d, st', A, e1, k⟩ := z
  obtain ⟨te, p, q⟩ := h C
  exact p.run pins s σ H Q I (q G H σ st d st' A e1 Q k)
theorem pt_U {X : Cx} {e : Expr} {f : TF} (h : ∀ C, FT X C e f) : PT X e (tUt X.K f) := by
  refine ⟨fun pins s σ H Q I z => ?_⟩
  obtain ⟨C, G, st, d, st', A, e1, k⟩ := z
  obtain ⟨te, p, q⟩ := h C
  exact p.run pins s σ H Q I (q G H σ st d st' A e1 Q k)
theorem evU {K : PySem.W.Frag} {C : Cn} {f : EF} : EvE K C (tU K f) f := fun G H σ s d s' A e Q k => ⟨C, G, s, d, s', A, e, k⟩
theorem evUt {K : PySem.W.Frag} {C : Cn} {f : TF} : EvT K C (tUt K f) f := fun G H σ s d s' A e Q k => ⟨C, G, s, d, s', A, e, k⟩

section
variable {X : Cx} {C : Cn} {e a b c : Expr} {es elts : List Expr} {pos p tpos : Pos} {f g h : EF}
theorem evOwn {K : PySem.W.Frag} {te : TE} {i : Nat} {ff : LF} (q : EvL K C te ff) : EvS K C (tAsg te (gName i)) (sOwn i ff) := by
  intro G H σ s o A e1 D k
  unfold sOwn at e1
  split at e1
  · rename_i ds s1 e2
    cases e1
    exact q G H σ s ds s1 A e2 _ fun p vs H1 G1 g1 A1 n => k _ H1 G1 g1 (A1.set_own n.at_ n.rp n.g n.h0 n.sp n.no)
  · cases e1
theorem evSet {K : PySem.W.Frag} {te : TE} {i : Nat} {f : EF} (q : EvE K C te f) : EvS K C (tAsg te (gName i)) (sAsg f (gNm i)) := by
  intro G H σ s o A e1 D k
  unfold sAsg at e1
  split at e1
  · rename_i d s1 e2
    cases e1
    exact q G H σ s d s1 A e2 _ fun v H1 G1 g1 A1 r => k _ H1 G1 g1 (A1.set_dat r)
  · cases e1
theorem evFl {K : PySem.W.Frag} {te : TE} {ff : LF} (q : EvL K C te ff) : EvE K C te (eL ff) := by
  intro G H σ s d s' A e1 Q k
  unfold eL at e1
  split at e1
  · rename_i ds s1 e2
    cases e1
    refine q G H σ s ds _ A e2 _ fun p vs H1 G1 g1 A1 n => ?_
    obtain ⟨G2, g2, A2, r⟩ := A1.take_in n
    exact k _ H1 G2 (g1.trans g2) A2 r
  · cases e1
/-- [elt for x in iter], and as a name's list -/
theorem fl_lc (i : Nat) {x : Str} {px : Pos} {elt iter : Expr} {scope : Scope} {it : LF} {f : EF} (hc : X.calm = true) (hN : X.N.Nodup) (ok : BlkOk X.N X.env.scope scope [(x, i)]) (hi : FI X C (.Name x px) iter it)
    (hg : ∀ (s : Shared) (H : Hp) (C : Addr) (cl : List (Str × Addr)) (fp : List Addr), PG (X.blk s H scope (compEnvC scope cl C X.env) fp) (.Name x px) (gName i))
    (he : ∀ (s : Shared) (H : Hp) (Ca : Addr) (cl : List (Str × Addr)) (fp : List Addr) (C' : Cn), FE (X.blk s H scope (compEnvC scope cl Ca X.env) fp) C' elt f) (hs : ∀ x, foldedSetIterable iter X.env x = pure x := by intro _; rfl) :
    FL X C (.ListComp elt [⟨.Name x px, iter, [], 0⟩] scope pos) (lCp it i tY f) :=
  fl_comp i hi hc hN ok hg ⟨tYes, fun _ _ _ _ _ => pts_nil, fun _ => ev_yes⟩ ⟨tU X.K f, fun s H Ca cl fp => pe_U (he s H Ca cl fp), fun _ => evU⟩ hs
theorem fl_lcif (i : Nat) {x : Str} {px : Pos} {elt iter cnd : Expr} {scope : Scope} {it : LF} {f : EF} {t : TF} (hc : X.calm = true) (hN : X.N.Nodup) (ok : BlkOk X.N X.env.scope scope [(x, i)]) (hi : FI X C (.Name x px) iter it)
    (hg : ∀ (s : Shared) (H : Hp) (C : Addr) (cl : List (Str × Addr)) (fp : List Addr), PG (X.blk s H scope (compEnvC scope cl C X.env) fp) (.Name x px) (gName i))
    (ht : ∀ (s : Shared) (H : Hp) (Ca : Addr) (cl : List (Str × Addr)) (fp : List Addr) (C' : Cn), FT (X.blk s H scope (compEnvC scope cl Ca X.env) fp) C' cnd t)
    (he : ∀ (s : Shared) (H : Hp) (Ca : Addr) (cl : List (Str × Addr)) (fp : List Addr) (C' : Cn), FE (X.blk s H scope (compEnvC scope cl Ca X.env) fp) C' elt f) (hs : ∀ x, foldedSetIterable iter X.env x = pure x := by intro _; rfl) :
    FL X C (.ListComp elt [⟨.Name x px, iter, [cnd], 0⟩] scope pos) (lCp it i t f) :=
  fl_comp i hi hc hN ok hg ⟨tUt X.K t, fun s H Ca cl fp => pts_one (pt_U (ht s H Ca cl fp)), fun _ => evUt⟩ ⟨tU X.K f, fun s H Ca cl fp => pe_U (he s H Ca cl fp), fun _ => evU⟩ hs
theorem ps_lc {j : Nat} (i : Nat) {x y : Str} {px py spos : Pos} {elt iter : Expr} {scope : Scope} {it : LF} {f : EF} (hc : X.calm = true) (hN : X.N.Nodup) (hy : X.N[j]? = some y) (hyl : X.env.scope.names.lookup y = some .local)
    (hsw : swapsWith (.ListComp elt [⟨.Name x px, iter, [], 0⟩] scope pos) (some (.Name y py)) spos.line X.env = pure true) (ok : BlkOk X.N X.env.scope scope [(x, i)]) (hi : FI X C (.Name x px) iter it)
    (hg : ∀ (s : Shared) (H : Hp) (C : Addr) (cl : List (Str × Addr)) (fp : List Addr), PG (X.blk s H scope (compEnvC scope cl C X.env) fp) (.Name x px) (gName i))
    (he : ∀ (s : Shared) (H : Hp) (Ca : Addr) (cl : List (Str × Addr)) (fp : List Addr) (C' : Cn), FE (X.blk s H scope (compEnvC scope cl Ca X.env) fp) C' elt f) (hs : ∀ x, foldedSetIterable iter X.env x = pure x := by intro _; rfl) :
    ∃ te, PS X (.Assign [.Name y py] (.ListComp elt [⟨.Name x px, iter, [], 0⟩] scope pos) spos) (tAsg te (gName j)) ∧ EvL X.K C te (lCp it i tY f) := by
  obtain ⟨wi, p1, q1⟩ := hi
  exact ⟨_, ps_setLc hc hN hy hyl hsw p1 ok hg (fun _ _ _ _ _ => pts_nil) (fun s H Ca cl fp => pe_U (he s H Ca cl fp)) hs, evLc q1 (fun _ => ev_yes) (fun _ => evU)⟩
theorem fs_lco (j i : Nat) {x y : Str} {px py spos : Pos} {elt iter : Expr} {scope : Scope} {it : LF} {f : EF} (hc : X.calm = true) (hN : X.N.Nodup) (ok : BlkOk X.N X.env.scope scope [(x, i)]) (hi : FI X C (.Name x px) iter it)
    (hg : ∀ (s : Shared) (H : Hp) (C : Addr) (cl : List (Str × Addr)) (fp : List Addr), PG (X.blk s H scope (compEnvC scope cl C X.env) fp) (.Name x px) (gName i))
    (he : ∀ (s : Shared) (H : Hp) (Ca : Addr) (cl : List (Str × Addr)) (fp : List Addr) (C' : Cn), FE (X.blk s H scope (compEnvC scope cl Ca X.env) fp) C' elt f) (hy : X.N[j]? = some y := by rfl) (hyl : X.env.scope.names.lookup y = some .local := by rfl)
    (hsw : swapsWith (.ListComp elt [⟨.Name x px, iter, [], 0⟩] scope pos) (some (.Name y py)) spos.line X.env = pure true := by exact sw_true rfl rfl rfl (by decide +kernel)) (hs : ∀ x, foldedSetIterable iter X.env x = pure x := by intro _; rfl) :
    FS X C (.Assign [.Name y py] (.ListComp elt [⟨.Name x px, iter, [], 0⟩] scope pos) spos) (sOwn j (lCp it i tY f)) :=
  let ⟨_, p, q⟩ := ps_lc i hc hN hy hyl hsw ok hi hg he hs; ⟨_, p, evOwn q⟩
theorem fs_lcd (j i : Nat) {x y : Str} {px py spos : Pos} {elt iter : Expr} {scope : Scope} {it : LF} {f : EF} (hc : X.calm = true) (hN : X.N.Nodup) (ok : BlkOk X.N X.env.scope scope [(x, i)]) (hi : FI X C (.Name x px) iter it)
    (hg : ∀ (s : Shared) (H : Hp) (C : Addr) (cl : List (Str × Addr)) (fp : List Addr), PG (X.blk s H scope (compEnvC scope cl C X.env) fp) (.Name x px) (gName i))
    (he : ∀ (s : Shared) (H : Hp) (Ca : Addr) (cl : List (Str × Addr)) (fp : List Addr) (C' : Cn), FE (X.blk s H scope (compEnvC scope cl Ca X.env) fp) C' elt f) (hy : X.N[j]? = some y := by rfl) (hyl : X.env.scope.names.lookup y = some .local := by rfl)
    (hsw : swapsWith (.ListComp elt [⟨.Name x px, iter, [], 0⟩] scope pos) (some (.Name y py)) spos.line X.env = pure true := by exact sw_true rfl rfl rfl (by decide +kernel)) (hs : ∀ x, foldedSetIterable iter X.env x = pure x := by intro _; rfl) :
    FS X C (.Assign [.Name y py] (.ListComp elt [⟨.Name x px, iter, [], 0⟩] scope pos) spos) (sAsg (eL (lCp it i tY f)) (gNm j)) :=
  let ⟨_, p, q⟩ := ps_lc i hc hN hy hyl hsw ok hi hg he hs; ⟨_, p, evSet (evFl q)⟩
end

/-! ## the spool made, the law -/
/-- a def that hands back a new list -/
def spN (K : PySem.W.Frag) (f : List DV → Option (List DV)) : Sp := fun vs H Q _ => ∃ G ds es, Same G H ∧ RpL K G vs ds ∧ f ds = some es ∧ ∀ p us H' G', Fw G H G' H' none → H' p = some (.lst us) → RpL K G' us es → G' p = none → H p = none → Q (.ref p) H'
def bodyN (n m : Nat) (g1 g2 : SF) (f : LF) : List DV → Option (List DV) := fun ds =>
  if ds.length = n then match g1 ⟨ds.map (fun d => some (.dat d)) ++ List.replicate (m - n) none, spl0⟩ with
    | some (.nx s1) => match g2 s1 with
      | some (.nx s2) => match f s2 with
        | some (es, _) => some es
        | none => none
      | _ => none
    | _ => none
  else none
section
variable {P : Program} {w : World} {K : PySem.W.Frag} {mg : Str → Option Value} {base : Heap}
theorem fn_new {x qual : Str} {params : Arguments} {body : List Stmt} {scope : Scope} {dvs : List V} {kws : List (Str × V)} {f : Addr} {fd : FuncData} {N ps : List Str} {k : Nat} {g1 g2 : SF} {ff : LF} {s1 s2 : Stmt} {e : Expr} {pos : Pos} (F : FunD K x qual params body scope dvs kws f fd) (Sc : FnScope N ps scope) (hbd : body = [s1, s2, .Return (some e) pos])
    (h : ∀ (C : Cn) (cdv : Value) (A : Around) (outer : List Env) (s : Shared) (H : Hp) (E : XK), Rm k (A.deeper (envOfC qual scope s.heap.objs.size f cdv)) →
      FS (cxOf CX0 P w K mg base N qual scope f cdv A outer s H E).nox C s1 g1 ∧ FS (cxOf CX0 P w K mg base N qual scope f cdv A outer s H E).nox C s2 g2 ∧ FL (cxOf CX0 P w K mg base N qual scope f cdv A outer s H E).nox C e ff) :
    FnG P w K mg base CX0 (k + 1) f fd ps (spN K (bodyN ps.length N.length g1 g2 ff)) := by
  refine okG F Sc (fun vs H Q E h => ?_) (fun cdv A outer s H vs Q E hr hsp => ?_)
  · obtain ⟨G, ds, d, _, r, e, _⟩ := h
    unfold bodyN at e
    split at e
    · rename_i hl
      rw [r.length, hl]
    · cases e
  · obtain ⟨G, ds, es, g0, r, e, q⟩ := hsp
    unfold bodyN at e
    split at e
    · rename_i hl
      obtain ⟨⟨t1, p1, q1⟩, ⟨t2, p2, q2⟩, ⟨t3, p3, q3⟩⟩ := h ⟨G, H, none, noW⟩ cdv A outer s H E hr
      have A0 := ab_start (K := K) (W := noW) g0 r (N.length - ps.length) spl0
      have es' : L2.start N vs = vs.map some ++ List.replicate (N.length - ps.length) none := by
        unfold L2.start
        rw [r.length, hl]
      rw [hbd]
      refine ⟨_, (pss_cons p1 (pss_cons p2 (pss_one (ps_ret p3)))).nox, ?_⟩
      rw [es']
      split at e
      · rename_i sa e1
        split at e
        · rename_i sb e2
          split at e
          · rename_i es'' sc e3
            cases e
            refine q1 G H _ _ _ A0 e1 _ ?_
            intro σ1 H1 G1 g1' A1
            refine q2 G1 H1 _ _ _ A1 e2 _ ?_
            intro σ2 H2 G2 g2' A2
            refine q3 G2 H2 _ _ _ _ A2 e3 _ ?_
            intro p us H3 G3 g3 A3 n
            exact q p us H3 G3 ⟨(g1'.trans g2').trans g3, A3.gh, fun b o e n => A3.fr b o e n, A3.gn⟩ n.at_ n.rp n.g n.h0
          · cases e
        · cases e
      · cases e
    · cases e
/-- the law: it draws from a spool that it makes of the script -/
def spLaw (K : PySem.W.Frag) : Sp := fun vs H Q _ => ∃ (a : Addr) (ns : List Int), vs = [.ref a] ∧ SqL K H a (ns.map V.int) ∧ ns.length ≤ 63 ∧ ∀ H', Q (.bl true) H'
theorem fn_law {x qual : Str} {params : Arguments} {body rest : List Stmt} {scope : Scope} {dvs : List V} {kws : List (Str × V)} {f : Addr} {fd : FuncData} {N : List Str} {k : Nat} {g : SF} {e : Expr} {pos p1 : Pos} {y : Str} (sf : List Int → Option (List Int)) (F : FunD K x qual params body scope dvs kws f fd) (Sc : FnScope N ["script"] scope) (hbd : body = .Assign [.Name y p1] e pos :: rest)
    (h1 : ∀ (C : Cn) (cdv : Value) (A : Around) (outer : List Env) (s : Shared) (H : Hp) (E : XK), Rm k (A.deeper (envOfC qual scope s.heap.objs.size f cdv)) →
      PS (cxOf CX0 P w K mg base N qual scope f cdv A outer s H E).nox (.Assign [.Name y p1] e pos) (tAsg (tCall (spN K fun ds => match ds with
        | [.scr ns] => (sf ns).map fun nums => [.lst (nums.map .int), .int 0, .int 0, .int 0]
        | _ => none) [] E0 (tCons (tVar 0) tNil)) (gName 1)))
    (h2 : ∀ (C : Cn) (cdv : Value) (A : Around) (outer : List Env) (s : Shared) (H : Hp) (E : XK), Rm k (A.deeper (envOfC qual scope s.heap.objs.size f cdv)) → FSs (cxOf CX0 P w K mg base N qual scope f cdv A outer s H E).nox C rest g)
    (hN : 2 ≤ N.length)
    (hm : ∀ ns : List Int, ns.length ≤ 63 → ∃ nums s', sf ns = some nums ∧ g ⟨some (.dat (.scr ns)) :: some .spl :: List.replicate (N.length - 2) none, ⟨nums, 0, 0, 0⟩⟩ = some (.rt (.bl true) s')) :
    FnG P w K mg base CX0 (k + 1) f fd ["script"] (spLaw K) := by
  refine okG F Sc (fun vs H Q E h => ?_) (fun cdv A outer s H vs Q E hr hsp => ?_)
  · obtain ⟨a, ns, rfl, _⟩ := h
    rfl
  · obtain ⟨a, ns, rfl, hS, hl, q⟩ := hsp
    obtain ⟨nums, s', e1, e2⟩ := hm ns hl
    rw [hbd]
    have P1 := h1 ⟨H, H, none, noW⟩ cdv A outer s H E hr
    have P2 : PSs (cxOf CX0 P w K mg base N qual scope f cdv A outer s H E).nox rest (fun D σ H1 => ∃ C t, PSs (cxOf CX0 P w K mg base N qual scope f cdv A outer s H E).nox rest t ∧ EvS K C t g ∧ t D σ H1) := by
      refine ⟨fun pins s1 σ H1 D I z => ?_⟩
      obtain ⟨C, t, p, _, z⟩ := z
      exact p.run pins s1 σ H1 D I z
    refine ⟨_, (pss_cons P1 P2).nox, ?_⟩
    obtain ⟨n, hn⟩ : ∃ n, N.length = n + 2 := ⟨N.length - 2, by omega⟩
    have es : L2.start N [.ref a] = some (.ref a) :: none :: List.replicate n none := by
      unfold L2.start
      rw [hn]
      show some (V.ref a) :: List.replicate (n + 2 - 1) none = _
      rw [show n + 2 - 1 = n + 1 by omega, List.replicate_succ]
    rw [es]
    rw [hn, show n + 2 - 2 = n by omega] at e2
    refine ⟨.ref a, rfl, ?_⟩
    refine ⟨H, [.scr ns], [.lst (nums.map .int), .int 0, .int 0, .int 0], Same.refl _, RpL.one ⟨a, rfl, hS⟩, (by show (sf ns).map _ = _; rw [e1]; rfl), fun p us H' G' F' hp rp gp hp0 => ?_⟩
    obtain ⟨t, pt, qt⟩ := h2 ⟨G', H', some p, noW⟩ cdv A outer s H E hr
    refine ⟨⟨G', H', some p, noW⟩, t, pt, qt, ?_⟩
    obtain ⟨v0, r0, rfl, h0, rp1⟩ := rp
    obtain ⟨v1, r1, rfl, h1', rp2⟩ := rp1
    obtain ⟨v2, r2, rfl, h2', rp3⟩ := rp2
    obtain ⟨v3, r3, rfl, h3', rp4⟩ := rp3
    obtain ⟨nb, us0, rfl, h3, h4⟩ := h0
    have e1' : v1 = .int 0 := h1'
    have e2' : v2 = .int 0 := h2'
    have e3' : v3 = .int 0 := h3'
    have e4' : r3 = [] := rp4
    subst e1' e2' e3' e4'
    refine qt G' H' _ _ (s := ⟨some (.dat (.scr ns)) :: some .spl :: List.replicate n none, ⟨nums, 0, 0, 0⟩⟩) ⟨F'.gh, fun b o e n => e, Same.refl _, fun b _ => rfl, ?_, ?_, ?_, ?_⟩ e2 _ ?_
    · simp
    · intro i v x q1 q2
      match i with
      | 0 =>
        cases q1
        cases q2
        exact ⟨_, rfl, a, rfl, F'.g.seq hS⟩
      | 1 =>
        cases q1
        cases q2
        exact ⟨p, rfl, rfl⟩
      | i + 2 =>
        have q3 : (List.replicate n (none : Option SV))[i]? = some x := by simpa using q2
        rw [List.getElem?_replicate] at q3
        split at q3
        · cases q3
          trivial
        · cases q3
    · intro i j b ds fs _ q1
      exfalso
      match i with
      | 0 => cases q1
      | 1 => cases q1
      | i + 2 =>
        have q3 : (List.replicate n (none : Option SV))[i]? = some (some (.own ds)) := by simpa using q1
        rw [List.getElem?_replicate] at q3
        split at q3 <;> cases q3
    · exact ⟨gp, nb, hp, ⟨nb, us0, rfl, h3, h4⟩⟩
    · intro v σ' H2 G2 g2 A2 rv
      have ev : v = .bl true := rv
      subst ev
      exact q H2
end
end FD

set_option maxRecDepth 100000
namespace FD
open PySem PySem.Spec PyProof.Rows L2
/-! ## the head's facts, and one more Bool over the written part -/
abbrev AlX : Type := He.AlD × Bool
def fragX (n : Nat) (g : Addr → Option Obj) : PySem.W.Frag := He.frG g (cStatics :: He.asD g n)
def obsX (n : Nat) (fa : List He.Fa) (fn : List He.DefD) (ex : PySem.W.Frag → Bool) (g : Addr → Option Obj) : AlX := (He.obsD fa fn (fragX n g), ex (fragX n g))
def hookX (n : Nat) (fa : List He.Fa) (fn : List He.DefD) (ex : PySem.W.Frag → Bool) : PySem.W.Hook where
  α := AlX
  obs := fun s => obsX n fa fn ex s.heap.get?
  val := fun _ => (He.valD fn, true)
  says := fun _ h => ∃ K : PySem.W.Frag, K.In h ∧ He.SaysD fa fn K ∧ ex K = true
  of := fun _ _ e => ⟨_, He.frG_in, congrArg (fun z : AlX => z.1) e, congrArg (fun z : AlX => z.2) e⟩
  keeps := fun _ _ _ ⟨K, hK, c⟩ k => ⟨K, PySem.W.Frag.In.keeps hK k, c⟩
def obT (n : Nat) (fa : List He.Fa) (fn : List He.DefD) (ex : PySem.W.Frag → Bool) (s : PySem.W.SharedT) : AlX := obsX n fa fn ex (HandSHeadRun.getT s)
theorem obT_eq (n : Nat) (fa : List He.Fa) (fn : List He.DefD) (ex : PySem.W.Frag → Bool) (s : PySem.W.SharedT) : obT n fa fn ex s = (hookX n fa fn ex).obs s.abs := by
  have e : HandSHeadRun.getT s = s.abs.heap.get? := funext (HandSHeadRun.getT_eq s)
  show obsX n fa fn ex (HandSHeadRun.getT s) = obsX n fa fn ex s.abs.heap.get?
  rw [e]
/-- a global that stands for a built-in of a module -/
def bltB (x : Str) (id : String) (K : PySem.W.Frag) : Bool := decide (PySem.W.nsIn K mainGlobals x = some (some (.builtin id)))
theorem blt_ok {K : PySem.W.Frag} {h : Heap} {mg : Str → Option Value} (X : K.In h) (G : h.Ns mainGlobals mg) {x : Str} {id : String} (c : bltB x id K = true) : mg x = some (.builtin id) := PySem.W.mg_of X G (of_decide_eq_true c)
theorem def_ok {P : Program} {w : World} {K : PySem.W.Frag} {mg : Str → Option Value} {base : Heap} {k : Nat} {x : Str} {st : Stmt} {f : Addr} {fd : FuncData} {ps : List Str} {sp : Sp} (F : L2.FunD K x x (defArgs st) (defBody st) (defScope st) [] [] f fd)
    (g : mg x = some (.ref f)) (ok : FnG P w K mg base CX0 k f fd ps sp)
    (h : ∀ (kV doc pm : Value) (an : Option Addr) (cdv ct : Value) (us : List Value), us.length = ps.length → bindArgs (PySem.W.fnOf x x (defArgs st) (defBody st) (defScope st) .none kV doc pm an cdv ct) ⟨us, []⟩ = pure (ps.zip us)) :
    DefOk P w K mg base k x ps sp := ⟨f, fd, ok, g, F.kp, L2.FunD.bindsN F h⟩
end FD

set_option maxRecDepth 100000
namespace FD
open PySem PySem.Spec PyProof.Rows L2
/-! ## repr of data -/
def okShow (d : PyData) : Bool := d.showable && !d.hasDict && decide (d.depth ≤ 64) && decide (d.shown.length ≤ sizeLine)
def dRepr : List DV → Option DV
  | [d] => match toPy d with
    | some x => if okShow x then some (.str x.shown) else none
    | none => none
  | _ => none
def rRepr (K : PySem.W.Frag) : List V → Hp → VK → Prop := fun vs H Q => ∃ v d, vs = [v] ∧ Dp K H v d ∧ okShow d = true ∧ Q (.str d.shown) H
theorem okShow_parts {d : PyData} (h : okShow d = true) : d.showable = true ∧ d.hasDict = false ∧ d.depth ≤ 64 ∧ d.shown.length ≤ sizeLine := by
  unfold okShow at h
  simp only [Bool.and_eq_true, Bool.not_eq_true', decide_eq_true_eq] at h
  exact ⟨h.1.1.1, h.1.1.2, h.1.2, h.2⟩
section
variable {X : Cx} {C : Cn} {e : Expr} {p pos : Pos} {fa : AF}
theorem call_reprD (hg : X.A.guards = some []) (hu : X.A.units + 66 < cLine) : CallR X (.builtin "repr") (rRepr X.K) := by
  intro pins s σ H xs us Q I r h
  obtain ⟨v, d, rfl, hd, hs, q⟩ := h
  obtain ⟨u, rfl, ru⟩ := vals1 r
  obtain ⟨s1, s2, s3, s4⟩ := okShow_parts hs
  obtain ⟨as, rd⟩ := Dp.reads I d v u hd ru
  have big : ∀ a : Addr, u = .ref a → wpAny (model X.prog X.w) X.A (call (.builtin "repr") [u]) (EP X pins σ Q) X.xe s := by
    intro a ea
    subst ea
    exact repr_of_reads' rd s1 (PyData.noDict_hsm s2) hg (by omega) (fun _ _ z => z) (fun h' t tk hk => ⟨.str d.shown, H, I.kept hk, ⟨t, rfl⟩, q⟩) s4
  cases hd with
  | non =>
    cases ru
    exact PySem.P.repr_of_none ⟨.str _, H, I.tok _, ⟨_, rfl⟩, q⟩
  | bl b =>
    cases ru
    exact PySem.P.repr_of_bool ⟨.str _, H, I.tok _, ⟨_, by cases b <;> rfl⟩, q⟩
  | int i =>
    obtain ⟨t, rfl⟩ := ru
    exact PySem.P.repr_of_int (of_decide_eq_true s1) ⟨.str _, H, I.tok _, ⟨_, rfl⟩, q⟩
  | str x =>
    obtain ⟨t, rfl⟩ := ru
    exact PySem.P.repr_of_str ⟨.str _, H, I.tok _, ⟨_, rfl⟩, q⟩ s4
  | lst h1 h2 =>
    cases ru
    exact big _ rfl
  | tup h1 h2 =>
    cases ru
    exact big _ rfl
theorem o_repr : OpA X.K (rRepr X.K) dRepr := by
  intro C G H σ s vs ds d A r ho Q q
  unfold dRepr at ho
  split at ho
  · rename_i d0
    split at ho
    · rename_i x hx
      split at ho
      · rename_i hs
        cases ho
        obtain ⟨v, rfl, rv⟩ := r.single
        exact ⟨v, x, rfl, Rp.dp A.gh d0 v x rv hx, hs, q _ H G (Fw.refl A.gh) rfl⟩
      · cases ho
    · cases ho
  · cases ho
theorem fe_repr {k : Nat} (hr : Rm k X.A) (hm : X.mg "repr" = none) (ha : FA X C [e] fa) (hg : Gl X "repr" := by rfl) (he : starEach [e] X.env = (false, eval e X.env) :: starEach [] X.env := by rfl) : FE X C (.Call (.Name "repr" p) [e] [] pos) (eA fa dRepr) :=
  fe_callB (call_reprD hr.gd (by have := hr.rm.un; omega)) o_repr hm (by decide +kernel) ha hg (he := he)
end
end FD

set_option maxRecDepth 100000
set_option maxHeartbeats 4000000
namespace FD
open PySem PySem.Spec PyProof.Rows L2
/-! ## an exception that was caught, kept as a value -/
theorem exK_ok {P : Program} {w : World} {H : Hp} {h : Heap} {a : Addr} {cls : Value} {d : Option Addr} {oe : Obj} {vs : Array Value} (e : h.get? a = some oe) (z : Zc cls d oe) (hd : oe.data = .fields vs) : ObjOk P w H h a (ExK cls d a) :=
  ⟨⟨oe, vs, e, z, hd⟩, ⟨oe, e⟩, fun _ _ z k => let ⟨o, v, q, r⟩ := z; ⟨o, v, k o q, r⟩⟩
section
variable {X : Cx} {pins : List (Addr × Obj)} {σ : St} {H : Hp} {s : Shared}
/-- from now on the object at a is known as such -/
theorem Inv.known (I : Inv X pins σ H s) {a : Addr} {cls : Value} {d : Option Addr} {oe : Obj} {vs : Array Value} (ga : s.heap.get? a = some oe) (za : Zc cls d oe) (da : oe.data = .fields vs) (na : H a = none) (new : ∀ o, X.s_0.heap.get? a ≠ some o) (neL : a ≠ X.env.locals) (nop : ∀ p ∈ X.pn ++ pins, p.1 ≠ a) :
    Inv X pins σ (upd H a (ExK cls d a)) s := by
  have other : ∀ {b : Addr} {o : HO}, H b = some o → b ≠ a := fun q => ne_of_none q na
  have cell : ∀ x c, X.env.cells.lookup x = some c → c ≠ a := fun x c e z => by
    obtain ⟨v, o, q1, q2⟩ := I.cell x c e
    rw [z, ga] at q1
    cases q1
    rw [da] at q2
    cases q2
  exact {
    ok := I.ok, os := I.os, bare := I.bare, loc := I.loc, cell := I.cell, len := I.len
    base := {
      keep := I.base.keep, slot := I.base.slot, there := I.base.there
      free := fun b o q n hx => by
        have ne : b ≠ a := fun z => new o (by rw [← z]; exact q)
        rw [upd_ne ne]
        exact I.base.free b o q n hx
      tups := fun b xs q => by rw [upd_ne (other (I.base.tups b xs q))]; exact I.base.tups b xs q
      frzs := fun b o u q => by rw [upd_ne (other (I.base.frzs b o u q))]; exact I.base.frzs b o u q
      tbls := fun b ps q => by
        obtain ⟨more, e⟩ := I.base.tbls b ps q
        exact ⟨more, by rw [upd_ne (other e)]; exact e⟩ }
    free := by rw [upd_ne neL.symm]; exact I.free
    freeC := fun x c e => by rw [upd_ne (cell x c e)]; exact I.freeC x c e
    pin := fun p hp => by
      obtain ⟨e1, e2, e3⟩ := I.pin p hp
      exact ⟨e1, by rw [upd_ne (nop p hp)]; exact e2, e3⟩
    hok := HOk.laidN I.hok (fun _ _ q => q) na (exK_ok ga za da) }
end
/-- the wish of a clause that always catches, and whose suite goes on behind itself -/
def wKeep (K : PySem.W.Frag) (c : Value) (i : Nat) (ts : Addr → Value → Option Addr → TS) (D : Ends) : WX := fun cls d σ H =>
  PySem.W.exmOne K cls c = some true ∧ ∀ a, H a = none →
    ts a cls d { nx := fun σ1 H1 => H1 a = none → D.nx (σ1.set i none) (upd H1 a (ExK cls d a)), rt := fun _ _ => False, bk := fun _ _ => False, ct := fun _ _ => False } (σ.set i (some (.ref a))) H
section
variable {X : Cx} {x n : Str} {c : Value} {i : Nat} {body suite : List Stmt} {st : Stmt} {np pos pos2 : Pos} {tb : WX → TS} {ts : Addr → Value → Option Addr → TS}
theorem ps_try_keep (hex : X.ex = []) (hs : X.stack = X.env :: X.outer) (hf : X.env.frame = some X.env.locals) (hN : X.N.Nodup) (hi : X.N[i]? = some n) (hln : X.env.kindOf n = some .local) (hc : Names X x c)
    (hb : ∀ (W : WX) (pn : List (Addr × Obj)) (xe : Value → Shared → Prop), Takes (X.tr pn xe) W → PassesOwn (model X.prog X.w) X.A X.env xe → PSs (X.tr pn xe) body (tb W))
    (hsu : ∀ (a : Addr) (oe : Obj) (cls : Value) (d : Option Addr) (pn : List (Addr × Obj)), PSs (X.suite a ((a, oe) :: pn)) (st :: suite) (ts a cls d)) :
    PS X (.Try body [.ExceptHandler (some (.Name x np)) (some n) (st :: suite) pos2] [] [] pos) (fun D σ H => tb (wKeep X.K c i ts D) D σ H) where
  run := by
    intro pins s σ H D I want
    let hdl : List ExceptHandler := [.ExceptHandler (some (.Name x np)) (some n) (st :: suite) pos2]
    have frames : X.A.frames = some (X.env :: X.outer) := hs ▸ I.ok.frames
    -- what is done with an exception
    let onX : Value → Shared → Prop := fun e t => wpAny (model X.prog X.w) X.A (noteFrame e X.env) (fun _ t2 => wpAny (model X.prog X.w) X.A (setFlight e none) (fun _ t3 => wpAny (model X.prog X.w) X.A (handleBy e X.env hdl) (SP X pins D) X.xe t3) X.xe t2) X.xe t
    have catches : Takes (X.tr (X.pn ++ pins) onX) (wKeep X.K c i ts D) := by
      rintro u t ⟨a, B, sI, pl, σ1, H1, cls, d, rfl, I1, nbk, upp, sk, noA, oss, bare, hm, go⟩
      have J : Inv X pins σ1 H1 sI := I1.ofTry I.ok
      -- the address is a new one, and no frame's
      have fresh : ∀ {b : Addr} {o : Obj}, B.get? a = none → sI.heap.get? b = some o → b ∉ frs X.stack → b ≠ a := fun e q k z => by
        rw [z] at q k
        rw [nbk a _ q k] at e
        cases e
      have Sk : Sky B (X.env :: X.outer) a (Zc cls d) X.env.locals t.heap := hs ▸ sk
      refine Sky.land Zc.steady frames hf Sk fun hp fy uq => ?_
      have Ja : Inv X pins σ1 H1 { t with heap := hp } := J.landed nbk fy.1 (upp.trans uq) oss bare
      obtain ⟨oa, va, ga, za, da⟩ := fy.there
      have nofr : a ∉ frs X.stack := fun z => by
        rw [hs] at z
        obtain ⟨_, o, e1, e2⟩ := fy.2.2.1.mem z
        rw [show hp.get? a = some oa from ga] at e1
        cases e1
        exact e2 _ da
      have inFrs : ∀ b, b = X.env.locals ∨ b ∈ X.fs → b ∈ frs X.stack := fun b hb => by
        rw [hs]
        rcases hb with rfl | hb
        · exact List.mem_filterMap.mpr ⟨X.env, List.mem_cons_self, hf⟩
        · obtain ⟨z, hz, q⟩ := List.mem_filterMap.mp hb
          exact List.mem_filterMap.mpr ⟨z, List.mem_cons_of_mem _ hz, q⟩
      have neL : a ≠ X.env.locals := fun z => nofr (inFrs a (.inl z))
      have neF : a ∉ X.fs := fun z => nofr (inFrs a (.inr z))
      have Sa := Ja.suite ga da noA neL neF
      refine wpAny_handleBy_cons (codeAny_handlers_test ?_) (fun q => nomatch q)
      have look : wpAny (model X.prog X.w) (X.A.mark (some (.ref a))) (eval (.Name x np) X.env) (fun v t2 => v = c ∧ t2 = { t with heap := hp }) (fun _ _ => False) { t with heap := hp } := by
        obtain ⟨hg, hdbg, hm2 | ⟨hm2, hv, hnn⟩⟩ := hc
        · exact ld_glob (X := X.suite a ((a, oa) :: (X.pn ++ pins))) Sa hg hm2 ⟨rfl, rfl⟩ hdbg
        · exact ld_blt (X := X.suite a ((a, oa) :: (X.pn ++ pins))) Sa hg hm2 hv ⟨rfl, rfl⟩ hnn hdbg
      refine wpAny_mono look ?_ (fun _ _ z => False.elim z)
      rintro _ _ ⟨rfl, rfl⟩
      refine (PySem.W.exm_one (M := model X.prog X.w) Ja.kIn (fun A Q E s k q => wpAny_typeOf_ref (k _ _ ga) (by rw [za.1]; exact q)) hm).here ?_
      refine codeAny_handlers_suite_as (HandSPX.lands_againZ fy fun hq gy vq => ?_)
      have Jb : Inv X pins σ1 H1 { t with heap := hq } := J.landed nbk gy.1 ((upp.trans uq).trans vq) oss bare
      obtain ⟨ob, vb, gb, zb, db⟩ := gy.there
      have Sb := Jb.suite gb db noA neL neF
      refine store_ok (X := X.suite a ((a, ob) :: (X.pn ++ pins))) (v := .ref a) Sb hN hi (.inl hln) rfl (fun t4 S4 => ?_) (.inr hln)
      refine wpAny_mono ((hsu a ob cls d (X.pn ++ pins)).run [] t4 _ H1 _ S4 (go a noA)) (fun f t5 z => ?_) (fun _ _ z => False.elim z)
      match f, z with
      | .brk, ⟨_, _, _, q⟩ => exact False.elim q
      | .cont, ⟨_, _, _, q⟩ => exact False.elim q
      | .ret _, ⟨_, _, _, _, _, q⟩ => exact False.elim q
      | .next, ⟨σ5, H5, S5, q⟩ =>
        obtain ⟨g5, n5, _, _, _⟩ := S5.pin (a, ob) (List.mem_append_left _ List.mem_cons_self)
        have J5 : Inv X pins σ5 H5 t5 := S5.unsuite I.ok
        have new : ∀ o, X.s_0.heap.get? a ≠ some o := fun o e1 => by
          obtain ⟨o2, e2⟩ := J.base.there a o e1 (by rw [hex]; simp)
          exact fresh gy.2.1 e2 nofr rfl
        have K5 := Inv.known J5 (cls := cls) (d := d) g5 zb db n5 new neL fun p hp2 => by
          obtain ⟨e1, _, e3, e4, _⟩ := J.pin p hp2
          exact fresh gy.2.1 e1 fun z => (J.stkSub p.1 z |> List.mem_cons.mp).elim e3 e4
        exact gone_ok K5 hN hi hln fun t6 J6 => ⟨_, _, J6, q n5⟩
    refine wpAny_Try_except (wpAny_mono ((hb _ (X.pn ++ pins) onX catches PassesOwn.looking).run [] s σ H D (I.toTry _) want) (fun f t z => ?_) fun _ _ z => z)
    match f, z with
    | .next, ⟨σ1, H1, J, q⟩ => exact wpAny_execs_nil ⟨σ1, H1, J.ofTry I.ok, q⟩
    | .brk, ⟨σ1, H1, J, q⟩ => exact ⟨σ1, H1, J.ofTry I.ok, q⟩
    | .cont, ⟨σ1, H1, J, q⟩ => exact ⟨σ1, H1, J.ofTry I.ok, q⟩
    | .ret _, ⟨v, σ1, H1, J, r, q⟩ => exact ⟨v, σ1, H1, J.ofTry I.ok, r, q⟩
end
end FD

set_option maxRecDepth 100000
set_option maxHeartbeats 4000000
namespace FD
open PySem PySem.Spec PyProof.Rows L2
/-! ## defs that may raise -/
inductive Rz where
  | ok (d : DV) | er (c : Str)
def spR (K : PySem.W.Frag) (f : List DV → Option Rz) : Sp := fun vs H Q E => ∃ G ds z, Same G H ∧ RpL K G vs ds ∧ f ds = some z ∧ match z with
  | .ok d => ∀ v H' G', Fw G H G' H' none → Rp K G' v d → Q v H'
  | .er c => ∀ H' G', Fw G H G' H' none → E (.ref (He.ga K c)) none H'
def bodyR (n m : Nat) (g : SF) : List DV → Option Rz := fun ds =>
  if ds.length = n then match g ⟨ds.map (fun d => some (.dat d)) ++ List.replicate (m - n) none, spl0⟩ with
    | some (.rt d _) => some (.ok d)
    | some (.nx _) => some (.ok .non)
    | some (.er c _) => some (.er c)
    | _ => none
  else none
section
variable {P : Program} {w : World} {K : PySem.W.Frag} {mg : Str → Option Value} {base : Heap}
theorem fn_raise {x qual : Str} {params : Arguments} {body : List Stmt} {scope : Scope} {dvs : List V} {kws : List (Str × V)} {f : Addr} {fd : FuncData} {N ps : List Str} {k : Nat} {g : SF} (F : FunD K x qual params body scope dvs kws f fd) (Sc : FnScope N ps scope)
    (h : ∀ (C : Cn) (cdv : Value) (A : Around) (outer : List Env) (s : Shared) (H : Hp) (E : XK), C.sp = none → Takes (cxOf (L2.CX P w) P w K mg base N qual scope f cdv A outer s H E) C.W → Rm k (A.deeper (envOfC qual scope s.heap.objs.size f cdv)) → FSs (cxOf (L2.CX P w) P w K mg base N qual scope f cdv A outer s H E) C body g) :
    FnG P w K mg base (L2.CX P w) (k + 1) f fd ps (spR K (bodyR ps.length N.length g)) := by
  refine okG F Sc (fun vs H Q E h => ?_) (fun cdv A outer s H vs Q E hr hsp => ?_)
  · obtain ⟨G, ds, z, _, r, e, _⟩ := h
    unfold bodyR at e
    split at e
    · rename_i hl
      rw [r.length, hl]
    · cases e
  · obtain ⟨G, ds, z, g0, r, e, q⟩ := hsp
    unfold bodyR at e
    split at e
    · rename_i hl
      obtain ⟨t, p1, q1⟩ := h ⟨G, H, none, fun cls d _ H' => E cls d H'⟩ cdv A outer s H E rfl (takes_of rfl rfl rfl rfl) hr
      have A0 := ab_start (K := K) (W := fun cls d _ H' => E cls d H') g0 r (N.length - ps.length) spl0
      have es : L2.start N vs = vs.map some ++ List.replicate (N.length - ps.length) none := by
        unfold L2.start
        rw [r.length, hl]
      refine ⟨t, p1, ?_⟩
      rw [es]
      split at e
      · rename_i d' s' e1
        cases e
        refine q1 G H _ _ _ A0 e1 _ ?_
        exact fun v σ' H' G' g1 A1 rv => q v H' G' ⟨g1, A1.gh, fun b o e n => A1.fr b o e n, A1.gn⟩ rv
      · rename_i s' e1
        cases e
        refine q1 G H _ _ _ A0 e1 _ ?_
        exact fun σ' H' G' g1 A1 => q .non H' G' ⟨g1, A1.gh, fun b o e n => A1.fr b o e n, A1.gn⟩ rfl
      · rename_i c s' e1
        cases e
        refine q1 G H _ _ _ A0 e1 _ ?_
        exact fun σ' H' G' g1 A1 => q H' G' ⟨g1, A1.gh, fun b o e n => A1.fr b o e n, A1.gn⟩
      · cases e
    · cases e
end
/-! ## a call that may raise -/
inductive Ez where
  | ok (d : DV) (s : S) | er (c : Str) (s : S)
abbrev XF := S → Option Ez
def EvX (K : PySem.W.Frag) (C : Cn) (te : TE) (f : XF) : Prop := ∀ G H σ s z, Ab K C G H σ s → f s = some z → ∀ Q : VK, (match z with
  | .ok d s' => ∀ v H' G', Same G G' → Ab K C G' H' σ s' → Rp K G' v d → Q v H'
  | .er c s' => ∀ H' G', Same G G' → Ab K C G' H' σ s' → C.W (.ref (He.ga K c)) none σ H') →
  (match z with
  | .ok _ _ => True
  | .er _ _ => True) → te σ H Q
def FX (X : Cx) (C : Cn) (e : Expr) (f : XF) : Prop := ∃ te, PE X e te ∧ EvX X.K C te f
def eX (ff : AF) (op : List DV → Option Rz) : XF := fun s => match ff s with
  | some (ds, s1) => match op ds with
    | some (.ok d) => some (.ok d s1)
    | some (.er c) => some (.er c s1)
    | none => none
  | none => none
def DefR (P : Program) (w : World) (K : PySem.W.Frag) (mg : Str → Option Value) (base : Heap) (k : Nat) (x : Str) (ps : List Str) (sp : Sp) : Prop :=
  ∃ f fd, FnG P w K mg base (L2.CX P w) k f fd ps sp ∧ mg x = some (.ref f) ∧ PySem.W.keepIn K (.ref f) = true ∧ Binds K fd ps []
section
variable {X : Cx} {C : Cn} {k j : Nat} {f : Addr} {fd : FuncData} {ps : List Str} {sp : Sp} {x : Str} {p pos : Pos} {e : Expr} {es : List Expr} {t : TA} {op : List DV → Option Rz} {ff : AF} {i : Nat}
theorem pe_callGS {E : St → XK} (F : FnG X.prog X.w X.K X.mg X.base (L2.CX X.prog X.w) k f fd ps sp) (hr : Rm k X.A) (hg : Gl X x) (hm : X.mg x = some (.ref f)) (hk : PySem.W.keepIn X.K (.ref f) = true) (hb : Binds X.K fd ps []) (hx : ∀ σ, PassesAt (L2.CX X.prog X.w) X σ (E σ))
    (ha : PA X (e :: es) t) (hdb : (x == ("__debug__" : Str)) = false := by decide) (he : starEach (e :: es) X.env = (false, eval e X.env) :: starEach es X.env := by rfl) (hpl : (backTo pos (starEach es X.env)).any (·.1) = false := by rfl) : PE X (.Call (.Name x p) (e :: es) [] pos) (tCallS sp E t) where
  run := by
    intro pins s σ H Q I h
    refine wpAny_Call_Name_kw (ld_glob I hg hm (PySem.W.callWith_K (h₀ := X.base) I.ok.mod.kin hk ?_ he hpl) hdb)
    refine thn (ha.run pos pins s σ H _ I h) ?_
    rintro us s1 ⟨vs, H1, I1, rv, want⟩
    refine ⟨I1.kIn, ?_⟩
    have hl : us.length = ps.length := by rw [← rv.length]; exact F.len _ _ _ _ want
    have b := hb s1 us I1.kIn (by rw [List.append_nil]; exact hl)
    rw [List.append_nil] at b
    refine wpAny_call (codeAny_mono (F.run X.A X.stack s1 H1 ⟨us, []⟩ us vs Q (E σ) hr I1.env0 b rv want) fun r s' hq => ?_)
    match r, hq with
    | .error e, hq => exact hx σ pins H1 s1 e s' I1 hq
    | .ok (.ret u), hq => exact I1.after hq
    | .ok .next, hq => exact False.elim hq
    | .ok .brk, hq => exact False.elim hq
    | .ok .cont, hq => exact False.elim hq
theorem fx_def (D : DefR X.prog X.w X.K X.mg X.base j x ps (spR X.K op)) (tk : Takes X C.W) (hr : Rm k X.A) (hj : j ≤ k) (ha : FA X C (e :: es) ff) (hg : Gl X x := by rfl) (hdb : (x == ("__debug__" : Str)) = false := by decide) (he : starEach (e :: es) X.env = (false, eval e X.env) :: starEach es X.env := by rfl)
    (hpl : (backTo pos (starEach es X.env)).any (·.1) = false := by rfl) : FX X C (.Call (.Name x p) (e :: es) [] pos) (eX ff op) := by
  obtain ⟨fa, fd, F, hm, hk, hb⟩ := D
  obtain ⟨ta, p1, q1⟩ := ha
  refine ⟨_, pe_callGS (F.mono hj) hr hg hm hk hb (fun σ => passAt tk σ) p1 hdb he hpl, ?_⟩
  intro G H σ s z A e1 Q k _
  unfold eX at e1
  split at e1
  · rename_i ds s1 e2
    refine q1 G H σ s ds s1 A e2 _ fun vs H1 G1 g1 A1 r => ?_
    split at e1
    · rename_i d e3
      cases e1
      exact ⟨G1, ds, .ok d, A1.gh, r, e3, fun v H2 G2 F2 rv => k v H2 G2 (g1.trans F2.g) (A1.fw0 F2) rv⟩
    · rename_i c e3
      cases e1
      exact ⟨G1, ds, .er c, A1.gh, r, e3, fun H2 G2 F2 => k H2 G2 (g1.trans F2.g) (A1.fw0 F2)⟩
    · cases e1
  · cases e1
def sRtX (f : XF) : SF := fun s => match f s with
  | some (.ok d s1) => some (.rt d s1)
  | some (.er c s1) => some (.er c s1)
  | none => none
theorem fs_retX {f : XF} (h : FX X C e f) : FS X C (.Return (some e) pos) (sRtX f) := by
  obtain ⟨te, p1, q1⟩ := h
  refine ⟨_, ps_ret p1, ?_⟩
  intro G H σ s o A e1 D k
  unfold sRtX at e1
  split at e1
  · rename_i d s1 e2
    cases e1
    exact q1 G H σ s _ A e2 _ (fun v H1 G1 g1 A1 r => k v σ H1 G1 g1 A1 r) trivial
  · rename_i c s1 e2
    cases e1
    exact q1 G H σ s _ A e2 _ (fun H1 G1 g1 A1 => k σ H1 G1 g1 A1) trivial
  · cases e1
def sAsgX (f : XF) (i : Nat) : SF := fun s => match f s with
  | some (.ok d s1) => some (.nx { s1 with sl := s1.sl.set i (some (.dat d)) })
  | some (.er c s1) => some (.er c s1)
  | none => none
theorem fs_setX (i : Nat) {f : XF} {x : Str} {pos' : Pos} (h : FX X C e f) (hN : X.N.Nodup) (hi : X.N[i]? = some x := by rfl) (hx : Loc X.env.scope x := by first | exact Or.inl rfl | exact Or.inr rfl) (hs : swapsWith e (some (.Name x pos')) pos.line X.env = pure false := by rfl) (hf : X.fn x = true ∨ X.env.scope.names.lookup x = some .local := by first | exact .inl rfl | exact .inr rfl | assumption) :
    FS X C (.Assign [.Name x pos'] e pos) (sAsgX f i) := by
  obtain ⟨te, p1, q1⟩ := h
  refine ⟨_, ps_set hN hi hx p1 hs hf, ?_⟩
  intro G H σ s o A e1 D k
  unfold sAsgX at e1
  split at e1
  · rename_i d s1 e2
    cases e1
    exact q1 G H σ s _ A e2 _ (fun v H1 G1 g1 A1 r => k _ H1 G1 g1 (A1.set_dat r)) trivial
  · rename_i c s1 e2
    cases e1
    exact q1 G H σ s _ A e2 _ (fun H1 G1 g1 A1 => k σ H1 G1 g1 A1) trivial
  · cases e1
/-! ## raise X(e) -/
structure RzF (X : Cx) (x : Str) : Prop where
  gl : X.mg x = some (.ref (He.ga X.K x))
  ok : (He.Fa.exc x).ok X.K = true
def sRs (x : Str) (f : EF) : SF := fun s => match f s with
  | some (_, s1) => some (.er x s1)
  | none => none
theorem fs_raise {f : EF} {pos3 : Pos} (hc : X.calm = true) (R : RzF X x) (tk : Takes X C.W) (he : FE X C e f) (hg : Gl X x := by rfl) (hs : starEach [e] X.env = (false, eval e X.env) :: starEach [] X.env := by rfl) (hdb : (x == ("__debug__" : Str)) = false := by decide) :
    FS X C (.Raise (some (.Call (.Name x p) [e] [] pos)) none pos3) (sRs x f) := by
  obtain ⟨te, p1, q1⟩ := he
  obtain ⟨c1, c2, c3, c4⟩ := He.exc_ok R.ok
  refine ⟨_, ps_raise hc tk (SkE.pmk_own1 PySem.F.excBase_ValueError c1 R.gl c2 (raises_own c3 c4) hg p1 hs hdb), ?_⟩
  intro G H σ s o A e1 D k
  unfold sRs at e1
  split at e1
  · rename_i d s1 e2
    cases e1
    exact q1 G H σ s d s1 A e2 _ fun v H1 G1 g1 A1 r => k σ H1 G1 g1 A1
  · cases e1
end
/-! ## try: body, except x as n: y = n -/
def tbU (K : PySem.W.Frag) (g : SF) : WX → TS := fun W D σ H => ∃ C G s o, Ab K C G H σ s ∧ C.W = W ∧ g s = some o ∧ Kont K C G D o
theorem Ab.toW {K : PySem.W.Frag} {C : Cn} {G H : Hp} {σ : List (Option V)} {s : S} (A : Ab K C G H σ s) (W : Value → Option Addr → St → Hp → Prop) : Ab K { C with W := W } G H σ s := ⟨A.gh, A.fr, A.g0, A.gn, A.len, A.sl, A.dis, A.spk⟩
theorem Ab.ofW {K : PySem.W.Frag} {C : Cn} {G H : Hp} {σ : List (Option V)} {s : S} {W : Value → Option Addr → St → Hp → Prop} (A : Ab K { C with W := W } G H σ s) : Ab K C G H σ s := ⟨A.gh, A.fr, A.g0, A.gn, A.len, A.sl, A.dis, A.spk⟩
def sTry (kinds : List Str) (i j : Nat) (g : SF) : SF := fun s => match g s with
  | some (.er c s1) => if c ∈ kinds ∧ i < s1.sl.length then some (.nx { s1 with sl := (s1.sl.set j (some (.dat (.exc c)))).set i none }) else none
  | o => o
section
variable {X : Cx} {C : Cn} {x n y : Str} {body : List Stmt} {np pos pos2 pn pa py : Pos} {g : SF} {kinds : List Str}
theorem fs_try (i j : Nat) (hex : X.ex = []) (hs : X.stack = X.env :: X.outer) (hf : X.env.frame = some X.env.locals) (hN : X.N.Nodup) (hc : Names X x (.ref (He.ga X.K x))) (hk : ∀ c ∈ kinds, (He.Fa.exm c x true).ok X.K = true)
    (hb : ∀ (C' : Cn) (pn : List (Addr × Obj)) (xe : Value → Shared → Prop), Takes (X.tr pn xe) C'.W → PassesOwn (model X.prog X.w) X.A X.env xe → FSs (X.tr pn xe) C' body g)
    (hi : X.N[i]? = some n := by rfl) (hj : X.N[j]? = some y := by rfl) (hij : i ≠ j := by decide) (hln : X.env.kindOf n = some .local := by rfl) (hly : X.env.scope.names.lookup y = some .local := by rfl) (hv : Vis X.env.scope n := by first | exact Or.inl rfl | exact Or.inr (Or.inl rfl) | exact Or.inr (Or.inr rfl))
    (hd : (n == ("__debug__" : Str)) = false := by decide) (hcd : (n == ("__classdict__" : Str)) = false := by decide) (hsw : swapsWith (.Name n pn) (some (.Name y py)) pa.line X.env = pure false := by rfl) :
    FS X C (.Try body [.ExceptHandler (some (.Name x np)) (some n) [.Assign [.Name y py] (.Name n pn) pa] pos2] [] [] pos) (sTry kinds i j g) := by
  have body_ : ∀ (W : WX) (pl : List (Addr × Obj)) (xe : Value → Shared → Prop), Takes (X.tr pl xe) W → PassesOwn (model X.prog X.w) X.A X.env xe → PSs (X.tr pl xe) body (tbU X.K g W) := by
    intro W pl xe tk po
    refine ⟨fun pins s σ H D I z => ?_⟩
    obtain ⟨C', G, st, o, A, rfl, e, k⟩ := z
    obtain ⟨ts, p, q⟩ := hb C' pl xe tk po
    exact p.run pins s σ H D I (q G H σ st o A e D k)
  refine ⟨_, ps_try_keep (ts := fun _ _ _ => tAsg (tVar i) (gName j)) hex hs hf hN hi hln hc body_ (fun a oe cls d pl => pss_one (ps_set (X := X.suite a ((a, oe) :: pl)) hN hj (.inl hly) (pe_var hi hv hd hcd) hsw (.inr hly))), ?_⟩
  intro G H σ s o A e1 D k
  unfold sTry at e1
  have wk : ∀ c ∈ kinds, ∀ s1 : S, i < s1.sl.length → Kont X.K C G D (.nx { s1 with sl := (s1.sl.set j (some (.dat (.exc c)))).set i none }) →
      Kont X.K { C with W := wKeep X.K (.ref (He.ga X.K x)) i (fun _ _ _ => tAsg (tVar i) (gName j)) D } G D (.er c s1) := by
    intro c hcm s1 hlt k1 σ' H' G' g' A'
    refine ⟨He.exm_ok (hk c hcm), fun a na => ?_⟩
    refine ⟨.ref a, List.getElem?_set_self (by rw [A'.len]; exact hlt), fun na1 => ?_⟩
    have F := Fw.add (o := ExK (.ref (He.ga X.K c)) none a) A'.gh na
    have A2 := ((A'.ofW.fw0 F).set_dat (i := j) (v := .ref a) (d := .exc c) ⟨a, rfl, upd_same⟩).set_none i
    have e : ((σ'.set i (some (V.ref a))).set j (some (.ref a))).set i none = (σ'.set j (some (.ref a))).set i none := by
      rw [List.set_comm _ _ hij, List.set_set]
    show D.nx (((σ'.set i (some (V.ref a))).set j (some (.ref a))).set i none) _
    rw [e]
    exact k1 _ _ _ (g'.trans F.g) A2
  split at e1
  · rename_i c s1 e2
    split at e1
    · rename_i hcm
      cases e1
      exact ⟨{ C with W := wKeep X.K (.ref (He.ga X.K x)) i (fun _ _ _ => tAsg (tVar i) (gName j)) D }, G, s, _, A.toW _, rfl, e2, wk c hcm.1 s1 hcm.2 k⟩
    · cases e1
  · rename_i o' ne
    refine ⟨{ C with W := wKeep X.K (.ref (He.ga X.K x)) i (fun _ _ _ => tAsg (tVar i) (gName j)) D }, G, s, o, A.toW _, rfl, e1, ?_⟩
    match o, e1, k with
    | .nx s1, _, k => exact fun σ' H' G' g' A' => k σ' H' G' g' A'.ofW
    | .bk s1, _, k => exact fun σ' H' G' g' A' => k σ' H' G' g' A'.ofW
    | .ct s1, _, k => exact fun σ' H' G' g' A' => k σ' H' G' g' A'.ofW
    | .rt d s1, _, k => exact fun v σ' H' G' g' A' r => k v σ' H' G' g' A'.ofW r
    | .er c s1, e, _ => exact absurd e (ne c s1)
end
end FD
namespace FD
open PySem PySem.Spec PyProof.Rows L2
section
variable {P : Program} {w : World} {K : PySem.W.Frag} {mg : Str → Option Value} {base : Heap}
theorem FnG.toR {k : Nat} {f : Addr} {fd : FuncData} {ps : List Str} {f1 f2 : List DV → Option Rz} (F : FnG P w K mg base (L2.CX P w) k f fd ps (spR K f1)) (h : ∀ ds d, f2 ds = some d → f1 ds = some d) : FnG P w K mg base (L2.CX P w) k f fd ps (spR K f2) :=
  F.imp fun vs H Q E ⟨G, ds, z, g, r, e, q⟩ => ⟨G, ds, z, g, r, h ds z e, q⟩
theorem defR_ok {k : Nat} {x : Str} {st : Stmt} {f : Addr} {fd : FuncData} {ps : List Str} {sp : Sp} (F : L2.FunD K x x (defArgs st) (defBody st) (defScope st) [] [] f fd) (g : mg x = some (.ref f)) (ok : FnG P w K mg base (L2.CX P w) k f fd ps sp)
    (h : ∀ (kV doc pm : Value) (an : Option Addr) (cdv ct : Value) (us : List Value), us.length = ps.length → bindArgs (PySem.W.fnOf x x (defArgs st) (defBody st) (defScope st) .none kV doc pm an cdv ct) ⟨us, []⟩ = pure (ps.zip us)) : DefR P w K mg base k x ps sp :=
  ⟨f, fd, ok, g, F.kp, L2.FunD.bindsN F h⟩
end
end FD

set_option maxRecDepth 100000
set_option maxHeartbeats 4000000
namespace FD
open PySem PySem.Spec PyProof.Rows L2
/-! ## isinstance of a kept exception -/
def rIsK (K : PySem.W.Frag) : List V → Hp → VK → Prop := fun xs H Q => ∃ (a D : Addr) (c : V) (cv : Value) (b : Bool), xs = [.ref a, c] ∧ H a = some (ExK (.ref D) none a) ∧ ExcC K D ∧ (∀ u, RelV c u → u = cv) ∧ PySem.W.kitOne K (.ref D) cv = some b ∧ Q (.bl b) H
section
variable {X : Cx} {C : Cn} {e : Expr} {f : EF} {x : Str} {p pos pc : Pos}
theorem call_isK : CallR X (.builtin "isinstance") (rIsK X.K) := by
  intro pins s σ H xs us Q I r h
  obtain ⟨a, D, c, cv, b, rfl, ha, E, hc, hk, q⟩ := h
  match us, r with
  | [_, u], .cons rx (.cons rc .nil) =>
    cases rx
    obtain rfl := hc u rc
    obtain ⟨⟨oe, vs, g, ⟨z1, z2⟩, dt⟩, _⟩ := (show ObjOk X.prog X.w H s.heap a (ExK (.ref D) none a) from I.hok a _ ha)
    have J : PySem.W.InstAt s.heap a oe D none := by
      obtain ⟨oc, od, oda, osl⟩ := oe
      dsimp only at z1 z2 dt
      subst z1 z2 dt
      exact ⟨g, rfl, rfl, trivial⟩
    exact PySem.W.kia_one (PySem.W.handS_kitx_exc E.hg E.hk E.hs E.hd E.ha E.hn E.ht E.hm) I.kIn J hk (fun z => nomatch z) fun tk => ⟨.bl b, H, I.kept (t' := tk) fun _ _ z => z, rfl, q⟩
/-- of which classes an exception is -/
def dIsC (tab : List (Str × Bool)) : EF → EF := fun f s => match f s with
  | some (.exc c, s1) => match tab.lookup c with
    | some b => some (.bl b, s1)
    | none => none
  | _ => none
/-- as facts of the written part -/
def excB (c : Str) (K : PySem.W.Frag) : Bool :=
  decide (PySem.W.findIn K (.ref (He.ga K c)) "__getattribute__" = some (some (.builtin "BaseException.__getattribute__"))) && (decide (PySem.W.findIn K (.ref (He.ga K c)) "__getattr__" = some none) && (decide (PySem.W.subIn K (.ref (He.ga K c)) (.type "BaseException") = some true) && (PySem.W.hasDictIn K (He.ga K c) &&
  (decide (PySem.W.findIn K (.ref (He.ga K c)) "__class__" = some (some (.builtin "object.__class__"))) && (decide (PySem.W.specialIn K (.builtin "object.__class__") "__get__" = some (some (.builtin "getset_descriptor.__get__"))) && (decide (PySem.W.takesIn K (.builtin "object.__class__") = some true) && decide (PySem.W.mroIn K (He.ga K c) (.type "object") = some true)))))))
theorem excB_ok {c : Str} {K : PySem.W.Frag} (h : excB c K = true) : ExcC K (He.ga K c) := by
  unfold excB at h
  simp only [Bool.and_eq_true, decide_eq_true_eq] at h
  obtain ⟨h1, h2, h3, h4, h5, h6, h7, h8⟩ := h
  exact ⟨h1, h2, h3, h4, h5, h6, h7, h8⟩
def isaB (c x : Str) (b : Bool) (K : PySem.W.Frag) : Bool := decide (PySem.W.kitOne K (.ref (He.ga K c)) (.ref (He.ga K x)) = some b)
def isaT (c : Str) (T : String) (b : Bool) (K : PySem.W.Frag) : Bool := decide (PySem.W.kitOne K (.ref (He.ga K c)) (.type T) = some b)
theorem ev_isC {te : TE} {c : V} {cv : Value} {tab : List (Str × Bool)} (q1 : EvE X.K C te f) (hc : ∀ u, RelV c u → u = cv) (he : ∀ k ∈ tab, excB k.1 X.K = true ∧ PySem.W.kitOne X.K (.ref (He.ga X.K k.1)) cv = some k.2) : EvE X.K C (tCB (rIsK X.K) (tCons te (tCons (tC c) tNil))) (dIsC tab f) := by
  intro G H σ s d s' A e1 Q k
  unfold dIsC at e1
  split at e1
  · rename_i c0 s1 e2
    split at e1
    · rename_i b e3
      cases e1
      refine q1 G H σ s _ _ A e2 _ fun v H1 G1 g1 A1 r => ?_
      obtain ⟨a, rfl, ha⟩ := r
      have hm : (c0, b) ∈ tab := by
        clear he e2
        induction tab with
        | nil => cases e3
        | cons t ts ih =>
          rw [List.lookup_cons] at e3
          split at e3
          · rename_i hb
            cases e3
            rw [beq_iff_eq.mp hb]
            exact List.mem_cons_self
          · exact List.mem_cons_of_mem _ (ih e3)
      obtain ⟨h1, h2⟩ := he _ hm
      exact ⟨a, _, c, cv, b, rfl, A1.gh _ _ ha, excB_ok h1, hc, h2, k _ H1 G1 g1 A1 rfl⟩
    · cases e1
  · cases e1
theorem fe_isC {tab : List (Str × Bool)} (hm : X.mg "isinstance" = none) (gl : X.mg x = some (.ref (He.ga X.K x))) (ht : ∀ k ∈ tab, excB k.1 X.K = true ∧ isaB k.1 x k.2 X.K = true) (h : FE X C e f) (hg : Gl X "isinstance" := by rfl) (hx : Gl X x := by rfl) (hd : (x == ("__debug__" : Str)) = false := by decide)
    (hs : starEach [e, .Name x pc] X.env = (false, eval e X.env) :: starEach [.Name x pc] X.env := by rfl) (hs2 : starEach [.Name x pc] X.env = (false, eval (.Name x pc) X.env) :: starEach [] X.env := by rfl) (hpl : (backTo pos (starEach [.Name x pc] X.env)).any (·.1) = false := by rfl) :
    FE X C (.Call (.Name "isinstance" p) [e, .Name x pc] [] pos) (dIsC tab f) := by
  obtain ⟨te, p1, q1⟩ := h
  refine ⟨_, pe_callB call_isK hg hm (by decide +kernel) (pa_cons p1 (pa_cons (pe_glob (v := .ref (He.ga X.K x)) hx gl rfl hd) pa_nil hs2) hs) (he := hs) (hpl := hpl), ?_⟩
  exact ev_isC q1 (fun u ru => ru) fun k hk => ⟨(ht k hk).1, of_decide_eq_true (ht k hk).2⟩
theorem fe_isT {T : String} {tab : List (Str × Bool)} (hm : X.mg "isinstance" = none) (gl : X.mg x = none) (hb : bootBuiltins x = some (.type T)) (ht : ∀ k ∈ tab, excB k.1 X.K = true ∧ isaT k.1 T k.2 X.K = true) (h : FE X C e f) (hg : Gl X "isinstance" := by rfl) (hx : Gl X x := by rfl) (hd : (x == ("__debug__" : Str)) = false := by decide)
    (hn : x ≠ "__name__" := by decide) (hs : starEach [e, .Name x pc] X.env = (false, eval e X.env) :: starEach [.Name x pc] X.env := by rfl) (hs2 : starEach [.Name x pc] X.env = (false, eval (.Name x pc) X.env) :: starEach [] X.env := by rfl) (hpl : (backTo pos (starEach [.Name x pc] X.env)).any (·.1) = false := by rfl) :
    FE X C (.Call (.Name "isinstance" p) [e, .Name x pc] [] pos) (dIsC tab f) := by
  obtain ⟨te, p1, q1⟩ := h
  refine ⟨_, pe_callB call_isK hg hm (by decide +kernel) (pa_cons p1 (pa_cons (pe_bltn (v := .ty T) hx gl hb rfl hn hd) pa_nil hs2) hs) (he := hs) (hpl := hpl), ?_⟩
  exact ev_isC q1 (fun u ru => ru) fun k hk => ⟨(ht k hk).1, of_decide_eq_true (ht k hk).2⟩
end
end FD

set_option maxRecDepth 100000
set_option maxHeartbeats 4000000
namespace FD
open PySem PySem.Spec PyProof.Rows L2
/-! ## repr of data whose ints are long -/
mutual
def okW : PyData → Bool
  | .int i => decide (i.natAbs.log2 < 12900)
  | .list xs | .tuple xs => okWs xs
  | .dict _ => false
  | _ => true
def okWs : List PyData → Bool
  | [] => true
  | x :: xs => okW x && okWs xs
end
section
variable {prog : Program} {w : World} {A : Around} {E : Value → Shared → Prop} {s : Shared} {h0 : Heap}
theorem lt_pow {i : Int} (h : i.natAbs.log2 < 12900) : i.natAbs < 10 ^ 4300 := Nat.lt_of_lt_of_le (lt_of_log2 h) pow_lo
theorem repr_intW {i : Int} {t : Tok} {Q : Value → Shared → Prop} (hn : s.heap.NoDigits) (h : i.natAbs.log2 < 12900) (q : Q (.str (toString i) s.toks) { s with toks := s.toks + 1 }) : wpAny (model prog w) A (call (.builtin "int.__repr__") [.int i t]) Q E s := by
  refine wpAny_call (codeAny_call_builtin F.slot_int_repr.plain F.entry_int_repr (F.slot_int_repr.check _ _ _ _ _ _ _ _ (typeIs_int s i t) (F.args_int_repr_1 _) ?_))
  unfold Builtin.«int.__repr__»
  show wpAny _ _ (do let r ← Builtin.overDigitLimit? i; _) _ _ s
  refine wpAny_bind (overDigitLimit_any hn (fun hlt => wpAny_bind (wpAny_mkStr (wpAny_pure q) (int_text_fits10 hlt))) fun hge => ?_)
  exact absurd (lt_pow h) (Nat.not_lt.mpr hge)
theorem reprK_intW {i : Int} {t : Tok} (hn : h0.NoDigits) (h : i.natAbs.log2 < 12900) : ReprK prog w [] h0 0 (.int i t) (toString i) := by
  intro base hb A g E s Q _ _ hu hk q
  rw [pyReprUnder_leaf (v := .int i t) (by omega) (fun _ z => nomatch z)]
  unfold pyRepr
  refine wpAny_bind (wpAny_pyReprObj_slot (by omega) (typeIs_int s i t) F.slot_int_repr.toG (repr_intW (hn.keeps hk) h ⟨_, _, rfl, ?_⟩))
  exact wpAny_pure (q s.heap _ fun _ _ z => z)
mutual
theorem rkW (hn : h0.NoDigits) : ∀ {v : Value} {d : PyData} {as : List Addr}, Reads h0 v d as → okW d = true → d.shown.length ≤ sizeLine → ∃ bs, ReadAtMost h0 d.depth bs ∧ ReprK prog w bs h0 d.depth v d.shown
  | _, _, _, .none, _, _ => ⟨[], (fun _ h => nomatch h), .of_is ReprIs.none _ _ _⟩
  | _, _, _, .bool b, _, _ => ⟨[], (fun _ h => nomatch h), .of_is (ReprIs.bool b) _ _ _⟩
  | _, _, _, .int i t, hs, _ => ⟨[], (fun _ h => nomatch h), reprK_intW hn (by simpa [okW] using hs)⟩
  | _, _, _, .str x t, _, hz => ⟨[], (fun _ h => nomatch h), .of_is (ReprIs.str x t hz) _ _ _⟩
  | _, _, _, .dict _ _ _ _ _, hs, _ => by simp [okW] at hs
  | _, _, _, .tuple (xs := xs) h1 h2 h3 h4, hs, hz => by
    obtain ⟨bs, hb, hk⟩ := rksW hn h4 (by simpa [okW] using hs) fun t ht => Nat.le_trans (tupleText_mem_le ht) hz
    have r := Reads.tuple h1 h2 h3 h4
    have deeper : PyData.depthAll xs < (PyData.tuple xs).depth := Nat.lt_succ_self _
    exact ⟨_, ReadAtMost.cons r (Nat.le_of_lt deeper) hb, ReprK.tuple h1 h2 h3 (not_mem_of_deeper r deeper hb) hk⟩
  | _, _, _, .list (vs := vs) (xs := xs) h1 h2 h3 h4, hs, hz => by
    obtain ⟨bs, hb, hk⟩ := rksW hn h4 (by simpa [okW] using hs) fun t ht => Nat.le_trans (listText_mem_le ht) hz
    have r := Reads.list h1 h2 h3 h4
    have deeper : PyData.depthAll xs < (PyData.list xs).depth := Nat.lt_succ_self _
    refine ⟨_, ReadAtMost.cons r (Nat.le_of_lt deeper) hb, ?_⟩
    obtain ⟨l⟩ := vs
    match l, xs, h3, h4, hk with
    | [], _, h3, .nil, _ => exact ReprK.listEmpty h1 h2 h3
    | x :: l, xs, h3, h4, hk => exact ReprK.list h1 h2 h3 (not_mem_of_deeper r deeper hb) (by simpa using hk.length_eq) fun i y z => hk.item i y (by simpa using z)
theorem rksW (hn : h0.NoDigits) : ∀ {vs : List Value} {ds : List PyData} {as : List Addr}, ReadsAll h0 vs ds as → okWs ds = true → (∀ t ∈ PyData.shownAll ds, t.length ≤ sizeLine) → ∃ bs, ReadAtMost h0 (PyData.depthAll ds) bs ∧ ReprAllK prog w bs h0 (PyData.depthAll ds) vs (PyData.shownAll ds)
  | _, _, _, .nil, _, _ => ⟨[], (fun _ h => nomatch h), .nil⟩
  | _, _, _, .cons (d := d) (ds := ds) r rs, hs, hz => by
    have hs2 : okW d = true ∧ okWs ds = true := by simpa [okWs] using hs
    obtain ⟨b1, m1, k1⟩ := rkW hn r hs2.1 (hz _ List.mem_cons_self)
    obtain ⟨b2, m2, k2⟩ := rksW hn rs hs2.2 fun t ht => hz t (List.mem_cons_of_mem _ ht)
    have l1 : d.depth ≤ PyData.depthAll (d :: ds) := Nat.le_max_left _ _
    have l2 : PyData.depthAll ds ≤ PyData.depthAll (d :: ds) := Nat.le_max_right _ _
    exact ⟨b1 ++ b2, (m1.mono l1).append (m2.mono l2), .cons ((k1.more fun b hb => List.mem_append_left _ hb).level_le l1) (k2.more_le (fun b hb => List.mem_append_right _ hb) l2)⟩
end
theorem repr_W (hn : h0.NoDigits) {a : Addr} {d : PyData} {as : List Addr} {Q : Value → Shared → Prop} (r : Reads h0 (.ref a) d as) (hs : okW d = true) (hg : A.guards = some []) (hu : A.units + (d.depth + 1) < cLine) (hk0 : ∀ b o, h0.get? b = some o → s.heap.get? b = some o)
    (q : ∀ h' u tk, (∀ b o, s.heap.get? b = some o → h'.get? b = some o) → Q (.str d.shown u) { s with heap := h', toks := tk }) (hz : d.shown.length ≤ sizeLine) : wpAny (model prog w) A (call (.builtin "repr") [.ref a]) Q E s := by
  have units : A.in1.units + d.depth < cLine := by show A.units + 1 + d.depth < cLine; omega
  have q2 : ∀ h' u tk, (∀ b o, s.heap.get? b = some o → h'.get? b = some o) → ∃ x t, Value.str d.shown u = .str x t ∧ Q (.str d.shown u) { s with heap := h', toks := tk } := fun h' u tk hk => ⟨_, _, rfl, q h' u tk hk⟩
  cases r with
  | dict _ _ _ _ _ => simp [okW] at hs
  | tuple h1 h2 h3 h4 =>
    rename_i o vs n xs
    obtain ⟨bs, hb, hk⟩ := rksW (prog := prog) (w := w) hn h4 (by simpa [okW] using hs) fun t ht => Nat.le_trans (tupleText_mem_le ht) hz
    exact call_repr_slot (by omega) ⟨o, hk0 _ _ h1, h2⟩ F.slot_tuple_repr (call_tuple_reprK h1 h2 h3 (not_mem_of_deeper (.tuple h1 h2 h3 h4) (Nat.lt_succ_self _) hb) hk hg (fun b _ => Clear.nil b) units hk0 q2 hz)
  | list h1 h2 h3 h4 =>
    rename_i o vs n xs bs0
    obtain ⟨bs, hb, hk⟩ := rksW (prog := prog) (w := w) hn h4 (by simpa [okW] using hs) fun t ht => Nat.le_trans (listText_mem_le ht) hz
    have hna := not_mem_of_deeper (.list h1 h2 h3 h4) (Nat.lt_succ_self (PyData.depthAll xs)) hb
    obtain ⟨l⟩ := vs
    cases l with
    | nil =>
      cases (show ReadsAll h0 [] xs _ from h4)
      exact call_repr_slot (by omega) ⟨o, hk0 _ _ h1, h2⟩ F.slot_list_repr.toG (call_list_repr_empty ⟨o, hk0 _ _ h1, h2⟩ (hk0 _ _ h1) h3 (q2 s.heap _ _ fun _ _ z => z))
    | cons x l => exact call_repr_slot (by omega) ⟨o, hk0 _ _ h1, h2⟩ F.slot_list_repr.toG (call_list_reprK h1 h2 h3 hna (by simpa using hk.length_eq) (fun i y z => hk.item i y (by simpa using z)) hg (fun b _ => Clear.nil b) units hk0 q2 hz)
end
end FD

set_option maxRecDepth 100000
set_option maxHeartbeats 4000000
namespace FD
open PySem PySem.Spec PyProof.Rows L2
def digB (K : PySem.W.Frag) : Bool := decide (PySem.W.nsIn K cStatics "sys.int_max_str_digits" = some none)
def okShowW (d : PyData) : Bool := okW d && (decide (d.depth ≤ 64) && decide (d.shown.length ≤ sizeLine))
def dReprW : List DV → Option DV
  | [d] => match toPy d with
    | some x => if okShowW x then some (.str x.shown) else none
    | none => none
  | _ => none
def rReprW (K : PySem.W.Frag) : List V → Hp → VK → Prop := fun vs H Q => ∃ v d, vs = [v] ∧ Dp K H v d ∧ okShowW d = true ∧ Q (.str d.shown) H
section
variable {X : Cx} {C : Cn} {e : Expr} {p pos : Pos} {fa : AF}
theorem Inv.digits {pins : List (Addr × Obj)} {σ : St} {H : Hp} {s : Shared} (I : Inv X pins σ H s) (h : digB X.K = true) : s.heap.NoDigits := by
  obtain ⟨mc, h1, _⟩ := I.nolimit
  exact ⟨mc, h1, PySem.W.ns_none_of I.kIn h1 (of_decide_eq_true h)⟩
theorem call_reprW (hg : X.A.guards = some []) (hu : X.A.units + 66 < cLine) (hd : digB X.K = true) : CallR X (.builtin "repr") (rReprW X.K) := by
  intro pins s σ H xs us Q I r h
  obtain ⟨v, d, rfl, hv, hs, q⟩ := h
  obtain ⟨u, rfl, ru⟩ := vals1 r
  unfold okShowW at hs
  simp only [Bool.and_eq_true, decide_eq_true_eq] at hs
  obtain ⟨s1, s3, s4⟩ := hs
  obtain ⟨as, rd⟩ := Dp.reads I d v u hv ru
  have nd := Inv.digits I hd
  have big : ∀ a : Addr, u = .ref a → wpAny (model X.prog X.w) X.A (call (.builtin "repr") [u]) (EP X pins σ Q) X.xe s := by
    intro a ea
    subst ea
    exact repr_W nd rd s1 hg (by omega) (fun _ _ z => z) (fun h' t tk hk => ⟨.str d.shown, H, I.kept hk, ⟨t, rfl⟩, q⟩) s4
  cases hv with
  | non =>
    cases ru
    exact PySem.P.repr_of_none ⟨.str _, H, I.tok _, ⟨_, rfl⟩, q⟩
  | bl b =>
    cases ru
    exact PySem.P.repr_of_bool ⟨.str _, H, I.tok _, ⟨_, by cases b <;> rfl⟩, q⟩
  | int i =>
    obtain ⟨t, rfl⟩ := ru
    have s2 : i.natAbs.log2 < 12900 := by simpa [okW] using s1
    exact call_repr_slot (by omega) (typeIs_int s i t) F.slot_int_repr.toG (repr_intW nd s2 ⟨_, _, rfl, ⟨.str _, H, I.tok _, ⟨_, rfl⟩, q⟩⟩)
  | str x =>
    obtain ⟨t, rfl⟩ := ru
    exact PySem.P.repr_of_str ⟨.str _, H, I.tok _, ⟨_, rfl⟩, q⟩ s4
  | lst h1 h2 =>
    cases ru
    exact big _ rfl
  | tup h1 h2 =>
    cases ru
    exact big _ rfl
theorem o_reprW : OpA X.K (rReprW X.K) dReprW := by
  intro C G H σ s vs ds d A r ho Q q
  unfold dReprW at ho
  split at ho
  · rename_i d0
    split at ho
    · rename_i x hx
      split at ho
      · rename_i hs
        cases ho
        obtain ⟨v, rfl, rv⟩ := r.single
        exact ⟨v, x, rfl, Rp.dp A.gh d0 v x rv hx, hs, q _ H G (Fw.refl A.gh) rfl⟩
      · cases ho
    · cases ho
  · cases ho
theorem fe_reprW {k : Nat} (hr : Rm k X.A) (hm : X.mg "repr" = none) (hd : digB X.K = true) (ha : FA X C [e] fa) (hg : Gl X "repr" := by rfl) (he : starEach [e] X.env = (false, eval e X.env) :: starEach [] X.env := by rfl) : FE X C (.Call (.Name "repr" p) [e] [] pos) (eA fa dReprW) :=
  fe_callB (call_reprW hr.gd (by have := hr.rm.un; omega) hd) o_reprW hm (by decide +kernel) ha hg (he := he)
end
end FD

set_option maxRecDepth 100000
set_option maxHeartbeats 4000000
namespace FD
open PySem PySem.Spec PyProof.Rows L2
/-! ## f-strings of texts and ints -/
def dFmt : DV → Option DV
  | .str y => if y.length ≤ sizeLine then some (.str y) else none
  | .int i => if i.natAbs.log2 < 1920 then some (.str (toString i)) else none
  | _ => none
def eJn : List EF → Str → S → Option (Str × S)
  | [], acc, s => some (acc, s)
  | f :: fs, acc, s => match f s with
    | some (.str y, s1) => if (acc ++ y).length ≤ sizeLine then eJn fs (acc ++ y) s1 else none
    | _ => none
def eJs (fs : List EF) : EF := fun s => match eJn fs Str.empty s with
  | some (x, s1) => some (.str x, s1)
  | none => none
section
variable {X : Cx} {C : Cn} {e v1 v2 : Expr} {es rest : List Expr} {pos : Pos} {f : EF} {fs : List EF}
theorem fe_fmt (h : FE X C e f) : FE X C (.FormattedValue e (-1) none pos) (e1 f dFmt) := by
  obtain ⟨te, p, q⟩ := h
  refine ⟨_, pe_fmt p, ?_⟩
  intro G H σ s d s' A e1' Q k
  unfold FD.e1 at e1'
  split at e1'
  · rename_i d0 s1 e2
    refine q G H σ s d0 s1 A e2 _ fun v H1 G1 g1 A1 r => ?_
    split at e1'
    · rename_i z e3
      cases e1'
      unfold dFmt at e3
      split at e3
      · rename_i y
        split at e3
        · rename_i hy
          cases e3
          exact .inl ⟨y, r, hy, k _ H1 G1 g1 A1 rfl⟩
        · cases e3
      · rename_i i
        split at e3
        · rename_i hi
          cases e3
          exact .inr ⟨i, r, hi, k _ H1 G1 g1 A1 rfl⟩
        · cases e3
      · cases e3
    · cases e1'
  · cases e1'
def FJ (X : Cx) (C : Cn) (es : List Expr) (fs : List EF) : Prop := ∃ ts, PJ X es ts ∧ Paired (EvE X.K C) ts fs
theorem ev_js {K : PySem.W.Frag} : ∀ {ts : List TE} {fs : List EF}, Paired (EvE K C) ts fs → ∀ (acc : Str) (G H : Hp) (σ : List (Option V)) (s : S) (x : Str) (s' : S), Ab K C G H σ s → eJn fs acc s = some (x, s') → ∀ Q : Str → Hp → Prop, (∀ H' G', Same G G' → Ab K C G' H' σ s' → Q x H') → tJs ts acc σ H Q
  | _, _, .nil, acc, G, H, σ, s, x, s', A, e, Q, k => by
    cases e
    exact k H G (Same.refl _) A
  | _, _, .cons q1 q2, acc, G, H, σ, s, x, s', A, e, Q, k => by
    unfold eJn at e
    split at e
    · rename_i y s1 e2
      split at e
      · rename_i hl
        refine q1 G H σ s _ s1 A e2 _ fun v H1 G1 g1 A1 r => ?_
        exact ⟨y, r, hl, ev_js q2 (acc ++ y) G1 H1 σ s1 x s' A1 e Q fun H2 G2 g2 A2 => k H2 G2 (g1.trans g2) A2⟩
      · cases e
    · cases e
theorem fj_nil : FJ X C [] [] := ⟨[], .nil, .nil⟩
theorem fj_cons (h : FE X C e f) (t : FJ X C es fs) : FJ X C (e :: es) (f :: fs) := by
  obtain ⟨te, p, q⟩ := h
  obtain ⟨ts, p2, q2⟩ := t
  exact ⟨te :: ts, .cons p p2, .cons q q2⟩
theorem fe_js (h : FJ X C (v1 :: v2 :: rest) fs) : FE X C (.JoinedStr (v1 :: v2 :: rest) pos) (eJs fs) := by
  obtain ⟨ts, p, q⟩ := h
  refine ⟨_, pe_joined p, ?_⟩
  intro G H σ s d s' A e1 Q k
  unfold eJs at e1
  split at e1
  · rename_i x s1 e2
    cases e1
    exact ev_js q _ G H σ s _ _ A e2 _ fun H1 G1 g1 A1 => k _ H1 G1 g1 A1 rfl
  · cases e1
theorem fe_js1 (h : FE X C e f) : FE X C (.JoinedStr [e] pos) f := let ⟨_, p, q⟩ := h; ⟨_, pe_joined1 p, q⟩
end
end FD

set_option maxRecDepth 100000
set_option maxHeartbeats 4000000
namespace FD
open PySem PySem.Spec PyProof.Rows L2
/-! ## count and index of a bool in a list of bools -/
def bools : List DV → Option (List Bool)
  | [] => some []
  | .bl b :: ds => (bools ds).map (b :: ·)
  | _ => none
def dBcount : DV → Option DV
  | .lst ds => (bools ds).map fun bs => .int (bs.count true : Nat)
  | _ => none
def dBindex : DV → Option DV
  | .lst ds => match bools ds with
    | some bs => if true ∈ bs then some (.int (bs.idxOf true : Nat)) else none
    | none => none
  | _ => none
theorem bools_rp {K : PySem.W.Frag} {G : Hp} : ∀ {ds : List DV} {bs : List Bool} {vs : List V}, bools ds = some bs → RpL K G vs ds → vs = bs.map V.bl
  | [], bs, vs, e, r => by
    cases e
    exact r
  | .bl b :: ds, bs, vs, e, r => by
    obtain ⟨v, rest, rfl, h1, h2⟩ := r
    unfold bools at e
    obtain ⟨bs', e1, rfl⟩ := Option.map_eq_some_iff.mp e
    rw [bools_rp e1 h2, show v = V.bl b from h1]
    rfl
  | .non :: _, _, _, e, _ | .int _ :: _, _, _, e, _ | .str _ :: _, _, _, e, _ | .tup _ :: _, _, _, e, _ | .lst _ :: _, _, _, e, _ | .scr _ :: _, _, _, e, _ | .raw _ :: _, _, _, e, _ | .exc _ :: _, _, _, e, _ => by cases e
theorem vals_bools : ∀ {bs : List Bool} {us : List Value}, Vals (bs.map V.bl) us → us = bs.map Value.bool
  | [], _, .nil => rfl
  | b :: bs, _, .cons r rs => by rw [show _ = Value.bool b from r, vals_bools rs]; rfl
section
variable {X : Cx} {C : Cn} {e : Expr} {f : EF} {apos cpos : Pos} {j : Nat} {p2 : Pos}
def rCntB (K : PySem.W.Frag) : V → List V → Hp → VK → Prop := fun x xs H Q => ∃ (p : Addr) (bs : List Bool) (k : Bool), x = .ref p ∧ xs = [.bl k] ∧ SqL K H p (bs.map V.bl) ∧ Q (.int (bs.count k : Nat)) H
theorem mt_countB : MtR X "list.count" (rCntB X.K) := by
  intro pins s σ H x xs v us Q I rx rxs h
  obtain ⟨p, bs, k, rfl, rfl, hs, q⟩ := h
  cases rx
  obtain ⟨u, rfl, ru⟩ := rxs.one
  obtain rfl : u = Value.bool k := ru
  obtain ⟨its, rv, ⟨⟨cls, dd, data, sl⟩, n, ho, hc, hdn, hd⟩, hlen⟩ := I.list hs
  simp only at hc hd
  subst hc hd
  obtain rfl := vals_bools rv
  refine call_meets PySem.F.slot_list_count ⟨_, ho, rfl⟩ PySem.F.entry_list_count (PySem.F.args_list_count_2 _ _) (SeqAt.list_countAt p (bs.map Value.bool).toArray n dd sl (.bool k) (isBoolOf k)) ⟨ho, fun y hy => ?_, ?_⟩
  · obtain ⟨b, _, rfl⟩ := List.mem_map.mp (show y ∈ bs.map Value.bool by simpa using hy)
    exact SeqAt.EqAt.bool_bool b k
  · have ec : (bs.map Value.bool).toArray.toList.countP (isBoolOf k) = bs.count k := by
      show (bs.map Value.bool).countP (isBoolOf k) = _
      rw [List.countP_map]
      rfl
    refine ⟨.int (bs.count k : Nat), H, I.tok _, ⟨s.toks, ?_⟩, q⟩
    show Value.int (((bs.map Value.bool).toArray.toList.countP (isBoolOf k) : Nat) : Int) s.toks = Value.int ((bs.count k : Nat) : Int) s.toks
    rw [ec]
theorem fe_bcount {k : Nat} (hr : Rm k X.A) (h : FE X C e f) (hbase : attributeBase e "count" X.env (eval e X.env) = eval e X.env := by rfl)
    (hfew : ((backTo cpos (starEach [.Constant (.bool true) j p2] X.env)).all (fun z => !z.1) && (backToKw cpos (keywordEach [] X.env)).all (fun z => z.1.isSome) && decide (([Expr.Constant (.bool true) j p2]).length + ([] : List Keyword).length + (if ([] : List Keyword).isEmpty then 0 else 1) < 30)) = true := by rfl)
    (hline : (apos.endLine == cpos.line) = true := by rfl) (hs : starEach [.Constant (.bool true) j p2] X.env = (false, eval (.Constant (.bool true) j p2) X.env) :: starEach [] X.env := by rfl) (hplain : (backTo cpos (starEach [] X.env)).any (·.1) = false := by rfl) :
    FE X C (.Call (.Attribute e "count" apos) [.Constant (.bool true) j p2] [] cpos) (e1 f dBcount) := by
  obtain ⟨te, p, q⟩ := h
  refine ⟨_, pe_bm PySem.F.plainAttrs_list PySem.F.slot_list_count PySem.F.type_list_count mt_countB p (pa_cons pe_bl pa_nil hs) hbase hfew hline hs hplain, ?_⟩
  intro G H σ s d s' A e1' Q k
  unfold FD.e1 at e1'
  split at e1'
  · rename_i d0 s1 e2
    refine q G H σ s d0 s1 A e2 _ fun v H1 G1 g1 A1 r => ?_
    split at e1'
    · rename_i z e3
      cases e1'
      unfold dBcount at e3
      split at e3
      · rename_i ds
        obtain ⟨bs, e4, rfl⟩ := Option.map_eq_some_iff.mp e3
        obtain ⟨a, vs, rfl, r1, r2⟩ := r
        have ev := bools_rp e4 r2
        subst ev
        have sq := SqL.of (K := X.K) (A1.gh _ _ r1)
        exact ⟨.inl ⟨rfl, _, sq⟩, a, bs, true, rfl, rfl, sq, k _ H1 G1 g1 A1 rfl⟩
      · cases e3
    · cases e1'
  · cases e1'
theorem fe_bindex {k : Nat} (hr : Rm k X.A) (h : FE X C e f) (hbase : attributeBase e "index" X.env (eval e X.env) = eval e X.env := by rfl)
    (hfew : ((backTo cpos (starEach [.Constant (.bool true) j p2] X.env)).all (fun z => !z.1) && (backToKw cpos (keywordEach [] X.env)).all (fun z => z.1.isSome) && decide (([Expr.Constant (.bool true) j p2]).length + ([] : List Keyword).length + (if ([] : List Keyword).isEmpty then 0 else 1) < 30)) = true := by rfl)
    (hline : (apos.endLine == cpos.line) = true := by rfl) (hs : starEach [.Constant (.bool true) j p2] X.env = (false, eval (.Constant (.bool true) j p2) X.env) :: starEach [] X.env := by rfl) (hplain : (backTo cpos (starEach [] X.env)).any (·.1) = false := by rfl) :
    FE X C (.Call (.Attribute e "index" apos) [.Constant (.bool true) j p2] [] cpos) (e1 f dBindex) := by
  obtain ⟨te, p, q⟩ := h
  refine ⟨_, pe_bm PySem.F.plainAttrs_list PySem.F.slot_list_index PySem.F.type_list_index mt_index p (pa_cons pe_bl pa_nil hs) hbase hfew hline hs hplain, ?_⟩
  intro G H σ s d s' A e1' Q k
  unfold FD.e1 at e1'
  split at e1'
  · rename_i d0 s1 e2
    refine q G H σ s d0 s1 A e2 _ fun v H1 G1 g1 A1 r => ?_
    split at e1'
    · rename_i z e3
      cases e1'
      unfold dBindex at e3
      split at e3
      · rename_i ds
        split at e3
        · rename_i bs e4
          split at e3
          · rename_i hm
            cases e3
            obtain ⟨a, vs, rfl, r1, r2⟩ := r
            have ev := bools_rp e4 r2
            subst ev
            have sq := SqL.of (K := X.K) (A1.gh _ _ r1)
            have hl : bs.idxOf true < bs.length := List.idxOf_lt_length_of_mem hm
            have hj : bs[bs.idxOf true]? = some true := by
              rw [List.getElem?_eq_getElem hl, List.getElem_idxOf hl]
            refine ⟨.inl ⟨rfl, _, sq⟩, a, bs.map V.bl, .bl true, bs.idxOf true, .bl true, rfl, rfl, sq, rfl, ?_, ?_, rfl, ?_, k _ H1 G1 g1 A1 rfl⟩
            · rw [List.all_map]
              exact List.all_eq_true.mpr fun b _ => rfl
            · rw [List.getElem?_map, hj]
              rfl
            · intro m z' hm' hz
              rw [List.getElem?_map] at hz
              obtain ⟨b, hb, rfl⟩ := Option.map_eq_some_iff.mp hz
              have : b ≠ true := by
                intro eb
                subst eb
                have hml : m < bs.length := by omega
                rw [List.getElem?_eq_getElem hml] at hb
                have h3 : ¬ (bs[m] == true) = true := by
                  have := List.not_of_lt_findIdx (p := fun c => c == true) (xs := bs) hm'
                  simpa using this
                exact h3 (beq_iff_eq.mpr (Option.some.inj hb))
              cases b
              · rfl
              · exact absurd rfl this
          · cases e3
        · cases e3
      · cases e3
    · cases e1'
  · cases e1'
end
end FD

set_option maxRecDepth 100000
set_option maxHeartbeats 4000000
set_option exponentiation.threshold 20000
namespace T4
open PySem L2 FD
/-! ## sizes -/
/-- below 2 ^ b in size -/
def Sz (b : Nat) (n : Int) : Prop := n.natAbs < 2 ^ b
instance (b : Nat) (n : Int) : Decidable (Sz b n) := inferInstanceAs (Decidable (n.natAbs < 2 ^ b))
theorem log2_lt_of {n k : Nat} (h : n < 2 ^ k) : n.log2 ≤ k := by
  by_cases h0 : n = 0
  · subst h0; simp
  · exact Nat.le_of_lt ((Nat.log2_lt h0).mpr h)
theorem fit_of {i j : Int} {a b : Nat} (ha : i.natAbs < 2 ^ a) (hb : j.natAbs < 2 ^ b) (h : a + b < 134217000 := by decide) : fitM i j = true := by
  have h1 := log2_lt_of ha
  have h2 := log2_lt_of hb
  exact decide_eq_true (by omega)
theorem mul_lt {i j : Int} {a b : Nat} (ha : i.natAbs < 2 ^ a) (hb : j.natAbs < 2 ^ b) : (i * j).natAbs < 2 ^ (a + b) := by
  rw [Int.natAbs_mul, Nat.pow_add]
  exact Nat.mul_lt_mul'' ha hb
theorem add_lt {i j : Int} {a : Nat} (ha : i.natAbs < 2 ^ a) (hb : j.natAbs < 2 ^ a) : (i + j).natAbs < 2 ^ (a + 1) := by
  rw [Nat.pow_succ]; omega
theorem sub_lt {i j : Int} {a : Nat} (ha : i.natAbs < 2 ^ a) (hb : j.natAbs < 2 ^ a) : (i - j).natAbs < 2 ^ (a + 1) := by
  rw [Nat.pow_succ]; omega
theorem neg_lt {i : Int} {a : Nat} (ha : i.natAbs < 2 ^ a) : (-i).natAbs < 2 ^ a := by omega
theorem lt_up {i : Int} {a b : Nat} (ha : i.natAbs < 2 ^ a) (h : a ≤ b := by decide) : i.natAbs < 2 ^ b := Nat.lt_of_lt_of_le ha (Nat.pow_le_pow_right (by decide) h)
theorem dEq_int (a b : Int) : dEq (.int a) (.int b) = some (.bl (a == b)) := rfl
theorem dNe_int (a b : Int) : dNe (.int a) (.int b) = some (.bl (!(a == b))) := rfl
theorem beq_t {a b : Int} (h : a = b) : (a == b) = true := beq_iff_eq.mpr h
theorem beq_f {a b : Int} (h : a ≠ b) : (a == b) = false := beq_eq_false_iff_ne.mpr h
theorem div_ok {c : Int} (h : c ≠ 0) (h9 : c.natAbs < 2 ^ 8999) : (c ≠ 0 ∧ c.natAbs.log2 < 9000) := ⟨h, by have := log2_lt_of h9; omega⟩
/-! ## the root, as the law finds it -/
def sq (n : Int) : Int := ((Float64.isqrt n.toNat : Nat) : Int)
theorem sq_spec {n : Int} (h : 0 ≤ n) : 0 ≤ sq n ∧ sq n * sq n ≤ n ∧ n < (sq n + 1) * (sq n + 1) := by
  obtain ⟨h1, h2⟩ := Float64.isqrt_spec n.toNat
  unfold sq
  refine ⟨Int.natCast_nonneg _, ?_, ?_⟩
  · have : ((Float64.isqrt n.toNat * Float64.isqrt n.toNat : Nat) : Int) ≤ (n.toNat : Int) := Int.ofNat_le.mpr h1
    rw [Int.natCast_mul] at this
    omega
  · have : (n.toNat : Int) < (((Float64.isqrt n.toNat + 1) * (Float64.isqrt n.toNat + 1) : Nat) : Int) := Int.ofNat_lt.mpr h2
    rw [Int.natCast_mul, Int.natCast_add] at this
    have e : (n.toNat : Int) = n := by omega
    rw [e] at this
    exact this
theorem sq_uniq {n r : Int} (h : 0 ≤ n) (h0 : 0 ≤ r) (h1 : r * r ≤ n) (h2 : n < (r + 1) * (r + 1)) : r = sq n := by
  obtain ⟨k0, k1, k2⟩ := sq_spec h
  generalize sq n = t at *
  have a : r < t + 1 := by
    by_cases w : r < t + 1
    · exact w
    · exfalso
      have := Int.mul_le_mul (show t + 1 ≤ r by omega) (show t + 1 ≤ r by omega) (by omega) (by omega)
      omega
  have b : t < r + 1 := by
    by_cases w : t < r + 1
    · exact w
    · exfalso
      have := Int.mul_le_mul (show r + 1 ≤ t by omega) (show r + 1 ≤ t by omega) (by omega) (by omega)
      omega
  omega
theorem fdiv_spec {a s : Int} (h : 0 < s) : a.fdiv s * s ≤ a ∧ a < (a.fdiv s + 1) * s := by
  have h1 := Int.fmod_add_mul_fdiv a s
  have h2 := Int.fmod_nonneg_of_pos a h
  have h3 := Int.fmod_lt_of_pos a h
  rw [Int.mul_comm] at h1
  rw [Int.add_mul, Int.one_mul]
  omega
/-- one step of Newton's -/
def nxt (v g : Int) : Int := (g + v.fdiv g).fdiv 2
theorem nxt_spec {v g : Int} (hv : 0 ≤ v) (hg : 0 < g) : 0 ≤ nxt v g ∧ v < (nxt v g + 1) * (nxt v g + 1) ∧ (g ≤ nxt v g → g * g ≤ v) := by
  obtain ⟨a1, a2⟩ := fdiv_spec (a := v) hg
  obtain ⟨b1, b2⟩ := fdiv_spec (a := g + v.fdiv g) (show (0 : Int) < 2 by decide)
  have q0 : 0 ≤ v.fdiv g := by
    by_cases w : 0 ≤ v.fdiv g
    · exact w
    · exfalso
      have := Int.mul_le_mul_of_nonneg_right (show v.fdiv g + 1 ≤ 0 by omega) (show 0 ≤ g by omega)
      omega
  unfold nxt
  generalize (g + v.fdiv g).fdiv 2 = b at *
  generalize v.fdiv g = q at *
  have hb : 0 ≤ b := by omega
  refine ⟨hb, ?_, fun h => ?_⟩
  · have h1 : g + (q + 1) ≤ 2 * (b + 1) := by omega
    have h2 := Int.mul_le_mul h1 h1 (by omega) (by omega)
    have h3 : 0 ≤ (g - (q + 1)) * (g - (q + 1)) := by
      rcases Int.le_total 0 (g - (q + 1)) with w | w
      · exact Int.mul_nonneg w w
      · exact Int.mul_nonneg_of_nonpos_of_nonpos w w
    grind
  · have h1 : g ≤ q := by omega
    have h2 := Int.mul_le_mul_of_nonneg_right h1 (show 0 ≤ g by omega)
    omega
theorem newton : ∀ (n : Nat) (v g : Int) (x2 : Option SV) (sp : Spl), 1 ≤ v → v.natAbs < 2 ^ 17000 → 0 < g → g.natAbs < 2 ^ 8800 → v < (g + 1) * (g + 1) → g.toNat ≤ n →
    ∃ y, whN n (tBl (e2 (eV 3) (eV 1) dLt)) (sSeq (sAsg (eV 3) (gNm 1)) (sAsg (e2 (e2 (eV 1) (e2 (eV 0) (eV 1) dFdiv) dAdd) (eC (.int 2)) dFdiv) (gNm 3))) ⟨[some (.dat (.int v)), some (.dat (.int g)), x2, some (.dat (.int (nxt v g)))], sp⟩ = some (.nx ⟨[some (.dat (.int v)), some (.dat (.int (sq v))), x2, y], sp⟩) := by
  intro n
  induction n with
  | zero =>
    intro v g x2 sp hv hv9 hg hg9 hi hn
    omega
  | succ n ih =>
    intro v g x2 sp hv hv9 hg hg9 hi hn
    obtain ⟨k0, k1, k2⟩ := nxt_spec (show 0 ≤ v by omega) hg
    by_cases hl : nxt v g < g
    · have hl' : decide (nxt v g < g) = true := decide_eq_true hl
      by_cases hz : nxt v g = 0
      · -- the root is 0
        exfalso
        rw [hz] at k1
        omega
      · have hp : 0 < nxt v g := by omega
        have c2 : decide ((2 : Int) ≠ 0 ∧ (2 : Int).natAbs.log2 < 9000) = true := rfl
        have c1 : decide (nxt v g ≠ 0 ∧ (nxt v g).natAbs.log2 < 9000) = true := decide_eq_true (div_ok hz (by
          have : (nxt v g).natAbs < 2 ^ 8800 := by omega
          exact lt_up this))
        obtain ⟨y, e⟩ := ih v (nxt v g) x2 sp hv hv9 hp (by omega) k1 (by omega)
        refine ⟨y, ?_⟩
        have e3 : (nxt v g + v.fdiv (nxt v g)).fdiv 2 = nxt v (nxt v g) := rfl
        simp only [whN, tBl, e2, eV, eC, dI, hl', sSeq, sAsg, gNm, dFdiv, dAdd, c1, c2, if_true, e3, List.getElem?_cons_zero, List.getElem?_cons_succ, List.set_cons_zero, List.set_cons_succ, e]
    · have hl' : decide (nxt v g < g) = false := decide_eq_false hl
      have e : g = sq v := sq_uniq (by omega) (by omega) (k2 (by omega)) hi
      refine ⟨some (.dat (.int (nxt v g))), ?_⟩
      simp only [whN, tBl, e2, eV, dI, hl', List.getElem?_cons_zero, List.getElem?_cons_succ]
      rw [← e]
theorem sq_lt {a : Int} {b : Nat} (h0 : 0 ≤ a) (h : a * a < 2 ^ (b + b)) : a.natAbs < 2 ^ b := by
  refine Nat.lt_of_not_le fun w => ?_
  have h1 := Nat.mul_le_mul w w
  rw [← Nat.pow_add] at h1
  have h2 : ((2 ^ (b + b) : Nat) : Int) ≤ ((a.natAbs * a.natAbs : Nat) : Int) := Int.ofNat_le.mpr h1
  rw [Int.natCast_pow, Int.natCast_mul] at h2
  have h3 : (a.natAbs : Int) = a := by omega
  rw [h3] at h2
  have h4 : ((2 : Nat) : Int) ^ (b + b) = (2 : Int) ^ (b + b) := rfl
  omega
theorem bound_g {v g : Int} (hv9 : v.natAbs < 2 ^ 17000) (hg : 0 ≤ g) (h : g * g ≤ 4 * v) : g.natAbs < 2 ^ 8502 := by
  refine sq_lt hg ?_
  have e : (2 : Int) ^ (8502 + 8502) = 16 * 2 ^ 17000 := by rw [show 8502 + 8502 = 4 + 17000 by rfl, Int.pow_add]; rfl
  have h1 : ((v.natAbs : Nat) : Int) < ((2 ^ 17000 : Nat) : Int) := Int.ofNat_lt.mpr hv9
  rw [Int.natCast_pow] at h1
  have h4 : ((2 : Nat) : Int) ^ 17000 = (2 : Int) ^ 17000 := rfl
  rw [h4] at h1
  rw [e]
  generalize (2 : Int) ^ 17000 = B at *
  omega
theorem double : ∀ (n : Nat) (v g f : Int) (x3 : Option SV) (sp : Spl), 1 ≤ v → v.natAbs < 2 ^ 17000 → 2 ≤ g → g * g ≤ 4 * v → 2 ≤ f → f.natAbs < 2 ^ 17 → (4 * v - g).toNat ≤ n →
    ∃ r, whN n (tBl (e2 (e2 (e2 (e2 (eV 1) (eV 1) dMul) (eV 2) dMul) (eV 2) dMul) (e2 (eC (.int 4)) (eV 0) dMul) dLe)) (sAsg (e2 (eV 1) (eV 2) dMul) (gNm 1)) ⟨[some (.dat (.int v)), some (.dat (.int g)), some (.dat (.int f)), x3], sp⟩ = some (.nx ⟨[some (.dat (.int v)), some (.dat (.int r)), some (.dat (.int f)), x3], sp⟩) ∧ 2 ≤ r ∧ r * r ≤ 4 * v ∧ 4 * v < r * r * f * f := by
  intro n
  induction n with
  | zero =>
    intro v g f x3 sp hv hv9 hg hgg hf hf9 hn
    have zg := bound_g hv9 (by omega) hgg
    have f1 := fit_of zg zg
    have f2 := fit_of (mul_lt zg zg) hf9
    have f3 := fit_of (mul_lt (mul_lt zg zg) hf9) hf9
    have f4 : fitM 4 v = true := fit_of (a := 3) (by decide) hv9
    by_cases hl : g * g * f * f ≤ 4 * v
    · exfalso
      have h1 : 4 * v ≤ g := by omega
      have h2 := Int.mul_le_mul_of_nonneg_right (show (2 : Int) ≤ g by omega) (show 0 ≤ g by omega)
      omega
    · have hl' : decide (g * g * f * f ≤ 4 * v) = false := decide_eq_false hl
      refine ⟨g, ?_, hg, hgg, by omega⟩
      simp only [whN, tBl, e2, eV, eC, dI, dMul, f1, f2, f3, f4, hl', if_true, List.getElem?_cons_zero, List.getElem?_cons_succ]
  | succ n ih =>
    intro v g f x3 sp hv hv9 hg hgg hf hf9 hn
    have zg := bound_g hv9 (by omega) hgg
    have f1 := fit_of zg zg
    have f2 := fit_of (mul_lt zg zg) hf9
    have f3 := fit_of (mul_lt (mul_lt zg zg) hf9) hf9
    have f4 : fitM 4 v = true := fit_of (a := 3) (by decide) hv9
    have f5 := fit_of zg hf9
    by_cases hl : g * g * f * f ≤ 4 * v
    · have hl' : decide (g * g * f * f ≤ 4 * v) = true := decide_eq_true hl
      have e1' : g * f * (g * f) = g * g * f * f := by grind
      have h1 := Int.mul_le_mul_of_nonneg_left hf (show 0 ≤ g by omega)
      have h3 := Int.mul_le_mul_of_nonneg_right (show (2 : Int) ≤ g by omega) (show 0 ≤ g by omega)
      obtain ⟨r, e, r1, r2, r3⟩ := ih v (g * f) f x3 sp hv hv9 (by omega) (by rw [e1']; exact hl) hf hf9 (by omega)
      refine ⟨r, ?_, r1, r2, r3⟩
      simp only [whN, tBl, e2, eV, eC, dI, dMul, f1, f2, f3, f4, f5, hl', if_true, sAsg, gNm, List.getElem?_cons_zero, List.getElem?_cons_succ, List.set_cons_zero, List.set_cons_succ, e]
    · have hl' : decide (g * g * f * f ≤ 4 * v) = false := decide_eq_false hl
      refine ⟨g, ?_, hg, hgg, by omega⟩
      simp only [whN, tBl, e2, eV, eC, dI, dMul, f1, f2, f3, f4, hl', if_true, List.getElem?_cons_zero, List.getElem?_cons_succ]
def b_law_square_root : SF :=
  sSeq (sIf (tBl (e2 (eV 0) (eC (.int 2)) dLt)) (sRt (eV 0)) (sNx))
  (sSeq (sAsg (eC (.int 2)) (gNm 1))
  (sSeq (sFr (iTp (eA (aCons (eC (.int 65536)) (aCons (eC (.int 2)) (aNil))) oTup)) (gNm 2) (sWh (fun s => (4 * slI s 0).toNat) (tBl (e2 (e2 (e2 (e2 (eV 1) (eV 1) dMul) (eV 2) dMul) (eV 2) dMul) (e2 (eC (.int 4)) (eV 0) dMul) dLe)) (sAsg (e2 (eV 1) (eV 2) dMul) (gNm 1))))
  (sSeq (sAsg (e2 (e2 (eV 1) (e2 (eV 0) (eV 1) dFdiv) dAdd) (eC (.int 2)) dFdiv) (gNm 3))
  (sSeq (sWh (fun s => (slI s 1).toNat) (tBl (e2 (eV 3) (eV 1) dLt)) (sSeq (sAsg (eV 3) (gNm 1))
  (sAsg (e2 (e2 (eV 1) (e2 (eV 0) (eV 1) dFdiv) dAdd) (eC (.int 2)) dFdiv) (gNm 3))))
  (sRt (eV 1))))))
def m_law_square_root : List DV → Option DV
  | [.int v] => if 0 ≤ v ∧ v.natAbs < 2 ^ 17000 then some (.int (sq v)) else none
  | _ => none
theorem t_law_square_root : ∀ ds d, m_law_square_root ds = some d → bodyP 1 4 b_law_square_root ds = some d := by
  intro ds d h
  unfold m_law_square_root at h
  split at h
  · rename_i v
    split at h
    · rename_i ok
      obtain ⟨h0, h9⟩ := ok
      cases h
      by_cases hl : v < 2
      · have hl' : decide (v < 2) = true := decide_eq_true hl
        have e : v = sq v := by
          refine sq_uniq h0 h0 ?_ ?_
          · rcases (by omega : v = 0 ∨ v = 1) with r | r <;> subst r <;> decide
          · rcases (by omega : v = 0 ∨ v = 1) with r | r <;> subst r <;> decide
        unfold b_law_square_root
        simp only [bodyP, sSeq, sIf, tBl, e2, eV, eC, dI, hl', sRt, List.length_cons, List.length_nil, List.map_cons, List.map_nil, List.cons_append, List.nil_append, List.replicate_succ, List.replicate_zero, List.getElem?_cons_zero, Nat.reduceAdd, Nat.reduceSub, if_true]
        rw [← e]
      · have hl' : decide (v < 2) = false := decide_eq_false hl
        have two : (2 : Nat) ≤ sizeLine := by decide
        have hf0 : (4 * slI ⟨[some (.dat (.int v)), some (.dat (.int 2)), some (.dat (.int 65536)), none], spl0⟩ 0).toNat = (4 * v).toNat := rfl
        obtain ⟨g1, e1', a1, a2, _⟩ := double (4 * v).toNat v 2 65536 none spl0 (by omega) h9 (by decide) (by omega) (by decide) (by decide) (by omega)
        have hf1 : (4 * slI ⟨[some (.dat (.int v)), some (.dat (.int g1)), some (.dat (.int 2)), none], spl0⟩ 0).toNat = (4 * v).toNat := rfl
        obtain ⟨g, e2', b1, b2, b3⟩ := double (4 * v).toNat v g1 2 none spl0 (by omega) h9 a1 a2 (by decide) (by decide) (by omega)
        have zg := bound_g h9 (by omega) b2
        have c2 : decide ((2 : Int) ≠ 0 ∧ (2 : Int).natAbs.log2 < 9000) = true := rfl
        have c1 : decide (g ≠ 0 ∧ g.natAbs.log2 < 9000) = true := decide_eq_true (div_ok (by omega) (lt_up zg))
        have hi : v < (g + 1) * (g + 1) := by
          have : (g + 1) * (g + 1) = g * g + 2 * g + 1 := by grind
          have : g * g * 2 * 2 = 4 * (g * g) := by grind
          omega
        have hf2 : (slI ⟨[some (.dat (.int v)), some (.dat (.int g)), some (.dat (.int 2)), some (.dat (.int (nxt v g)))], spl0⟩ 1).toNat = g.toNat := rfl
        obtain ⟨y, e3⟩ := newton g.toNat v g (some (.dat (.int 2))) spl0 (by omega) h9 (by omega) (lt_up zg) hi (Nat.le_refl _)
        have e4 : (g + v.fdiv g).fdiv 2 = nxt v g := rfl
        unfold b_law_square_root
        simp only [bodyP, sSeq, sIf, tBl, e2, eV, eC, dI, hl', sNx, sAsg, gNm, sFr, iTp, eA, aCons, aNil, oTup, two, frN, sWh, hf0, hf1, hf2, List.length_cons, List.length_nil, List.map_cons, List.map_nil, List.cons_append, List.nil_append, List.replicate_succ, List.replicate_zero, List.getElem?_cons_zero, List.getElem?_cons_succ, List.set_cons_zero, List.set_cons_succ, Nat.reduceAdd, Nat.reduceSub, if_true]
        simp only [hf0, e1', List.set_cons_zero, List.set_cons_succ, hf1, e2', e2, eV, eC, c1, c2, dFdiv, dAdd, e4, hf2, e3, sRt, List.getElem?_cons_zero, List.getElem?_cons_succ, if_true]
    · cases h
  · cases h
end T4

set_option maxRecDepth 100000
set_option maxHeartbeats 4000000
set_option exponentiation.threshold 20000
namespace T4
open PySem L2 FD
/-! ## a number times a power of ten, nearly -/
theorem ten_pos (n : Nat) : (0 : Int) < 10 ^ n := Int.pow_pos (by decide)
theorem ten_mono {j n : Nat} (h : j ≤ n) : ((10 : Int) ^ j).natAbs ≤ ((10 : Int) ^ n).natAbs := by
  rw [Int.natAbs_pow, Int.natAbs_pow]
  exact Nat.pow_le_pow_right (by decide) h
theorem tens : ∀ (ds : List DV) (j n : Nat) (x0 x1 x2 x3 x4 x5 x7 x8 : Option SV) (sp : Spl), j + ds.length ≤ n → ((10 : Int) ^ n).natAbs < 2 ^ 8500 →
    ∃ y, frN ds (gNm 7) (sAsg (e2 (eV 6) (eC (.int 10)) dMul) (gNm 6)) ⟨[x0, x1, x2, x3, x4, x5, some (.dat (.int (10 ^ j))), x7, x8], sp⟩ = some (.nx ⟨[x0, x1, x2, x3, x4, x5, some (.dat (.int (10 ^ (j + ds.length)))), y, x8], sp⟩)
  | [], j, n, x0, x1, x2, x3, x4, x5, x7, x8, sp, _, _ => ⟨x7, rfl⟩
  | d :: ds, j, n, x0, x1, x2, x3, x4, x5, x7, x8, sp, hl, hn => by
    rw [List.length_cons] at hl
    obtain ⟨y, e⟩ := tens ds (j + 1) n x0 x1 x2 x3 x4 x5 (some (.dat d)) x8 sp (by omega) hn
    have f1 : fitM (10 ^ j) 10 = true := fit_of (Nat.lt_of_le_of_lt (ten_mono (by omega)) hn) (b := 4) (by decide)
    have hp : (10 : Int) ^ j * 10 = 10 ^ (j + 1) := (Int.pow_succ 10 j).symm
    refine ⟨y, ?_⟩
    rw [List.length_cons, show j + (ds.length + 1) = j + 1 + ds.length by omega]
    simp only [frN, gNm, sAsg, e2, eV, eC, dMul, f1, if_true, hp, List.getElem?_cons_zero, List.getElem?_cons_succ, List.set_cons_zero, List.set_cons_succ, e]
def scl (p q d s : Int) (n : Nat) : Int := (p * 10 ^ n + (if 0 < q then sq (q * q * d * 10 ^ n * 10 ^ n) else 0 - sq (q * q * d * 10 ^ n * 10 ^ n))).fdiv s
def okS (p q d s n : Int) : Prop := 0 ≤ n ∧ n ≤ 4000 ∧ s ≠ 0 ∧ s.natAbs < 2 ^ 8999 ∧ 0 ≤ d ∧ p.natAbs < 2 ^ 100000 ∧ q.natAbs < 2 ^ 8000 ∧ d.natAbs < 2 ^ 8000 ∧ ((10 : Int) ^ n.toNat).natAbs < 2 ^ 8500 ∧ (q * q * d * 10 ^ n.toNat * 10 ^ n.toNat).natAbs < 2 ^ 17000
instance (p q d s n : Int) : Decidable (okS p q d s n) := by unfold okS; exact inferInstance
def b_law_scaled : SF :=
  sSeq (sAsg (eV 0) (gTp 4 (gCo (gNm 2) (gCo (gNm 3) (gCo (gNm 4) (gCo (gNm 5) (gNi)))))))
  (sSeq (sAsg (eC (.int 1)) (gNm 6))
  (sSeq (sFr (iRg1 (aCons (eV 1) (aNil))) (gNm 7) (sAsg (e2 (eV 6) (eC (.int 10)) dMul) (gNm 6)))
  (sSeq (sAsg (eA (aCons (e2 (e2 (e2 (e2 (eV 3) (eV 3) dMul) (eV 4) dMul) (eV 6) dMul) (eV 6) dMul) (aNil)) m_law_square_root) (gNm 8))
  (sRt (e2 (e2 (e2 (eV 2) (eV 6) dMul) (eIf (tBl (e2 (eV 3) (eC (.int 0)) dGt)) (eV 8) (e2 (eC (.int 0)) (eV 8) dSub)) dAdd) (eV 5) dFdiv)))))
def m_law_scaled : List DV → Option DV
  | [.tup [.int p, .int q, .int d, .int s], .int n] => if okS p q d s n then some (.int (scl p q d s n.toNat)) else none
  | _ => none
theorem t_law_scaled : ∀ ds d, m_law_scaled ds = some d → bodyP 2 9 b_law_scaled ds = some d := by
  intro ds d h
  unfold m_law_scaled at h
  split at h
  · rename_i p q e s n
    split at h
    · rename_i ok
      obtain ⟨n0, n1, s0, s9, d0, zp, zq, zd, zt, zv⟩ := ok
      cases h
      have hl : (rngD 0 n.toNat).length = n.toNat := by unfold rngD; simp
      obtain ⟨y, e1'⟩ := tens (rngD 0 n.toNat) 0 n.toNat (some (.dat (.tup [.int p, .int q, .int e, .int s]))) (some (.dat (.int n))) (some (.dat (.int p))) (some (.dat (.int q))) (some (.dat (.int e))) (some (.dat (.int s))) none none spl0 (by omega) zt
      rw [hl, Nat.zero_add] at e1'
      have hone : (10 : Int) ^ 0 = 1 := rfl
      rw [hone] at e1'
      have hr : inR n = true := decide_eq_true (by omega)
      have f1 := fit_of zq zq
      have f2 := fit_of (mul_lt zq zq) zd
      have f3 := fit_of (mul_lt (mul_lt zq zq) zd) zt
      have f4 := fit_of (mul_lt (mul_lt (mul_lt zq zq) zd) zt) zt
      have f5 := fit_of zp zt
      have nn : 0 ≤ q * q * e * 10 ^ n.toNat * 10 ^ n.toNat := by
        have hq : 0 ≤ q * q := by
          rcases Int.le_total 0 q with w | w
          · exact Int.mul_nonneg w w
          · exact Int.mul_nonneg_of_nonpos_of_nonpos w w
        have ht := ten_pos n.toNat
        exact Int.mul_nonneg (Int.mul_nonneg (Int.mul_nonneg hq d0) (by omega)) (by omega)
      have c1 : m_law_square_root [.int (q * q * e * 10 ^ n.toNat * 10 ^ n.toNat)] = some (.int (sq (q * q * e * 10 ^ n.toNat * 10 ^ n.toNat))) := if_pos ⟨nn, zv⟩
      have hc : decide (s ≠ 0 ∧ s.natAbs.log2 < 9000) = true := decide_eq_true (div_ok s0 s9)
      clear n0 n1 s0 s9 d0 zp zq zd zt zv nn hl
      unfold b_law_scaled scl
      by_cases hq : 0 < q
      · have hq' : decide (0 < q) = true := decide_eq_true hq
        rw [if_pos hq]
        clear hq
        simp only [bodyP, bodyS, bodyR, sSeq, sIf, sNx, sRt, sRtX, sAsgX, sRs, eX, eJs, eJn, dFmt, sAsg, sDr, sPar, sAug, sSp, sOwn, sApp, lDs, eSp, eS, tBl, tTr, tAn, tOo, tNo, eC, eV, eA, eIf, eAn, eOo, eNo, e1, e2, eIxN, FD.peek, aCons, aNil, gNm, gTp, gLs, gCo, gNi, dI, dAddI, dMulI, dAdd, dSub, dMul, dFdiv, dMod, dNeg, dGcd, dMax, dMin, dAbs, dSq, dLen, dEq_int, dNe_int, dIx, oTup, oLst, truD, List.length_cons, List.length_nil, List.map_cons, List.map_nil, List.cons_append, List.nil_append, List.replicate_succ, List.replicate_zero, List.getElem?_cons_zero, List.getElem?_cons_succ, List.set_cons_succ, List.set_cons_zero, Nat.reduceAdd, Nat.reduceSub, Nat.sub_self, if_true, decide_true, decide_false, Bool.not_true, Bool.not_false, Bool.false_eq_true, if_false, reduceCtorEq, sFr, iRg1, hr, e1', f1, f2, f3, f4, f5, c1, hc, hq']
      · have hq' : decide (0 < q) = false := decide_eq_false hq
        rw [if_neg hq]
        clear hq
        simp only [bodyP, bodyS, bodyR, sSeq, sIf, sNx, sRt, sRtX, sAsgX, sRs, eX, eJs, eJn, dFmt, sAsg, sDr, sPar, sAug, sSp, sOwn, sApp, lDs, eSp, eS, tBl, tTr, tAn, tOo, tNo, eC, eV, eA, eIf, eAn, eOo, eNo, e1, e2, eIxN, FD.peek, aCons, aNil, gNm, gTp, gLs, gCo, gNi, dI, dAddI, dMulI, dAdd, dSub, dMul, dFdiv, dMod, dNeg, dGcd, dMax, dMin, dAbs, dSq, dLen, dEq_int, dNe_int, dIx, oTup, oLst, truD, List.length_cons, List.length_nil, List.map_cons, List.map_nil, List.cons_append, List.nil_append, List.replicate_succ, List.replicate_zero, List.getElem?_cons_zero, List.getElem?_cons_succ, List.set_cons_succ, List.set_cons_zero, Nat.reduceAdd, Nat.reduceSub, Nat.sub_self, if_true, decide_true, decide_false, Bool.not_true, Bool.not_false, Bool.false_eq_true, if_false, reduceCtorEq, sFr, iRg1, hr, e1', f1, f2, f3, f4, f5, c1, hc, hq']
    · cases h
  · cases h
end T4

set_option maxRecDepth 100000
set_option maxHeartbeats 4000000
set_option exponentiation.threshold 20000
namespace T4
open PySem L2 FD
/-! ## the sign, by decimal bounds -/
def isg (n : Int) : Int := if 0 < n then 1 else if n < 0 then -1 else 0
def sgS (p q d : Int) : Int := if q * q * d < p * p then isg p else isg q
theorem isg_pos {n : Int} (h : 0 < n) : isg n = 1 := if_pos h
theorem isg_neg {n : Int} (h : n < 0) : isg n = -1 := by unfold isg; rw [if_neg (by omega), if_pos h]
theorem sq_nn (a : Int) : 0 ≤ a * a := by
  rcases Int.le_total 0 a with w | w
  · exact Int.mul_nonneg w w
  · exact Int.mul_nonneg_of_nonpos_of_nonpos w w
theorem lt_of_sq {a b : Int} (hb : 0 ≤ b) (h : a * a < b * b) : a < b := by
  by_cases w : a < b
  · exact w
  · exfalso
    have := Int.mul_le_mul (show b ≤ a by omega) (show b ≤ a by omega) hb (by omega)
    omega
/-- p T and the root of q q d T T, held against each other -/
theorem cmp_T {p q d T : Int} (hT : 0 < T) : (q * q * d < p * p ↔ q * q * d * T * T < (p * T) * (p * T)) := by
  have e : (p * T) * (p * T) - q * q * d * T * T = (p * p - q * q * d) * (T * T) := by grind
  have tt := Int.mul_pos hT hT
  constructor
  · intro h
    have := Int.mul_pos (show 0 < p * p - q * q * d by omega) tt
    omega
  · intro h
    refine Int.lt_of_not_ge fun w => ?_
    have := Int.mul_nonneg (show 0 ≤ q * q * d - p * p by omega) (show 0 ≤ T * T by omega)
    have e2 : (q * q * d - p * p) * (T * T) = -((p * p - q * q * d) * (T * T)) := by grind
    omega
theorem sign_of_A {p q d T r : Int} (hT : 0 < T) (r0 : 0 ≤ r) (r1 : r * r ≤ q * q * d * T * T) (r2 : q * q * d * T * T < (r + 1) * (r + 1)) :
    (4 ≤ p * T + (if 0 < q then r else 0 - r) → sgS p q d = 1) ∧ (p * T + (if 0 < q then r else 0 - r) ≤ -4 → sgS p q d = -1) := by
  have c := cmp_T (p := p) (q := q) (d := d) hT
  have D0 : q = 0 → q * q * d * T * T = 0 := fun z => by rw [z]; simp
  generalize q * q * d * T * T = D at *
  have pT : ∀ z : Int, (0 < z * T ↔ 0 < z) ∧ (z * T < 0 ↔ z < 0) := fun z => by
    rcases Int.lt_trichotomy z 0 with w | w | w
    · have := Int.mul_neg_of_neg_of_pos w hT; omega
    · subst w; simp
    · have := Int.mul_pos w hT; omega
  obtain ⟨pp, pn⟩ := pT p
  generalize p * T = P at *
  unfold sgS
  constructor
  · intro h
    by_cases hq : 0 < q
    · rw [if_pos hq] at h
      by_cases w : q * q * d < p * p
      · rw [if_pos w]
        have w2 := c.mp w
        refine isg_pos (pp.mp ?_)
        refine Int.lt_of_not_ge fun z => ?_
        have h1 : (-P) * (-P) ≤ r * r := Int.mul_le_mul (by omega) (by omega) (by omega) r0
        rw [Int.neg_mul_neg] at h1
        omega
      · rw [if_neg w]; exact isg_pos hq
    · rw [if_neg hq] at h
      have h1 : (r + 1) * (r + 1) ≤ P * P := Int.mul_le_mul (by omega) (by omega) (by omega) (by omega)
      rw [if_pos (c.mpr (by omega))]
      exact isg_pos (pp.mp (by omega))
  · intro h
    by_cases hq : 0 < q
    · rw [if_pos hq] at h
      have h1 : (r + 1) * (r + 1) ≤ (-P) * (-P) := Int.mul_le_mul (by omega) (by omega) (by omega) (by omega)
      rw [Int.neg_mul_neg] at h1
      rw [if_pos (c.mpr (by omega))]
      exact isg_neg (pn.mp (by omega))
    · rw [if_neg hq] at h
      by_cases w : q * q * d < p * p
      · rw [if_pos w]
        have w2 := c.mp w
        refine isg_neg (pn.mp ?_)
        refine Int.lt_of_not_ge fun z => ?_
        have h1 : P * P ≤ r * r := Int.mul_le_mul (by omega) (by omega) (by omega) r0
        omega
      · rw [if_neg w]
        by_cases z : q = 0
        · exfalso
          subst z
          simp at w
          have := sq_nn p
          have p0 : p * p = 0 := by omega
          have p1 : p = 0 := (Int.mul_eq_zero.mp p0).elim id id
          have p2 : ¬ (P < 0) := fun y => by have := pn.mp y; omega
          have p3 : ¬ (0 < P) := fun y => by have := pp.mp y; omega
          have d0 := D0 rfl
          have r00 : r = 0 := by
            by_cases y : r = 0
            · exact y
            · have : 1 * 1 ≤ r * r := Int.mul_le_mul (by omega) (by omega) (by omega) (by omega)
              omega
          omega
        · exact isg_neg (by omega)
/-- far enough, and the bound shows the sign -/
theorem far {p q d T r s M : Int} (hT : 0 < T) (hs : 0 < s) (r0 : 0 ≤ r) (r1 : r * r ≤ q * q * d * T * T) (r2 : q * q * d * T * T < (r + 1) * (r + 1)) (hN : p * p - q * q * d ≠ 0) (hM : r ≤ M * T) (hM0 : 0 ≤ M)
    (hb : 4 * s * (p.natAbs + M) + 2 * M + 1 < T) (h1 : -(4 * s) ≤ p * T + (if 0 < q then r else 0 - r)) (h2 : p * T + (if 0 < q then r else 0 - r) ≤ 4 * s) : False := by
  have key : ∀ A B : Int, A * B = (p * T) * (p * T) - r * r → -(4 * s) ≤ A → A ≤ 4 * s → B.natAbs ≤ (p * T).natAbs + r.natAbs → False := by
    intro A B e a1 a2 b1
    have hAB : (A * B).natAbs ≤ (4 * s).natAbs * ((p * T).natAbs + r.natAbs) := by
      rw [Int.natAbs_mul]
      exact Nat.mul_le_mul (by omega) b1
    have hNT : (p * p - q * q * d) * (T * T) = (p * T) * (p * T) - q * q * d * T * T := by grind
    have hTT : (T * T).natAbs ≤ ((p * p - q * q * d) * (T * T)).natAbs := by
      rw [Int.natAbs_mul (p * p - q * q * d)]
      exact Nat.le_mul_of_pos_left _ (by omega)
    rw [hNT] at hTT
    have tt : 0 < T * T := Int.mul_pos hT hT
    have hr2 : (r + 1) * (r + 1) = r * r + 2 * r + 1 := by grind
    have hpT : ((p * T).natAbs : Int) = p.natAbs * T := by
      rw [Int.natAbs_mul, Int.natCast_mul]
      congr 1
      omega
    have i1 : ((A * B).natAbs : Int) ≤ 4 * s * (p.natAbs * T + r) := by
      have := Int.ofNat_le.mpr hAB
      rw [Int.natCast_mul, Int.natCast_add, hpT] at this
      have h4 : ((4 * s).natAbs : Int) = 4 * s := by omega
      have h5 : (r.natAbs : Int) = r := by omega
      rw [h4, h5] at this
      exact this
    have i2 : T * T ≤ 4 * s * (p.natAbs * T + r) + 2 * r + 1 := by omega
    have i3 : 4 * s * (p.natAbs * T + r) ≤ 4 * s * (p.natAbs * T + M * T) := Int.mul_le_mul_of_nonneg_left (by omega) (by omega)
    have i4 : (4 * s * (p.natAbs + M) + 2 * M + 1 + 1) * T ≤ T * T := Int.mul_le_mul_of_nonneg_right (by omega) (by omega)
    have i5 : (4 * s * (p.natAbs + M) + 2 * M + 1 + 1) * T = 4 * s * (p.natAbs * T + M * T) + 2 * (M * T) + T + T := by grind
    omega
  by_cases hq : 0 < q
  · rw [if_pos hq] at h1 h2
    exact key (p * T + r) (p * T - r) (by grind) h1 h2 (by omega)
  · rw [if_neg hq] at h1 h2
    exact key (p * T + (0 - r)) (p * T + r) (by grind) h1 h2 (by omega)
end T4

set_option maxRecDepth 100000
set_option maxHeartbeats 4000000
set_option exponentiation.threshold 20000
namespace T4
open PySem L2 FD
theorem sg_zero (d : Int) : sgS 0 0 d = 0 := by simp [sgS, isg]
/-- numbers whose sign is asked -/
structure SgOk (p q d s : Int) : Prop where
  s0 : 0 < s
  d0 : 0 ≤ d
  qd : q ≠ 0 → 0 < d
  N0 : ¬ (p = 0 ∧ q = 0) → p * p - q * q * d ≠ 0
  zp : p.natAbs < 2 ^ 2200
  zq : q.natAbs < 2 ^ 2000
  zd : d.natAbs < 2 ^ 40
  zs : s.natAbs < 2 ^ 1100
theorem ten_small {n : Nat} (h : n ≤ 1024) : ((10 : Int) ^ n).natAbs < 2 ^ 4096 := by
  rw [Int.natAbs_pow]
  have h1 : (10 : Nat) ^ n ≤ 16 ^ n := Nat.pow_le_pow_left (by decide) n
  have h2 : (16 : Nat) ^ n = 2 ^ (4 * n) := by rw [show (16 : Nat) = 2 ^ 4 by rfl, ← Nat.pow_mul]
  have h3 : (2 : Nat) ^ (4 * n) ≤ 2 ^ 4096 := Nat.pow_le_pow_right (by decide) (by omega)
  have h4 : (10 : Nat) ^ 1024 < 2 ^ 4096 := by decide +kernel
  have h5 : (10 : Nat) ^ n ≤ 10 ^ 1024 := Nat.pow_le_pow_right (by decide) h
  exact Nat.lt_of_le_of_lt h5 h4
theorem SgOk.okS {p q d s : Int} (h : SgOk p q d s) {n : Nat} (hn : n ≤ 1024) : okS p q d s (n : Int) := by
  have zt := ten_small hn
  have := h.s0
  refine ⟨by omega, by omega, by omega, lt_up h.zs, h.d0, lt_up h.zp, lt_up h.zq, lt_up h.zd, ?_, ?_⟩
  · rw [Int.toNat_natCast]; exact lt_up zt
  · rw [Int.toNat_natCast]; exact lt_up (mul_lt (mul_lt (mul_lt (mul_lt h.zq h.zq) h.zd) zt) zt)
/-- what a scaled value tells of the sign -/
theorem SgOk.tells {p q d s : Int} (h : SgOk p q d s) (n : Nat) : (3 < scl p q d s n → sgS p q d = 1) ∧ (scl p q d s n < -3 → sgS p q d = -1) := by
  have hT := ten_pos n
  have s0 := h.s0
  have nn : 0 ≤ q * q * d * 10 ^ n * 10 ^ n := Int.mul_nonneg (Int.mul_nonneg (Int.mul_nonneg (sq_nn q) h.d0) (by omega)) (by omega)
  obtain ⟨r0, r1, r2⟩ := sq_spec nn
  obtain ⟨c1, c2⟩ := sign_of_A (p := p) (q := q) (d := d) hT r0 r1 r2
  unfold scl
  generalize p * 10 ^ n + (if 0 < q then sq (q * q * d * 10 ^ n * 10 ^ n) else 0 - sq (q * q * d * 10 ^ n * 10 ^ n)) = A at *
  obtain ⟨f1, f2⟩ := fdiv_spec (a := A) s0
  generalize A.fdiv s = v at *
  constructor
  · intro hv
    have := Int.mul_le_mul_of_nonneg_right (show (4 : Int) ≤ v by omega) (show 0 ≤ s by omega)
    exact c1 (by omega)
  · intro hv
    have := Int.mul_le_mul_of_nonneg_right (show v + 1 ≤ (-3 : Int) by omega) (show 0 ≤ s by omega)
    exact c2 (by omega)
theorem SgOk.ends {p q d s : Int} (h : SgOk p q d s) (h0 : ¬ (p = 0 ∧ q = 0)) : 3 < scl p q d s 1024 ∨ scl p q d s 1024 < -3 := by
  refine Classical.byContradiction fun w => ?_
  have s0 := h.s0
  have hT := ten_pos 1024
  have big : (2 : Int) ^ 3400 < 10 ^ 1024 := by decide +kernel
  have nn : 0 ≤ q * q * d * 10 ^ 1024 * 10 ^ 1024 := Int.mul_nonneg (Int.mul_nonneg (Int.mul_nonneg (sq_nn q) h.d0) (by omega)) (by omega)
  have zM : ((q.natAbs : Int) * d).natAbs < 2 ^ 2040 := by
    rw [Int.natAbs_mul]
    have := Nat.mul_lt_mul'' h.zq h.zd
    rw [← Nat.pow_add] at this
    exact this
  have M0 : 0 ≤ (q.natAbs : Int) * d := Int.mul_nonneg (by omega) h.d0
  obtain ⟨r0, r1, r2⟩ := sq_spec nn
  have hM : sq (q * q * d * 10 ^ 1024 * 10 ^ 1024) ≤ (q.natAbs : Int) * d * 10 ^ 1024 := by
    refine Int.le_of_lt_add_one (lt_of_sq (by have := Int.mul_nonneg M0 (show (0 : Int) ≤ 10 ^ 1024 by omega); omega) ?_)
    generalize (10 : Int) ^ 1024 = T at *
    generalize sq (q * q * d * T * T) = r at *
    have e : (q.natAbs : Int) * (q.natAbs : Int) = q * q := by
      rcases Int.le_total 0 q with w | w
      · rw [show (q.natAbs : Int) = q by omega]
      · rw [show (q.natAbs : Int) = -q by omega, Int.neg_mul_neg]
    have e2 : ((q.natAbs : Int) * d * T) * ((q.natAbs : Int) * d * T) = (q * q * d * T * T) * d := by rw [← e]; grind
    have e3 : q * q * d * T * T ≤ (q * q * d * T * T) * d := by
      by_cases z : q = 0
      · rw [z]; simp
      · have := h.qd z
        have := Int.mul_le_mul_of_nonneg_left (show (1 : Int) ≤ d by omega) nn
        omega
    have e4 := Int.mul_nonneg M0 (show (0 : Int) ≤ T by omega)
    have e5 : ((q.natAbs : Int) * d * T + 1) * ((q.natAbs : Int) * d * T + 1) = ((q.natAbs : Int) * d * T) * ((q.natAbs : Int) * d * T) + 2 * ((q.natAbs : Int) * d * T) + 1 := by grind
    omega
  have hb : 4 * s * (p.natAbs + (q.natAbs : Int) * d) + 2 * ((q.natAbs : Int) * d) + 1 < 10 ^ 1024 := by
    refine Int.lt_trans ?_ big
    have z1 : ((p.natAbs : Int) + (q.natAbs : Int) * d).natAbs < 2 ^ 2201 := add_lt (a := 2200) (by have := h.zp; omega) (lt_up zM)
    have z2 : (4 * s).natAbs < 2 ^ (3 + 1100) := mul_lt (by decide) h.zs
    have z3 := mul_lt z2 z1
    have z4 : (2 * ((q.natAbs : Int) * d)).natAbs < 2 ^ (2 + 2040) := mul_lt (by decide) zM
    have z5 := add_lt (lt_up z3 (b := 3398)) (lt_up z4 (b := 3398))
    have z6 : (2 : Nat) ^ (3398 + 1) + 1 < 2 ^ 3400 := by decide +kernel
    have z7 : ((2 ^ 3400 : Nat) : Int) = (2 : Int) ^ 3400 := Int.natCast_pow 2 3400
    rw [← z7]
    generalize (2 : Nat) ^ (3398 + 1) = U at *
    generalize (2 : Nat) ^ 3400 = W at *
    omega
  have hA : -(4 * s) ≤ p * 10 ^ 1024 + (if 0 < q then sq (q * q * d * 10 ^ 1024 * 10 ^ 1024) else 0 - sq (q * q * d * 10 ^ 1024 * 10 ^ 1024)) ∧ p * 10 ^ 1024 + (if 0 < q then sq (q * q * d * 10 ^ 1024 * 10 ^ 1024) else 0 - sq (q * q * d * 10 ^ 1024 * 10 ^ 1024)) ≤ 4 * s := by
    unfold scl at w
    generalize p * 10 ^ 1024 + (if 0 < q then sq (q * q * d * 10 ^ 1024 * 10 ^ 1024) else 0 - sq (q * q * d * 10 ^ 1024 * 10 ^ 1024)) = A at *
    obtain ⟨f1, f2⟩ := fdiv_spec (a := A) s0
    generalize A.fdiv s = v at *
    have h1 := Int.mul_le_mul_of_nonneg_right (show v + 1 ≤ (4 : Int) by omega) (show 0 ≤ s by omega)
    have h2 := Int.mul_le_mul_of_nonneg_right (show (-3 : Int) ≤ v by omega) (show 0 ≤ s by omega)
    omega
  exact far hT s0 r0 r1 r2 (h.N0 h0) hM M0 hb hA.1 hA.2
end T4

set_option maxRecDepth 100000
set_option maxHeartbeats 4000000
set_option exponentiation.threshold 20000
namespace T4
open PySem L2 FD
theorem dNe_two (p q : Int) : dNe (.tup [.int p, .int q]) (.tup [.int 0, .int 0]) = some (.bl (!decide (p = 0 ∧ q = 0))) := by
  have h : toPy (.tup [.int p, .int q]) = some (.tuple [.int p, .int q]) := rfl
  have h0 : toPy (.tup [.int 0, .int 0]) = some (.tuple [.int 0, .int 0]) := rfl
  have h2 : SeqAt.shaped (.tuple [.int p, .int q]) = true := rfl
  have h3 : SeqAt.shaped (.tuple [.int 0, .int 0]) = true := rfl
  unfold dNe
  simp only [h, h0, h2, h3, Bool.and_self, if_true]
  congr 2
  simp only [PyData.eqv, PyData.eqvAll, Bool.and_true]
  by_cases a : p = 0 <;> by_cases b : q = 0 <;> simp [a, b]
section
variable {p q d s : Int}
theorem cond_ok (x1 x2 : Option SV) (sp : Spl) : (tBl (e2 (eSlN 0 (oNo) (oSo (eC (.int 2)))) (eA (aCons (eC (.int 0)) (aCons (eC (.int 0)) (aNil))) oTup) dNe)) ⟨[some (.dat (.tup [.int p, .int q, .int d, .int s])), x1, x2], sp⟩ = some (!decide (p = 0 ∧ q = 0), ⟨[some (.dat (.tup [.int p, .int q, .int d, .int s])), x1, x2], sp⟩) := by
  have two : (2 : Nat) ≤ sizeLine := by decide
  have e := dNe_two p q
  have c : dSl (.tup [.int p, .int q, .int d, .int s]) none (some 2) = some (.tup [.int p, .int q]) := rfl
  simp only [tBl, e2, eSlN, FD.peek, oNo, oSo, eC, c, eA, aCons, aNil, oTup, List.length_cons, List.length_nil, Nat.reduceAdd, two, if_true, e, List.getElem?_cons_zero]
theorem sg_loop (h : SgOk p q d s) (h0 : ¬ (p = 0 ∧ q = 0)) : ∀ (m k : Nat) (x2 : Option SV) (sp : Spl), 1 ≤ k → k ≤ 10 → 11 ≤ m + k → ∃ s', whN m (tBl (e2 (eSlN 0 (oNo) (oSo (eC (.int 2)))) (eA (aCons (eC (.int 0)) (aCons (eC (.int 0)) (aNil))) oTup) dNe)) (sSeq (sAsg (eA (aCons (eV 0) (aCons (eV 1) (aNil))) m_law_scaled) (gNm 2)) (sSeq (sIf (tBl (e2 (eA (aCons (eV 2) (aNil)) dAbs) (eC (.int 3)) dGt)) (sRt (eIf (tBl (e2 (eV 2) (eC (.int 0)) dGt)) (eC (.int 1)) (e2 (eC (.int 0)) (eC (.int 1)) dSub))) (sNx)) (sAsg (e2 (eC (.int 2)) (eV 1) dMul) (gNm 1)))) ⟨[some (.dat (.tup [.int p, .int q, .int d, .int s])), some (.dat (.int ((2 ^ k : Nat) : Int))), x2], sp⟩ = some (.rt (.int (sgS p q d)) s') := by
  intro m
  induction m with
  | zero =>
    intro k x2 sp k1 k2 k3
    omega
  | succ m ih =>
    intro k x2 sp k1 k2 k3
    have hk : 2 ^ k ≤ 1024 := by
      have := Nat.pow_le_pow_right (show 0 < 2 by decide) k2
      exact this
    have c1 : m_law_scaled [(.tup [.int p, .int q, .int d, .int s]), .int ((2 ^ k : Nat) : Int)] = some (.int (scl p q d s (2 ^ k))) := by
      unfold m_law_scaled
      dsimp only
      rw [if_pos (h.okS hk), Int.toNat_natCast]
    have cd := cond_ok (p := p) (q := q) (d := d) (s := s) (some (.dat (.int ((2 ^ k : Nat) : Int)))) x2 sp
    rw [decide_eq_false h0, Bool.not_false] at cd
    obtain ⟨t1, t2⟩ := h.tells (2 ^ k)
    by_cases v1 : 3 < scl p q d s (2 ^ k)
    · refine ⟨⟨[some (.dat (.tup [.int p, .int q, .int d, .int s])), some (.dat (.int ((2 ^ k : Nat) : Int))), some (.dat (.int (scl p q d s (2 ^ k))))], sp⟩, ?_⟩
      rw [t1 v1]
      have a1 : (if scl p q d s (2 ^ k) < 0 then -scl p q d s (2 ^ k) else scl p q d s (2 ^ k)) = scl p q d s (2 ^ k) := if_neg (by omega)
      have a2 : decide (3 < scl p q d s (2 ^ k)) = true := decide_eq_true v1
      have a3 : decide (0 < scl p q d s (2 ^ k)) = true := decide_eq_true (by omega)
      unfold whN
      rw [cd]
      clear cd t1 t2 v1 ih
      simp only [sSeq, sAsg, eA, aCons, aNil, eV, c1, gNm, sIf, tBl, e2, eC, dAbs, a1, dI, a2, sRt, eIf, a3, List.getElem?_cons_zero, List.getElem?_cons_succ, List.set_cons_zero, List.set_cons_succ]
    · by_cases v2 : scl p q d s (2 ^ k) < -3
      · refine ⟨⟨[some (.dat (.tup [.int p, .int q, .int d, .int s])), some (.dat (.int ((2 ^ k : Nat) : Int))), some (.dat (.int (scl p q d s (2 ^ k))))], sp⟩, ?_⟩
        rw [t2 v2]
        have a1 : (if scl p q d s (2 ^ k) < 0 then -scl p q d s (2 ^ k) else scl p q d s (2 ^ k)) = -scl p q d s (2 ^ k) := if_pos (by omega)
        have a2 : decide (3 < -scl p q d s (2 ^ k)) = true := decide_eq_true (by omega)
        have a3 : decide (0 < scl p q d s (2 ^ k)) = false := decide_eq_false (by omega)
        unfold whN
        rw [cd]
        clear cd t1 t2 v1 v2 ih
        simp only [sSeq, sAsg, eA, aCons, aNil, eV, c1, gNm, sIf, tBl, e2, eC, dAbs, a1, dI, a2, sRt, eIf, a3, dSub, List.getElem?_cons_zero, List.getElem?_cons_succ, List.set_cons_zero, List.set_cons_succ]
        rfl
      · have k10 : k ≠ 10 := fun z => by
          subst z
          exact (h.ends h0).elim v1 v2
        have a2 : decide (3 < (if scl p q d s (2 ^ k) < 0 then -scl p q d s (2 ^ k) else scl p q d s (2 ^ k))) = false := decide_eq_false (by split <;> omega)
        have f1 : fitM 2 ((2 ^ k : Nat) : Int) = true := fit_of (a := 2) (b := 20) (by decide) (by rw [Int.natAbs_natCast]; exact Nat.lt_of_le_of_lt hk (by decide))
        have e2k : (2 : Int) * ((2 ^ k : Nat) : Int) = ((2 ^ (k + 1) : Nat) : Int) := by rw [Nat.pow_succ]; omega
        obtain ⟨s', e⟩ := ih (k + 1) (some (.dat (.int (scl p q d s (2 ^ k))))) sp (by omega) (by omega) (by omega)
        refine ⟨s', ?_⟩
        unfold whN
        rw [cd]
        clear cd t1 t2 v1 v2 ih
        simp only [sSeq, sAsg, eA, aCons, aNil, eV, c1, gNm, sIf, tBl, e2, eC, dAbs, dI, a2, sNx, dMul, f1, if_true, e2k, List.getElem?_cons_zero, List.getElem?_cons_succ, List.set_cons_zero, List.set_cons_succ]
        exact e
end
def b_law_sign_of : SF :=
  sSeq (sAsg (eC (.int 2)) (gNm 1))
  (sSeq (sWh (fun _ => 12) (tBl (e2 (eSlN 0 (oNo) (oSo (eC (.int 2)))) (eA (aCons (eC (.int 0)) (aCons (eC (.int 0)) (aNil))) oTup) dNe)) (sSeq (sAsg (eA (aCons (eV 0) (aCons (eV 1) (aNil))) m_law_scaled) (gNm 2))
  (sSeq (sIf (tBl (e2 (eA (aCons (eV 2) (aNil)) dAbs) (eC (.int 3)) dGt)) (sRt (eIf (tBl (e2 (eV 2) (eC (.int 0)) dGt)) (eC (.int 1)) (e2 (eC (.int 0)) (eC (.int 1)) dSub))) (sNx))
  (sAsg (e2 (eC (.int 2)) (eV 1) dMul) (gNm 1)))))
  (sRt (eC (.int 0))))
def m_law_sign_of : List DV → Option DV := bodyP 1 3 b_law_sign_of
theorem t_law_sign_of : ∀ ds d, m_law_sign_of ds = some d → bodyP 1 3 b_law_sign_of ds = some d := fun _ _ h => h
theorem sign_of_ok {p q d s : Int} (h : SgOk p q d s) : m_law_sign_of [(.tup [.int p, .int q, .int d, .int s])] = some (.int (sgS p q d)) := by
  unfold m_law_sign_of b_law_sign_of
  by_cases h0 : p = 0 ∧ q = 0
  · obtain ⟨rfl, rfl⟩ := h0
    have cd := cond_ok (p := 0) (q := 0) (d := d) (s := s) (some (.dat (.int 2))) none spl0
    have e0 : (!decide ((0 : Int) = 0 ∧ (0 : Int) = 0)) = false := rfl
    rw [e0] at cd
    have hw : whN 12 (tBl (e2 (eSlN 0 (oNo) (oSo (eC (.int 2)))) (eA (aCons (eC (.int 0)) (aCons (eC (.int 0)) (aNil))) oTup) dNe)) (sSeq (sAsg (eA (aCons (eV 0) (aCons (eV 1) (aNil))) m_law_scaled) (gNm 2)) (sSeq (sIf (tBl (e2 (eA (aCons (eV 2) (aNil)) dAbs) (eC (.int 3)) dGt)) (sRt (eIf (tBl (e2 (eV 2) (eC (.int 0)) dGt)) (eC (.int 1)) (e2 (eC (.int 0)) (eC (.int 1)) dSub))) (sNx)) (sAsg (e2 (eC (.int 2)) (eV 1) dMul) (gNm 1)))) ⟨[some (.dat (.tup [.int 0, .int 0, .int d, .int s])), some (.dat (.int 2)), none], spl0⟩ = some (.nx ⟨[some (.dat (.tup [.int 0, .int 0, .int d, .int s])), some (.dat (.int 2)), none], spl0⟩) := by
      unfold whN
      rw [cd]
    rw [sg_zero]
    simp only [bodyP, sSeq, sAsg, eC, gNm, sWh, hw, sRt, List.length_cons, List.length_nil, List.map_cons, List.map_nil, List.cons_append, List.nil_append, List.replicate_succ, List.replicate_zero, List.set_cons_zero, List.set_cons_succ, Nat.reduceAdd, Nat.reduceSub, if_true]
  · obtain ⟨s', hw⟩ := sg_loop h h0 12 1 none spl0 (by decide) (by decide) (by decide)
    have e2' : ((2 ^ 1 : Nat) : Int) = 2 := rfl
    rw [e2'] at hw
    simp only [bodyP, sSeq, sAsg, eC, gNm, sWh, List.length_cons, List.length_nil, List.map_cons, List.map_nil, List.cons_append, List.nil_append, List.replicate_succ, List.replicate_zero, List.set_cons_zero, List.set_cons_succ, Nat.reduceAdd, Nat.reduceSub, if_true]
    rw [hw]
end T4

set_option maxRecDepth 100000
set_option maxHeartbeats 4000000
set_option exponentiation.threshold 20000
namespace T4
open PySem L2 FD
local macro_rules | `(tactic| walk_at "fd") => `(tactic| simp only [bodyP, bodyS, bodyR, sSeq, sIf, sNx, sRt, sRtX, sAsgX, sRs, eX, eJs, eJn, dFmt, sAsg, sDr, sPar, sAug, sSp, sOwn, sApp, lDs, eSp, eS, tBl, tTr, tAn, tOo, tNo, eC, eV, eA, eIf, eAn, eOo, eNo, e1, e2, eIxN, FD.peek, aCons, aNil, gNm, gTp, gLs, gCo, gNi, dI, dAddI, dMulI, dAdd, dSub, dMul, dFdiv, dMod, dNeg, dGcd, dMax, dMin, dAbs, dSq, dLen, dEq_int, dNe_int, dIx, oTup, oLst, truD, List.length_cons, List.length_nil, List.map_cons, List.map_nil, List.cons_append, List.nil_append, List.replicate_succ, List.replicate_zero, List.getElem?_cons_zero, List.getElem?_cons_succ, List.set_cons_succ, List.set_cons_zero, Nat.reduceAdd, Nat.reduceSub, Nat.sub_self, if_true, decide_true, decide_false, Bool.not_true, Bool.not_false, Bool.false_eq_true, if_false, reduceCtorEq, *])
abbrev Num := Int × Int × Int × Int
def nm (x : Num) : DV := .tup [.int x.1, .int x.2.1, .int x.2.2.1, .int x.2.2.2]
def SzN (b : Nat) (x : Num) : Prop := Sz b x.1 ∧ Sz b x.2.1 ∧ Sz b x.2.2.1 ∧ Sz b x.2.2.2
/-! ## lowest terms -/
def gc (p q s : Int) : Int := (((p.natAbs.gcd q.natAbs).gcd s.natAbs : Nat) : Int)
def sgc (p q s : Int) : Int := if s < 0 then -gc p q s else gc p q s
def low (p q d s : Int) : Num := if q = 0 then (p.fdiv (sgc p q s), 0, 0, s.fdiv (sgc p q s)) else (p.fdiv (sgc p q s), q.fdiv (sgc p q s), d, s.fdiv (sgc p q s))
theorem gc_pos {p q s : Int} (h : s ≠ 0) : 0 < gc p q s := by
  unfold gc
  have : 0 < ((p.natAbs.gcd q.natAbs).gcd s.natAbs) := Nat.gcd_pos_of_pos_right _ (by omega)
  omega
theorem gc_le {p q s : Int} (h : s ≠ 0) : (gc p q s).natAbs ≤ s.natAbs := by
  unfold gc
  have : ((p.natAbs.gcd q.natAbs).gcd s.natAbs) ≤ s.natAbs := Nat.gcd_le_right _ (by omega)
  omega
theorem sgc_ne {p q s : Int} (h : s ≠ 0) : sgc p q s ≠ 0 := by
  have := gc_pos (p := p) (q := q) h
  unfold sgc
  split <;> omega
theorem sgc_le {p q s : Int} (h : s ≠ 0) : (sgc p q s).natAbs ≤ s.natAbs := by
  have := gc_le (p := p) (q := q) h
  unfold sgc
  split <;> omega
theorem four_le : (4 : Nat) ≤ sizeLine := by decide
theorem two_le : (2 : Nat) ≤ sizeLine := by decide
instance (b : Nat) (x : Num) : Decidable (SzN b x) := by unfold SzN; exact inferInstance
def rootOf (d e : Int) : Int := if e > d then e else d
/-! ## Euclid -/
def gcdZ (a b : Int) : Int := ((a.natAbs.gcd b.natAbs : Nat) : Int)
theorem fmod_small {a b : Int} (h : b ≠ 0) : (a.fmod b).natAbs < b.natAbs := by
  rcases Int.lt_trichotomy b 0 with z | z | z
  · have e : a.fmod b = -((-a).fmod (-b)) := by rw [Int.neg_fmod_neg]; omega
    have h1 := Int.fmod_nonneg_of_pos (-a) (show 0 < -b by omega)
    have h2 := Int.fmod_lt_of_pos (-a) (show 0 < -b by omega)
    omega
  · exact absurd z h
  · have h1 := Int.fmod_nonneg_of_pos a z
    have h2 := Int.fmod_lt_of_pos a z
    omega
theorem gcd_step (a b : Int) : b.natAbs.gcd (a.fmod b).natAbs = a.natAbs.gcd b.natAbs := by
  have e := Int.fmod_add_mul_fdiv a b
  refine Nat.dvd_antisymm (Nat.dvd_gcd ?_ (Nat.gcd_dvd_left _ _)) (Nat.dvd_gcd (Nat.gcd_dvd_right _ _) ?_)
  · have h1 : ((b.natAbs.gcd (a.fmod b).natAbs : Nat) : Int) ∣ a.fmod b := Int.ofNat_dvd_left.mpr (Nat.gcd_dvd_right _ _)
    have h2 : ((b.natAbs.gcd (a.fmod b).natAbs : Nat) : Int) ∣ b := Int.ofNat_dvd_left.mpr (Nat.gcd_dvd_left _ _)
    have h3 := Int.dvd_add h1 (Int.dvd_trans h2 (Int.dvd_mul_right b (a.fdiv b)))
    rw [e] at h3
    exact Int.ofNat_dvd_left.mp h3
  · have h1 : ((a.natAbs.gcd b.natAbs : Nat) : Int) ∣ a := Int.ofNat_dvd_left.mpr (Nat.gcd_dvd_left _ _)
    have h2 : ((a.natAbs.gcd b.natAbs : Nat) : Int) ∣ b := Int.ofNat_dvd_left.mpr (Nat.gcd_dvd_right _ _)
    have h3 := Int.dvd_sub h1 (Int.dvd_trans h2 (Int.dvd_mul_right b (a.fdiv b)))
    rw [show a - b * a.fdiv b = a.fmod b by omega] at h3
    exact Int.ofNat_dvd_left.mp h3
theorem euclid : ∀ (n : Nat) (a b : Int) (sp : Spl), b.natAbs ≤ n → ∃ g, whN n (tBl (e2 (eV 1) (eC (.int 0)) dNe)) (sPar 0 1 (aCons (eV 1) (aCons (e2 (eV 0) (eV 1) dMod) (aNil)))) ⟨[some (.dat (.int a)), some (.dat (.int b))], sp⟩ = some (.nx ⟨[some (.dat (.int g)), some (.dat (.int 0))], sp⟩) ∧ (if g < 0 then -g else g) = gcdZ a b := by
  intro n
  induction n with
  | zero =>
    intro a b sp h
    obtain rfl : b = 0 := by omega
    refine ⟨a, by simp [whN, tBl, e2, eV, eC, dNe_int], ?_⟩
    unfold gcdZ
    rw [Int.natAbs_zero, Nat.gcd_zero_right]
    split <;> omega
  | succ n ih =>
    intro a b sp h
    by_cases hb : b = 0
    · subst hb
      refine ⟨a, by simp [whN, tBl, e2, eV, eC, dNe_int], ?_⟩
      unfold gcdZ
      rw [Int.natAbs_zero, Nat.gcd_zero_right]
      split <;> omega
    · have hs := fmod_small (a := a) hb
      obtain ⟨g, e, hg⟩ := ih b (a.fmod b) sp (by omega)
      refine ⟨g, ?_, ?_⟩
      · have hb' := beq_f hb
        have hd : decide (b ≠ 0) = true := decide_eq_true hb
        simp only [whN, tBl, e2, eV, eC, dNe_int, hb', Bool.not_false, sPar, aCons, aNil, dMod, hd, if_true, List.getElem?_cons_zero, List.getElem?_cons_succ, List.set_cons_zero, List.set_cons_succ, e]
      · rw [hg]
        unfold gcdZ
        rw [gcd_step]
def b_law_common : SF :=
  sSeq (sWh (fun s => (slI s 1).natAbs) (tBl (e2 (eV 1) (eC (.int 0)) dNe)) (sPar 0 1 (aCons (eV 1) (aCons (e2 (eV 0) (eV 1) dMod) (aNil)))))
  (sRt (eA (aCons (eV 0) (aNil)) dAbs))
def m_law_common : List DV → Option DV
  | [.int a, .int b] => some (.int (gcdZ a b))
  | _ => none
theorem t_law_common : ∀ ds d, m_law_common ds = some d → bodyP 2 2 b_law_common ds = some d := by
  intro ds d h
  unfold m_law_common at h
  split at h
  · rename_i a b
    cases h
    obtain ⟨g, e, hg⟩ := euclid b.natAbs a b spl0 (Nat.le_refl _)
    have hf : (slI ⟨[some (.dat (.int a)), some (.dat (.int b))], spl0⟩ 1).natAbs = b.natAbs := rfl
    unfold b_law_common
    simp only [bodyP, sSeq, sWh, List.length_cons, List.length_nil, Nat.reduceAdd, if_true, List.map_cons, List.map_nil, List.replicate_zero, List.append_nil, Nat.sub_self, hf, e, sRt, eA, aCons, aNil, eV, List.getElem?_cons_zero, dAbs, hg]
  · cases h
/-- in lowest terms, as the law reckons it -/
def lowL (p q d s : Int) : Num := if q = 0 ∨ d = 0 then low p 0 0 s else low p q d s
theorem lowL_eq {p q d s : Int} (h : q = 0 ∨ d ≠ 0) : lowL p q d s = low p q d s := by
  unfold lowL
  by_cases z : q = 0
  · rw [if_pos (.inl z), z]
    unfold low
    rw [if_pos rfl, if_pos rfl]
  · rw [if_neg (fun w => w.elim z (h.resolve_left z))]
def b_law_lowest : SF :=
  sSeq (sIf (tOo (tBl (e2 (eV 1) (eC (.int 0)) dEq)) (tBl (e2 (eV 2) (eC (.int 0)) dEq))) (sAsg (eA (aCons (eC (.int 0)) (aCons (eC (.int 0)) (aNil))) oTup) (gTp 2 (gCo (gNm 1) (gCo (gNm 2) (gNi))))) (sNx))
  (sSeq (sAsg (eA (aCons (eA (aCons (eV 0) (aCons (eV 1) (aNil))) m_law_common) (aCons (eV 3) (aNil))) m_law_common) (gNm 4))
  (sSeq (sAsg (eIf (tBl (e2 (eV 3) (eC (.int 0)) dGt)) (eV 4) (e2 (eC (.int 0)) (eV 4) dSub)) (gNm 4))
  (sRt (eA (aCons (e2 (eV 0) (eV 4) dFdiv) (aCons (e2 (eV 1) (eV 4) dFdiv) (aCons (eV 2) (aCons (e2 (eV 3) (eV 4) dFdiv) (aNil))))) oTup))))
def m_law_lowest : List DV → Option DV
  | [.int p, .int q, .int d, .int s] => if s ≠ 0 ∧ s.natAbs < 2 ^ 8999 then some (nm (lowL p q d s)) else none
  | _ => none
theorem gcdZ_gc (p q s : Int) : gcdZ (gcdZ p q) s = gc p q s := rfl
theorem t_law_lowest : ∀ ds d, m_law_lowest ds = some d → bodyP 4 5 b_law_lowest ds = some d := by
  intro ds d h
  unfold m_law_lowest at h
  split at h
  · rename_i p q e s
    split at h
    · rename_i hs
      obtain ⟨h1, h2⟩ := hs
      cases h
      have c1 : ∀ a b : Int, m_law_common [.int a, .int b] = some (.int (gcdZ a b)) := fun _ _ => rfl
      have hl : (4 : Nat) ≤ sizeLine := by decide
      have hl2 : (2 : Nat) ≤ sizeLine := by decide
      have main : ∀ q' e' : Int, ∃ st, sIf (tOo (tBl (e2 (eV 1) (eC (.int 0)) dEq)) (tBl (e2 (eV 2) (eC (.int 0)) dEq))) (sAsg (eA (aCons (eC (.int 0)) (aCons (eC (.int 0)) (aNil))) oTup) (gTp 2 (gCo (gNm 1) (gCo (gNm 2) (gNi))))) (sNx) ⟨[some (.dat (.int p)), some (.dat (.int q)), some (.dat (.int e)), some (.dat (.int s)), none], spl0⟩ = st := fun _ _ => ⟨_, rfl⟩
      have hsg : ∀ q' : Int, (if 0 < s then gc p q' s else 0 - gc p q' s) = sgc p q' s := by
        intro q'
        unfold sgc
        by_cases z : 0 < s
        · rw [if_pos z, if_neg (by omega)]
        · rw [if_neg z, if_pos (by omega)]; omega
      have hc : ∀ q' : Int, decide (sgc p q' s ≠ 0 ∧ (sgc p q' s).natAbs.log2 < 9000) = true := fun q' => decide_eq_true (div_ok (sgc_ne h1) (Nat.lt_of_le_of_lt (sgc_le h1) h2))
      have hz : (0 : Int).fdiv (sgc p 0 s) = 0 := Int.zero_fdiv _
      clear main
      by_cases hq : q = 0 ∨ e = 0
      · rw [show lowL p q e s = _ from if_pos hq, show low p 0 0 s = _ from if_pos rfl]
        by_cases zq : q = 0
        · have z1 := beq_t zq
          unfold b_law_lowest nm
          by_cases z : 0 < s
          · have hs1 := hsg 0
            rw [if_pos z] at hs1
            have z' : decide (0 < s) = true := decide_eq_true z
            have hc0 := hc 0
            simp only [bodyP, bodyS, bodyR, sSeq, sIf, sNx, sRt, sRtX, sAsgX, sRs, eX, eJs, eJn, dFmt, sAsg, sDr, sPar, sAug, sSp, sOwn, sApp, lDs, eSp, eS, tBl, tTr, tAn, tOo, tNo, eC, eV, eA, eIf, eAn, eOo, eNo, e1, e2, eIxN, FD.peek, aCons, aNil, gNm, gTp, gLs, gCo, gNi, dI, dAddI, dMulI, dAdd, dSub, dMul, dFdiv, dMod, dNeg, dGcd, dMax, dMin, dAbs, dSq, dLen, dEq_int, dNe_int, dIx, oTup, oLst, truD, List.length_cons, List.length_nil, List.map_cons, List.map_nil, List.cons_append, List.nil_append, List.replicate_succ, List.replicate_zero, List.getElem?_cons_zero, List.getElem?_cons_succ, List.set_cons_succ, List.set_cons_zero, Nat.reduceAdd, Nat.reduceSub, Nat.sub_self, if_true, decide_true, decide_false, Bool.not_true, Bool.not_false, Bool.false_eq_true, if_false, reduceCtorEq, z1, hl2, c1, gcdZ_gc, z', hs1, hc0, hl, hz]
          · have hs1 := hsg 0
            rw [if_neg z] at hs1
            have z' : decide (0 < s) = false := decide_eq_false z
            have hc0 := hc 0
            simp only [bodyP, bodyS, bodyR, sSeq, sIf, sNx, sRt, sRtX, sAsgX, sRs, eX, eJs, eJn, dFmt, sAsg, sDr, sPar, sAug, sSp, sOwn, sApp, lDs, eSp, eS, tBl, tTr, tAn, tOo, tNo, eC, eV, eA, eIf, eAn, eOo, eNo, e1, e2, eIxN, FD.peek, aCons, aNil, gNm, gTp, gLs, gCo, gNi, dI, dAddI, dMulI, dAdd, dSub, dMul, dFdiv, dMod, dNeg, dGcd, dMax, dMin, dAbs, dSq, dLen, dEq_int, dNe_int, dIx, oTup, oLst, truD, List.length_cons, List.length_nil, List.map_cons, List.map_nil, List.cons_append, List.nil_append, List.replicate_succ, List.replicate_zero, List.getElem?_cons_zero, List.getElem?_cons_succ, List.set_cons_succ, List.set_cons_zero, Nat.reduceAdd, Nat.reduceSub, Nat.sub_self, if_true, decide_true, decide_false, Bool.not_true, Bool.not_false, Bool.false_eq_true, if_false, reduceCtorEq, z1, hl2, c1, gcdZ_gc, z', hs1, hc0, hl, hz]
        · have z1 := beq_f zq
          have z2 := beq_t (hq.resolve_left zq)
          unfold b_law_lowest nm
          by_cases z : 0 < s
          · have hs1 := hsg 0
            rw [if_pos z] at hs1
            have z' : decide (0 < s) = true := decide_eq_true z
            have hc0 := hc 0
            simp only [bodyP, bodyS, bodyR, sSeq, sIf, sNx, sRt, sRtX, sAsgX, sRs, eX, eJs, eJn, dFmt, sAsg, sDr, sPar, sAug, sSp, sOwn, sApp, lDs, eSp, eS, tBl, tTr, tAn, tOo, tNo, eC, eV, eA, eIf, eAn, eOo, eNo, e1, e2, eIxN, FD.peek, aCons, aNil, gNm, gTp, gLs, gCo, gNi, dI, dAddI, dMulI, dAdd, dSub, dMul, dFdiv, dMod, dNeg, dGcd, dMax, dMin, dAbs, dSq, dLen, dEq_int, dNe_int, dIx, oTup, oLst, truD, List.length_cons, List.length_nil, List.map_cons, List.map_nil, List.cons_append, List.nil_append, List.replicate_succ, List.replicate_zero, List.getElem?_cons_zero, List.getElem?_cons_succ, List.set_cons_succ, List.set_cons_zero, Nat.reduceAdd, Nat.reduceSub, Nat.sub_self, if_true, decide_true, decide_false, Bool.not_true, Bool.not_false, Bool.false_eq_true, if_false, reduceCtorEq, z1, z2, hl2, c1, gcdZ_gc, z', hs1, hc0, hl, hz]
          · have hs1 := hsg 0
            rw [if_neg z] at hs1
            have z' : decide (0 < s) = false := decide_eq_false z
            have hc0 := hc 0
            simp only [bodyP, bodyS, bodyR, sSeq, sIf, sNx, sRt, sRtX, sAsgX, sRs, eX, eJs, eJn, dFmt, sAsg, sDr, sPar, sAug, sSp, sOwn, sApp, lDs, eSp, eS, tBl, tTr, tAn, tOo, tNo, eC, eV, eA, eIf, eAn, eOo, eNo, e1, e2, eIxN, FD.peek, aCons, aNil, gNm, gTp, gLs, gCo, gNi, dI, dAddI, dMulI, dAdd, dSub, dMul, dFdiv, dMod, dNeg, dGcd, dMax, dMin, dAbs, dSq, dLen, dEq_int, dNe_int, dIx, oTup, oLst, truD, List.length_cons, List.length_nil, List.map_cons, List.map_nil, List.cons_append, List.nil_append, List.replicate_succ, List.replicate_zero, List.getElem?_cons_zero, List.getElem?_cons_succ, List.set_cons_succ, List.set_cons_zero, Nat.reduceAdd, Nat.reduceSub, Nat.sub_self, if_true, decide_true, decide_false, Bool.not_true, Bool.not_false, Bool.false_eq_true, if_false, reduceCtorEq, z1, z2, hl2, c1, gcdZ_gc, z', hs1, hc0, hl, hz]
      · have hq1 : q ≠ 0 := fun w => hq (.inl w)
        have hq2 : e ≠ 0 := fun w => hq (.inr w)
        rw [show lowL p q e s = _ from if_neg hq, show low p q e s = _ from if_neg hq1]
        have z1 := beq_f hq1
        have z2 := beq_f hq2
        unfold b_law_lowest nm
        by_cases z : 0 < s
        · have hs1 := hsg q
          rw [if_pos z] at hs1
          have z' : decide (0 < s) = true := decide_eq_true z
          have hc0 := hc q
          simp only [bodyP, bodyS, bodyR, sSeq, sIf, sNx, sRt, sRtX, sAsgX, sRs, eX, eJs, eJn, dFmt, sAsg, sDr, sPar, sAug, sSp, sOwn, sApp, lDs, eSp, eS, tBl, tTr, tAn, tOo, tNo, eC, eV, eA, eIf, eAn, eOo, eNo, e1, e2, eIxN, FD.peek, aCons, aNil, gNm, gTp, gLs, gCo, gNi, dI, dAddI, dMulI, dAdd, dSub, dMul, dFdiv, dMod, dNeg, dGcd, dMax, dMin, dAbs, dSq, dLen, dEq_int, dNe_int, dIx, oTup, oLst, truD, List.length_cons, List.length_nil, List.map_cons, List.map_nil, List.cons_append, List.nil_append, List.replicate_succ, List.replicate_zero, List.getElem?_cons_zero, List.getElem?_cons_succ, List.set_cons_succ, List.set_cons_zero, Nat.reduceAdd, Nat.reduceSub, Nat.sub_self, if_true, decide_true, decide_false, Bool.not_true, Bool.not_false, Bool.false_eq_true, if_false, reduceCtorEq, z1, z2, c1, gcdZ_gc, z', hs1, hc0, hl]
        · have hs1 := hsg q
          rw [if_neg z] at hs1
          have z' : decide (0 < s) = false := decide_eq_false z
          have hc0 := hc q
          simp only [bodyP, bodyS, bodyR, sSeq, sIf, sNx, sRt, sRtX, sAsgX, sRs, eX, eJs, eJn, dFmt, sAsg, sDr, sPar, sAug, sSp, sOwn, sApp, lDs, eSp, eS, tBl, tTr, tAn, tOo, tNo, eC, eV, eA, eIf, eAn, eOo, eNo, e1, e2, eIxN, FD.peek, aCons, aNil, gNm, gTp, gLs, gCo, gNi, dI, dAddI, dMulI, dAdd, dSub, dMul, dFdiv, dMod, dNeg, dGcd, dMax, dMin, dAbs, dSq, dLen, dEq_int, dNe_int, dIx, oTup, oLst, truD, List.length_cons, List.length_nil, List.map_cons, List.map_nil, List.cons_append, List.nil_append, List.replicate_succ, List.replicate_zero, List.getElem?_cons_zero, List.getElem?_cons_succ, List.set_cons_succ, List.set_cons_zero, Nat.reduceAdd, Nat.reduceSub, Nat.sub_self, if_true, decide_true, decide_false, Bool.not_true, Bool.not_false, Bool.false_eq_true, if_false, reduceCtorEq, z1, z2, c1, gcdZ_gc, z', hs1, hc0, hl]
    · cases h
  · cases h
def okQ (x y : Num) : Prop := x.2.2.1.natAbs < 2 ^ 40 ∧ y.2.2.1.natAbs < 2 ^ 40 ∧ x.2.2.2 ≠ 0 ∧ y.2.2.2 ≠ 0 ∧ SzN 4000 x ∧ SzN 4000 y
instance (x y : Num) : Decidable (okQ x y) := by unfold okQ SzN; exact inferInstance
/-! ## the law's own arithmetic -/
def addL (x y : Num) : Num := lowL (x.1 * y.2.2.2 + y.1 * x.2.2.2) (x.2.1 * y.2.2.2 + y.2.1 * x.2.2.2) (rootOf x.2.2.1 y.2.2.1) (x.2.2.2 * y.2.2.2)
def mulL (x y : Num) : Num := lowL (x.1 * y.1 + x.2.1 * y.2.1 * rootOf x.2.2.1 y.2.2.1) (x.1 * y.2.1 + x.2.1 * y.1) (rootOf x.2.2.1 y.2.2.1) (x.2.2.2 * y.2.2.2)
def invL (x : Num) : Num := lowL (x.1 * x.2.2.2) (0 - x.2.1 * x.2.2.2) x.2.2.1 (x.1 * x.1 - x.2.1 * x.2.1 * x.2.2.1)
theorem low_ok {p q d s : Int} (h : s ≠ 0) (h9 : s.natAbs < 2 ^ 8999) : m_law_lowest [.int p, .int q, .int d, .int s] = some (nm (lowL p q d s)) := if_pos ⟨h, h9⟩
def b_law_add : SF :=
  sSeq (sAsg (e2 (e2 (eIxN 0 (eC (.int 0))) (eIxN 1 (eC (.int 3))) dMul) (e2 (eIxN 1 (eC (.int 0))) (eIxN 0 (eC (.int 3))) dMul) dAdd) (gNm 2))
  (sSeq (sAsg (e2 (e2 (eIxN 0 (eC (.int 1))) (eIxN 1 (eC (.int 3))) dMul) (e2 (eIxN 1 (eC (.int 1))) (eIxN 0 (eC (.int 3))) dMul) dAdd) (gNm 3))
  (sRt (eA (aCons (eV 2) (aCons (eV 3) (aCons (eA (aCons (eIxN 0 (eC (.int 2))) (aCons (eIxN 1 (eC (.int 2))) (aNil))) dMax) (aCons (e2 (eIxN 0 (eC (.int 3))) (eIxN 1 (eC (.int 3))) dMul) (aNil))))) m_law_lowest)))
def m_law_add : List DV → Option DV
  | [.tup [.int p, .int q, .int d, .int s], .tup [.int p', .int q', .int d', .int s']] => if okQ (p, q, d, s) (p', q', d', s') then some (nm (addL (p, q, d, s) (p', q', d', s'))) else none
  | _ => none
theorem t_law_add : ∀ ds d, m_law_add ds = some d → bodyP 2 4 b_law_add ds = some d := by
  intro ds d h
  unfold m_law_add at h
  split at h
  · rename_i p q e s p' q' e' s'
    split at h
    · rename_i ok
      obtain ⟨hd, hd', hs, hs', ⟨z1, z2, z3, z4⟩, z5, z6, z7, z8⟩ := ok
      cases h
      have i0 : atI [DV.int p, .int q, .int e, .int s] 0 = some (.int p) := rfl
      have i1 : atI [DV.int p, .int q, .int e, .int s] 1 = some (.int q) := rfl
      have i2 : atI [DV.int p, .int q, .int e, .int s] 2 = some (.int e) := rfl
      have i3 : atI [DV.int p, .int q, .int e, .int s] 3 = some (.int s) := rfl
      have j0 : atI [DV.int p', .int q', .int e', .int s'] 0 = some (.int p') := rfl
      have j1 : atI [DV.int p', .int q', .int e', .int s'] 1 = some (.int q') := rfl
      have j2 : atI [DV.int p', .int q', .int e', .int s'] 2 = some (.int e') := rfl
      have j3 : atI [DV.int p', .int q', .int e', .int s'] 3 = some (.int s') := rfl
      have f1 := fit_of z1 z8
      have f2 := fit_of z5 z4
      have f3 := fit_of z2 z8
      have f4 := fit_of z6 z4
      have f5 := fit_of z4 z8
      have c2 := low_ok (p := p * s' + p' * s) (q := q * s' + q' * s) (d := rootOf e e') (Int.mul_ne_zero hs hs') (lt_up (mul_lt z4 z8))
      clear hd hd' hs hs' z1 z2 z3 z4 z5 z6 z7 z8
      unfold rootOf at c2
      unfold b_law_add addL rootOf
      walk_at "fd"
    · cases h
  · cases h
def b_law_negative : SF :=
  sRt (eA (aCons (e2 (eC (.int 0)) (eIxN 0 (eC (.int 0))) dSub) (aCons (e2 (eC (.int 0)) (eIxN 0 (eC (.int 1))) dSub) (aCons (eIxN 0 (eC (.int 2))) (aCons (eIxN 0 (eC (.int 3))) (aNil))))) oTup)
def m_law_negative : List DV → Option DV
  | [.tup [.int p, .int q, .int d, .int s]] => some (nm (0 - p, 0 - q, d, s))
  | _ => none
theorem t_law_negative : ∀ ds d, m_law_negative ds = some d → bodyP 1 1 b_law_negative ds = some d := by
  intro ds d h
  unfold m_law_negative at h
  split at h
  · rename_i p q e s
    cases h
    have h4 := four_le
    have i0 : atI [DV.int p, .int q, .int e, .int s] 0 = some (.int p) := rfl
    have i1 : atI [DV.int p, .int q, .int e, .int s] 1 = some (.int q) := rfl
    have i2 : atI [DV.int p, .int q, .int e, .int s] 2 = some (.int e) := rfl
    have i3 : atI [DV.int p, .int q, .int e, .int s] 3 = some (.int s) := rfl
    unfold b_law_negative nm
    walk_at "fd"
  · cases h
end T4

set_option maxRecDepth 100000
set_option maxHeartbeats 4000000
set_option exponentiation.threshold 20000
namespace T4
open PySem L2 FD
local macro_rules | `(tactic| walk_at "fd") => `(tactic| simp only [bodyP, bodyS, bodyR, sSeq, sIf, sNx, sRt, sRtX, sAsgX, sRs, eX, eJs, eJn, dFmt, sAsg, sDr, sPar, sAug, sSp, sOwn, sApp, lDs, eSp, eS, tBl, tTr, tAn, tOo, tNo, eC, eV, eA, eIf, eAn, eOo, eNo, e1, e2, eIxN, FD.peek, aCons, aNil, gNm, gTp, gLs, gCo, gNi, dI, dAddI, dMulI, dAdd, dSub, dMul, dFdiv, dMod, dNeg, dGcd, dMax, dMin, dAbs, dSq, dLen, dEq_int, dNe_int, dIx, oTup, oLst, truD, List.length_cons, List.length_nil, List.map_cons, List.map_nil, List.cons_append, List.nil_append, List.replicate_succ, List.replicate_zero, List.getElem?_cons_zero, List.getElem?_cons_succ, List.set_cons_succ, List.set_cons_zero, Nat.reduceAdd, Nat.reduceSub, Nat.sub_self, if_true, decide_true, decide_false, Bool.not_true, Bool.not_false, Bool.false_eq_true, if_false, reduceCtorEq, *])
/-! ## the spool -/
def Md : Int := 1180591620717411303449
def stirStep (place v turn : Int) : Int := (v * v + 3 * v + 32452843 * turn + place).fmod Md
def stir0 (cell place : Int) : Int := (cell * 2685821657736338717 + place * 2891336453 + 19).fmod Md
def stirV (cell place : Int) : Int := stirStep place (stirStep place (stirStep place (stirStep place (stir0 cell place) 0) 1) 2) 3
def stir (cell place : Int) : Int := stirV cell place * Md + (stirV cell place * 1103515245 + place).fmod Md
theorem fmod_sz (a : Int) : (a.fmod Md).natAbs < 2 ^ 71 := by
  have h1 := Int.fmod_nonneg_of_pos a (show (0 : Int) < Md by decide)
  have h2 := Int.fmod_lt_of_pos a (show (0 : Int) < Md by decide)
  have h3 : Md < 2 ^ 71 := by decide
  omega
theorem md_ne : (Md ≠ 0) = True := by decide
def b_law_stirred : SF :=
  sSeq (sAsg (eC (.int 1180591620717411303449)) (gNm 2))
  (sSeq (sAsg (e2 (e2 (e2 (e2 (eV 0) (eC (.int 2685821657736338717)) dMul) (e2 (eV 1) (eC (.int 2891336453)) dMul) dAdd) (eC (.int 19)) dAdd) (eV 2) dMod) (gNm 3))
  (sSeq (sFr (iRg1 (aCons (eC (.int 4)) (aNil))) (gNm 4) (sAsg (e2 (e2 (e2 (e2 (e2 (eV 3) (eV 3) dMul) (e2 (eC (.int 3)) (eV 3) dMul) dAdd) (e2 (eC (.int 32452843)) (eV 4) dMul) dAdd) (eV 1) dAdd) (eV 2) dMod) (gNm 3)))
  (sRt (e2 (e2 (eV 3) (eV 2) dMul) (e2 (e2 (e2 (eV 3) (eC (.int 1103515245)) dMul) (eV 1) dAdd) (eV 2) dMod) dAdd))))
def m_law_stirred : List DV → Option DV
  | [.int c, .int p] => if Sz 100 c ∧ Sz 100 p then some (.int (stir c p)) else none
  | _ => none
theorem t_law_stirred : ∀ ds d, m_law_stirred ds = some d → bodyP 2 5 b_law_stirred ds = some d := by
  intro ds d h
  unfold m_law_stirred at h
  split at h
  · rename_i c p
    split at h
    · rename_i ok
      obtain ⟨z1, z2⟩ := ok
      cases h
      have f1 : fitM c 2685821657736338717 = true := fit_of z1 (show Int.natAbs 2685821657736338717 < 2 ^ 100 by decide)
      have f2 : fitM p 2891336453 = true := fit_of z2 (show Int.natAbs 2891336453 < 2 ^ 100 by decide)
      have step : ∀ v turn : Int, v.natAbs < 2 ^ 71 → turn.natAbs < 2 ^ 10 → fitM v v = true ∧ fitM 3 v = true ∧ fitM 32452843 turn = true := fun v t h1 h2 =>
        ⟨fit_of h1 h1, fit_of (show Int.natAbs 3 < 2 ^ 100 by decide) h1, fit_of (show Int.natAbs 32452843 < 2 ^ 100 by decide) h2⟩
      have g0 := fmod_sz (c * 2685821657736338717 + p * 2891336453 + 19)
      have g1 := fun v t => fmod_sz (v * v + 3 * v + 32452843 * t + p)
      obtain ⟨a0, b0, d0⟩ := step (stir0 c p) 0 g0 (by decide)
      obtain ⟨a1, b1, d1⟩ := step (stirStep p (stir0 c p) 0) 1 (g1 _ _) (by decide)
      obtain ⟨a2, b2, d2⟩ := step (stirStep p (stirStep p (stir0 c p) 0) 1) 2 (g1 _ _) (by decide)
      obtain ⟨a3, b3, d3⟩ := step (stirStep p (stirStep p (stirStep p (stir0 c p) 0) 1) 2) 3 (g1 _ _) (by decide)
      have hv : (stirV c p).natAbs < 2 ^ 71 := g1 _ _
      have f3 : fitM (stirV c p) Md = true := fit_of hv (show Int.natAbs Md < 2 ^ 100 by decide)
      have f3' : fitM (stirV c p) 1180591620717411303449 = true := f3
      have f4 : fitM (stirV c p) 1103515245 = true := fit_of hv (show Int.natAbs 1103515245 < 2 ^ 100 by decide)
      have hm : decide ((1180591620717411303449 : Int) ≠ 0) = true := rfl
      have hr : inR 4 = true := rfl
      clear z1 z2 step g0 g1 hv
      have e0 : (c * 2685821657736338717 + p * 2891336453 + 19).fmod 1180591620717411303449 = stir0 c p := rfl
      have es : ∀ v t : Int, (v * v + 3 * v + 32452843 * t + p).fmod 1180591620717411303449 = stirStep p v t := fun _ _ => rfl
      have ev : stirStep p (stirStep p (stirStep p (stirStep p (stir0 c p) 0) 1) 2) 3 = stirV c p := rfl
      have eM : (1180591620717411303449 : Int) = Md := rfl
      have rg : rngD 0 (Int.toNat 4) = [.int 0, .int 1, .int 2, .int 3] := rfl
      unfold b_law_stirred stir
      simp only [bodyP, sSeq, sAsg, sFr, sRt, iRg1, eC, eV, e2, aCons, aNil, gNm, dAdd, dMul, dMod, List.length_cons, List.length_nil, List.map_cons, List.map_nil, List.cons_append, List.nil_append, List.replicate_succ, List.replicate_zero, List.getElem?_cons_zero, List.getElem?_cons_succ, List.set_cons_succ, List.set_cons_zero, Nat.reduceAdd, Nat.reduceSub, if_true, f1, f2, hm, hr, e0, rg, frN, a0, b0, d0, es, a1, b1, d1, a2, b2, d2, a3, b3, d3, ev, f3', f4]
      rfl
    · cases h
  · cases h
def okN (ns : List Int) : Prop := True
theorem lay_ints : ∀ ns : List Int, PyData.canLayAll0 (ns.map PyData.int) = true ∧ PyData.depthAll (ns.map PyData.int) ≤ 0
  | [] => ⟨rfl, Nat.le_refl _⟩
  | n :: ns => ⟨by
      show (true && PyData.canLayAll0 (ns.map PyData.int)) = true
      rw [(lay_ints ns).1]; rfl, by
      show max (PyData.depth (.int n)) (PyData.depthAll (ns.map PyData.int)) ≤ 0
      have := (lay_ints ns).2
      have h2 : PyData.depth (.int n) = 0 := rfl
      omega⟩
theorem toPyL_ints : ∀ ns : List Int, toPyL (ns.map DV.int) = some (ns.map PyData.int)
  | [] => rfl
  | n :: ns => by
    show (match toPy (.int n) with
      | some x => match toPyL (ns.map DV.int) with
        | some r => some (x :: r)
        | none => none
      | none => none) = _
    rw [toPyL_ints ns]
    rfl
theorem shaped_ints (ns : List Int) : SeqAt.shaped (.list (ns.map PyData.int)) = true := by
  obtain ⟨h1, h2⟩ := lay_ints ns
  unfold SeqAt.shaped
  have e1 : PyData.canLay0 (.list (ns.map PyData.int)) = true := h1
  have e2 : PyData.depth (.list (ns.map PyData.int)) = PyData.depthAll (ns.map PyData.int) + 1 := rfl
  rw [e1, e2, decide_eq_true (by omega)]
  rfl
theorem dNe_nil (ns : List Int) : dNe (.lst (ns.map DV.int)) (.lst []) = some (.bl (!ns.isEmpty)) := by
  unfold dNe
  have e1 : toPy (.lst (ns.map DV.int)) = some (.list (ns.map PyData.int)) := by
    show (toPyL (ns.map DV.int)).map PyData.list = _
    rw [toPyL_ints]
    rfl
  have e2 : toPy (.lst []) = some (.list []) := rfl
  rw [e1, e2]
  dsimp only
  rw [shaped_ints]
  cases ns <;> rfl
def cell0 (s : Spl) : Int := if s.nums = [] then 0 else (s.nums[(s.place.fmod (s.nums.length : Int)).toNat]?).getD 0
def cell1 (s : Spl) : Int := if (s.nums.length : Int) ≤ s.place ∨ cell0 s < 10 ^ 15 then stir ((cell0 s).fmod 998244353) s.place else cell0 s
def turnS (s : Spl) (b : Int) : Spl := if s.size < b then ⟨s.nums, s.place + 1, cell1 s, cell1 s⟩ else s
def upV (s : Spl) (b : Int) : Int := (turnS s b).cell.fmod b
def upS (s : Spl) (b : Int) : Spl := ⟨(turnS s b).nums, (turnS s b).place, (turnS s b).cell.fdiv b, (turnS s b).size.fdiv b⟩
def okB (s : Spl) (b : Int) : Prop := 0 < b ∧ b.natAbs < 2 ^ 8999 ∧ Sz 90 s.place
instance (s : Spl) (b : Int) : Decidable (okB s b) := by unfold okB; exact inferInstance
theorem upV_lt {s : Spl} {b : Int} (h : 0 < b) : 0 ≤ upV s b ∧ upV s b < b := ⟨Int.fmod_nonneg_of_pos _ h, Int.fmod_lt_of_pos _ h⟩
theorem upS_place {s : Spl} {b : Int} : (upS s b).place = s.place ∨ (upS s b).place = s.place + 1 := by
  unfold upS turnS
  dsimp only
  split
  · exact .inr rfl
  · exact .inl rfl
def b_law_upto : SF :=
  sSeq (sIf (tBl (e2 (eSp 0 3) (eV 1) dLt)) (sSeq (sPar 2 3 (aCons (eSp 0 0) (aCons (eSp 0 1) (aNil))))
  (sSeq (sAsg (eIf (tBl (e2 (eV 2) (eA (aNil) oLst) dNe)) (eIxN 2 (e2 (eV 3) (eA (aCons (eV 2) (aNil)) dLen) dMod)) (eC (.int 0))) (gNm 4))
  (sSeq (sIf (tOo (tBl (e2 (eV 3) (eA (aCons (eV 2) (aNil)) dLen) dGe)) (tBl (e2 (eV 4) (e2 (eC (.int 10)) (eC (.int 15)) dPow) dLt))) (sAsg (eA (aCons (e2 (eV 4) (eC (.int 998244353)) dMod) (aCons (eV 3) (aNil))) m_law_stirred) (gNm 4)) (sNx))
  (sSeq (sSp 0 1 (e2 (eV 3) (eC (.int 1)) dAdd))
  (sSeq (sSp 0 2 (eV 4))
  (sSp 0 3 (eV 4))))))) (sNx))
  (sSeq (sAsg (e2 (eSp 0 2) (eV 1) dMod) (gNm 5))
  (sSeq (sSp 0 2 (e2 (eSp 0 2) (eV 1) dFdiv))
  (sSeq (sSp 0 3 (e2 (eSp 0 3) (eV 1) dFdiv))
  (sRt (eV 5)))))
def m_law_upto : List DV → Spl → Option (DV × Spl)
  | [.int b], s => if okB s b then some (.int (upV s b), upS s b) else none
  | _, _ => none
theorem t_law_upto : ∀ ds s d, m_law_upto ds s = some d → bodyS 2 6 b_law_upto ds s = some d := by
  intro ds s d h
  unfold m_law_upto at h
  split at h
  · rename_i b
    split at h
    · rename_i ok
      obtain ⟨hb, hb9, hp⟩ := ok
      cases h
      have hd : decide (b ≠ 0 ∧ b.natAbs.log2 < 9000) = true := decide_eq_true (div_ok (by omega) hb9)
      have hm : decide (b ≠ 0) = true := decide_eq_true (by omega)
      obtain ⟨nums, place, cell, size⟩ := s
      have hp' : place.natAbs < 2 ^ 90 := hp
      have hpow : decide (0 ≤ (15 : Int) ∧ (15 : Int) ≤ 1000000 ∧ (10 : Int).natAbs < 2 ^ 64) = true := rfl
      have epow : (10 : Int) ^ (Int.toNat 15) = 10 ^ 15 := rfl
      have c1 : ∀ c : Int, m_law_stirred [.int (c.fmod 998244353), .int place] = some (.int (stir (c.fmod 998244353) place)) := fun c => by
        refine if_pos ⟨?_, lt_up hp'⟩
        have h1 := Int.fmod_nonneg_of_pos c (show (0 : Int) < 998244353 by decide)
        have h2 := Int.fmod_lt_of_pos c (show (0 : Int) < 998244353 by decide)
        show (c.fmod 998244353).natAbs < 2 ^ 100
        have h3 : (998244353 : Int) < 2 ^ 100 := by decide
        omega
      have h9 : decide ((998244353 : Int) ≠ 0) = true := rfl
      clear hb9 hp hp'
      unfold upV upS turnS
      by_cases h1 : size < b
      · have hcell : ∀ sl : List (Option SV), sl[2]? = some (some (.dat (.lst (nums.map .int)))) → sl[3]? = some (some (.dat (.int place))) → ∀ sp : Spl,
            eIf (tBl (e2 (eV 2) (eA (aNil) oLst) dNe)) (eIxN 2 (e2 (eV 3) (eA (aCons (eV 2) (aNil)) dLen) dMod)) (eC (.int 0)) ⟨sl, sp⟩ = some (.int (cell0 ⟨nums, place, cell, size⟩), ⟨sl, sp⟩) := by
          intro sl h2 h3 sp
          have h0 : (0 : Nat) ≤ sizeLine := Nat.zero_le _
          cases nums with
          | nil =>
            have e := dNe_nil []
            rw [List.map_nil] at e h2
            simp only [eIf, tBl, e2, eV, h2, eA, aNil, oLst, List.length_nil, h0, if_true, e, List.isEmpty_nil, Bool.not_true, eC]
            first | done | rfl
          | cons n ns =>
            have e := dNe_nil (n :: ns)
            have hl : (0 : Int) < ((n :: ns).map DV.int).length := by simp
            have hl2 : decide ((((n :: ns).map DV.int).length : Int) ≠ 0) = true := decide_eq_true (by omega)
            have k1 := Int.fmod_nonneg_of_pos place hl
            have k2 := Int.fmod_lt_of_pos place hl
            have ex : atI ((n :: ns).map DV.int) (place.fmod (((n :: ns).map DV.int).length : Int)) = some (.int (cell0 ⟨n :: ns, place, cell, size⟩)) := by
              unfold atI ixN
              rw [if_pos k1, if_pos k2]
              show ((n :: ns).map DV.int)[_]? = _
              have k3 : (place.fmod (((n :: ns).map DV.int).length : Int)).toNat < (n :: ns).length := by
                rw [List.length_map] at k2 k1 ⊢
                omega
              have k4 : cell0 ⟨n :: ns, place, cell, size⟩ = ((n :: ns)[(place.fmod ((n :: ns).length : Int)).toNat]?).getD 0 := if_neg (fun z => nomatch z)
              rw [List.length_map] at k3 ⊢
              rw [k4, List.getElem?_map, List.getElem?_eq_getElem k3]
              rfl
            simp only [eIf, tBl, e2, eV, h2, h3, eA, aNil, aCons, oLst, List.length_nil, h0, if_true, e, List.isEmpty_cons, Bool.not_false, eIxN, FD.peek, dLen, dMod, hl2, dIx, ex]
        have hlen : ((nums.map DV.int).length : Int) = (nums.length : Int) := by rw [List.length_map]
        unfold b_law_upto
        simp only [h1, if_true]
        have hc := hcell [some .spl, some (.dat (.int b)), some (.dat (.lst (nums.map .int))), some (.dat (.int place)), none, none] rfl rfl ⟨nums, place, cell, size⟩
        clear hcell
        have hc1 : cell1 ⟨nums, place, cell, size⟩ = if (nums.length : Int) ≤ place ∨ cell0 ⟨nums, place, cell, size⟩ < 10 ^ 15 then stir ((cell0 ⟨nums, place, cell, size⟩).fmod 998244353) place else cell0 ⟨nums, place, cell, size⟩ := rfl
        generalize cell0 ⟨nums, place, cell, size⟩ = c0 at hc hc1
        generalize cell1 ⟨nums, place, cell, size⟩ = r at hc1 ⊢
        by_cases h2 : (nums.length : Int) ≤ place
        · rw [if_pos (.inl h2)] at hc1
          have h2' : decide ((nums.length : Int) ≤ place) = true := decide_eq_true h2
          clear h2
          subst hc1
          simp only [bodyS, sSeq, sIf, sNx, sRt, sAsg, tBl, tOo, eA, e2, eSp, sSp, eV, eC, dI, sPar, aCons, aNil, gNm, dGe, dLt, dPow, dMod, dFdiv, dLen, dAdd, List.length_cons, List.length_nil, List.map_cons, List.map_nil, List.cons_append, List.nil_append, List.replicate_succ, List.replicate_zero, List.getElem?_cons_zero, List.getElem?_cons_succ, List.set_cons_succ, List.set_cons_zero, Nat.reduceAdd, Nat.reduceSub, if_true, decide_true, decide_false, reduceIte, Int.reduceEq, h1, hc, hlen, h2', h9, c1, hm, hd]
        · by_cases h3 : c0 < 10 ^ 15
          · rw [if_pos (.inr h3)] at hc1
            have h2' : decide ((nums.length : Int) ≤ place) = false := decide_eq_false h2
            have h3' : decide (c0 < (10 : Int) ^ (Int.toNat 15)) = true := decide_eq_true h3
            clear h2 h3
            subst hc1
            simp only [bodyS, sSeq, sIf, sNx, sRt, sAsg, tBl, tOo, eA, e2, eSp, sSp, eV, eC, dI, sPar, aCons, aNil, gNm, dGe, dLt, dPow, dMod, dFdiv, dLen, dAdd, List.length_cons, List.length_nil, List.map_cons, List.map_nil, List.cons_append, List.nil_append, List.replicate_succ, List.replicate_zero, List.getElem?_cons_zero, List.getElem?_cons_succ, List.set_cons_succ, List.set_cons_zero, Nat.reduceAdd, Nat.reduceSub, if_true, decide_true, decide_false, reduceIte, Int.reduceEq, h1, hc, hlen, h2', h3', hpow, h9, c1, hm, hd]
          · rw [if_neg (fun z => z.elim h2 h3)] at hc1
            have h2' : decide ((nums.length : Int) ≤ place) = false := decide_eq_false h2
            have h3' : decide (c0 < (10 : Int) ^ (Int.toNat 15)) = false := decide_eq_false h3
            clear h2 h3
            subst hc1
            simp only [bodyS, sSeq, sIf, sNx, sRt, sAsg, tBl, tOo, eA, e2, eSp, sSp, eV, eC, dI, sPar, aCons, aNil, gNm, dGe, dLt, dPow, dMod, dFdiv, dLen, dAdd, List.length_cons, List.length_nil, List.map_cons, List.map_nil, List.cons_append, List.nil_append, List.replicate_succ, List.replicate_zero, List.getElem?_cons_zero, List.getElem?_cons_succ, List.set_cons_succ, List.set_cons_zero, Nat.reduceAdd, Nat.reduceSub, if_true, decide_true, decide_false, reduceIte, Int.reduceEq, h1, hc, hlen, h2', h3', hpow, h9, c1, hm, hd]
      · unfold b_law_upto
        have h1' : decide (size < b) = false := decide_eq_false h1
        simp only [h1, if_false]
        clear h1
        simp only [bodyS, sSeq, sIf, sNx, sRt, sAsg, tBl, tOo, eA, e2, eSp, sSp, eV, eC, dI, sPar, aCons, aNil, gNm, dGe, dLt, dPow, dMod, dFdiv, dLen, dAdd, List.length_cons, List.length_nil, List.map_cons, List.map_nil, List.cons_append, List.nil_append, List.replicate_succ, List.replicate_zero, List.getElem?_cons_zero, List.getElem?_cons_succ, List.set_cons_succ, List.set_cons_zero, Nat.reduceAdd, Nat.reduceSub, if_true, decide_true, decide_false, reduceIte, Int.reduceEq, h1', hm, hd]
    · cases h
  · cases h
def b_law_choice : SF :=
  sRt (eIxN 1 (eS 0 (aCons (eA (aCons (eV 1) (aNil)) dLen) (aNil)) m_law_upto))
def m_law_choice : List DV → Spl → Option (DV × Spl)
  | [.lst ds], s => if okB s (ds.length : Int) then (ds[(upV s (ds.length : Int)).toNat]?).map fun d => (d, upS s (ds.length : Int)) else none
  | _, _ => none
theorem t_law_choice : ∀ ds s d, m_law_choice ds s = some d → bodyS 2 2 b_law_choice ds s = some d := by
  intro ds s d h
  unfold m_law_choice at h
  split at h
  · rename_i ds
    split at h
    · rename_i ok
      have c1 : m_law_upto [.int (ds.length : Int)] s = some (.int (upV s (ds.length : Int)), upS s (ds.length : Int)) := if_pos ok
      have b1 := upV_lt (s := s) ok.1
      obtain ⟨e, e1', e2'⟩ := Option.map_eq_some_iff.mp h
      have c2 : atI ds (upV s (ds.length : Int)) = some e := by
        unfold atI ixN
        rw [if_pos b1.1, if_pos b1.2]
        exact e1'
      clear ok b1 h e1'
      subst e2'
      unfold b_law_choice
      walk_at "fd"
    · cases h
  · cases h
/-! ## the spool made -/
def absZ (n : Int) : Int := if n < 0 then -n else n
def addAt (l : List Int) (i : Nat) (c : Int) : List Int := l.set (i % 16) ((l[i % 16]?).getD 0 + absZ c)
def foldN : Nat → List Int → List Int → List Int
  | _, [], l => l
  | i, c :: cs, l => foldN (i + 1) cs (addAt l i c)
def sfN (ns : List Int) : List Int := foldN 0 ((ns.drop 16).take 48) ((ns.take 16).map absZ)
def sf (ns : List Int) : Option (List Int) := if ns.length ≤ 63 then some (sfN ns) else none
def b1_law_spool_of : SF :=
  sOwn 2 (lCp (iVal (eSlN 0 (oNo) (oSo (eC (.int 16))))) 1 (tY) (eA (aCons (eV 1) (aNil)) dAbs))
def b2_law_spool_of : SF :=
  sFr (iEn (eSlN 0 (oSo (eC (.int 16))) (oSo (eC (.int 64))))) (gTp 2 (gCo (gNm 3) (gCo (gNm 1) (gNi)))) (sPut 2 (e2 (eIxN 2 (e2 (eV 3) (eC (.int 16)) dMod)) (eA (aCons (eV 1) (aNil)) dAbs) dAdd) (e2 (eV 3) (eC (.int 16)) dMod))
def b3_law_spool_of : LF := lDs (aCons (eV 2) (aCons (eC (.int 0)) (aCons (eC (.int 0)) (aCons (eC (.int 0)) (aNil)))))
def mN_law_spool_of : List DV → Option (List DV)
  | [.scr ns] => (sf ns).map fun nums => [.lst (nums.map .int), .int 0, .int 0, .int 0]
  | _ => none
theorem cp_abs : ∀ (ns : List Int) (sl : List (Option SV)) (sp : Spl) (acc : List DV), 1 < sl.length → acc.length + ns.length ≤ 63 →
    cpN (ns.map DV.int) 1 tY (eA (aCons (eV 1) aNil) dAbs) ⟨sl.set 1 none, sp⟩ acc = some (acc ++ (ns.map absZ).map DV.int, ⟨sl.set 1 none, sp⟩)
  | [], sl, sp, acc, _, _ => by simp [cpN]
  | n :: ns, sl, sp, acc, h, hl => by
    have h1 : ((sl.set 1 none).set 1 (some (SV.dat (.int n))))[1]? = some (some (SV.dat (.int n))) := by
      rw [List.getElem?_set_self (by simpa using h)]
    have h2 : acc.length < sizeLine := Nat.lt_of_lt_of_le (m := 64) (by simp at hl; omega) (by decide)
    have h3 := cp_abs ns sl sp (acc ++ [.int (absZ n)]) h (by simp at hl ⊢; omega)
    have h4 : (if n < 0 then -n else n) = absZ n := rfl
    rw [List.set_set] at h1
    simp only [List.map_cons, cpN, tY, eA, aCons, aNil, eV, h1, List.set_set, dAbs, h2, if_true, h4]
    rw [h3]
    simp
theorem fr_add {it : SF} (hit : it = sPut 2 (e2 (eIxN 2 (e2 (eV 3) (eC (.int 16)) dMod)) (eA (aCons (eV 1) (aNil)) dAbs) dAdd) (e2 (eV 3) (eC (.int 16)) dMod)) : ∀ (cs : List Int) (i : Nat) (l : List Int) (x y z : Option SV) (sp : Spl), l.length = 16 →
    ∃ x' y', frN (enD i (cs.map DV.int)) (gTp 2 (gCo (gNm 3) (gCo (gNm 1) (gNi)))) it ⟨[z, x, some (.own (l.map .int)), y], sp⟩ = some (.nx ⟨[z, x', some (.own ((foldN i cs l).map .int)), y'], sp⟩)
  | [], i, l, x, y, z, sp, _ => ⟨x, y, rfl⟩
  | c :: cs, i, l, x, y, z, sp, hl => by
    obtain ⟨x', y', e⟩ := fr_add hit cs (i + 1) (addAt l i c) (some (.dat (.int c))) (some (.dat (.int (i : Int)))) z sp (by unfold addAt; rw [List.length_set]; exact hl)
    refine ⟨x', y', ?_⟩
    show frN (.tup [.int (i : Int), .int c] :: enD (i + 1) (cs.map DV.int)) _ _ _ = some (.nx ⟨[z, x', some (.own ((foldN (i + 1) cs (addAt l i c)).map .int)), y'], sp⟩)
    have hk : (i : Int).fmod 16 = ((i % 16 : Nat) : Int) := by rw [Int.fmod_eq_emod_of_nonneg _ (by decide)]; rfl
    have hd : decide ((16 : Int) ≠ 0) = true := rfl
    have hb : (0 : Int) ≤ ((i % 16 : Nat) : Int) := by omega
    have hc : ((i % 16 : Nat) : Int) < ((l.map DV.int).length : Int) := by rw [List.length_map, hl]; omega
    have hi : ixN (l.map DV.int).length ((i % 16 : Nat) : Int) = some (i % 16) := by
      unfold ixN
      rw [if_pos hb, if_pos hc]
      rfl
    have hlt : i % 16 < l.length := by omega
    have hat : atI (l.map DV.int) ((i % 16 : Nat) : Int) = some (.int ((l[i % 16]?).getD 0)) := by
      unfold atI
      rw [hi]
      show (l.map DV.int)[i % 16]? = _
      rw [List.getElem?_map, List.getElem?_eq_getElem hlt]
      rfl
    have hs : (l.map DV.int).set (i % 16) (.int ((l[i % 16]?).getD 0 + absZ c)) = (addAt l i c).map DV.int := by
      unfold addAt
      rw [List.map_set]
    have ha : (if c < 0 then -c else c) = absZ c := rfl
    simp only [frN, gTp, gCo, gNm, gNi, List.length_cons, List.length_nil, Nat.reduceAdd, if_true, List.set_cons_succ, List.set_cons_zero]
    rw [hit] at e ⊢
    simp only [sPut, e2, eIxN, FD.peek, eV, eC, eA, aCons, aNil, dAbs, dMod, dAdd, dIx, hk, hd, hat, hi, hs, ha, List.getElem?_cons_zero, List.getElem?_cons_succ, if_true, List.set_cons_succ, List.set_cons_zero, e]
theorem cut_lo (ns : List Int) : cutD (ns.map DV.int) none (some 16) = (ns.take 16).map DV.int := by
  unfold cutD
  have e1 : HT.sIx (ns.map DV.int).length 0 none = 0 := rfl
  have e2 : HT.sIx (ns.map DV.int).length (ns.map DV.int).length (some 16) = min 16 ns.length := by
    show min 16 (ns.map DV.int).length = _
    rw [List.length_map]
  rw [e1, e2, List.drop_zero, Nat.sub_zero, List.map_take]
  by_cases h : ns.length ≤ 16
  · rw [Nat.min_eq_right h, List.take_of_length_le (by simp), List.take_of_length_le (by simpa using h)]
  · rw [Nat.min_eq_left (by omega)]
theorem cut_hi (ns : List Int) : cutD (ns.map DV.int) (some 16) (some 64) = ((ns.drop 16).take 48).map DV.int := by
  unfold cutD
  have e1 : HT.sIx (ns.map DV.int).length 0 (some 16) = min 16 ns.length := by
    show min 16 (ns.map DV.int).length = _
    rw [List.length_map]
  have e2 : HT.sIx (ns.map DV.int).length (ns.map DV.int).length (some 64) = min 64 ns.length := by
    show min 64 (ns.map DV.int).length = _
    rw [List.length_map]
  rw [e1, e2, List.map_take, List.map_drop]
  by_cases h : ns.length ≤ 16
  · rw [Nat.min_eq_right h, List.drop_of_length_le (by simp), List.drop_of_length_le (by simpa using h)]
    simp
  · rw [show min 16 ns.length = 16 by omega]
    by_cases h2 : ns.length ≤ 64
    · rw [Nat.min_eq_right h2, List.take_of_length_le (by simp), List.take_of_length_le (by simp; omega)]
    · rw [show min 64 ns.length = 64 by omega]
theorem n_law_spool_of : ∀ ds es, mN_law_spool_of ds = some es → bodyN 1 4 b1_law_spool_of b2_law_spool_of b3_law_spool_of ds = some es := by
  intro ds es h
  unfold mN_law_spool_of at h
  split at h
  · rename_i ns
    unfold sf at h
    split at h
    · rename_i hl
      cases h
      have h1 := cp_abs (ns.take 16) [some (.dat (.scr ns)), none, none, none] spl0 [] (by simp) (by simp; omega)
      rw [List.nil_append] at h1
      have q1 : dSl (.scr ns) none (some 16) = some (.lst ((ns.take 16).map DV.int)) := by
        show some (DV.lst (cutD (ns.map DV.int) none (some 16))) = _
        rw [cut_lo]
      have q2 : dSl (.scr ns) (some 16) (some 64) = some (.lst (((ns.drop 16).take 48).map DV.int)) := by
        show some (DV.lst (cutD (ns.map DV.int) (some 16) (some 64))) = _
        rw [cut_hi]
      have h2 : ∃ x' y', frN (enD 0 (((ns.drop 16).take 48).map DV.int)) (gTp 2 (gCo (gNm 3) (gCo (gNm 1) (gNi)))) (sPut 2 (e2 (eIxN 2 (e2 (eV 3) (eC (.int 16)) dMod)) (eA (aCons (eV 1) (aNil)) dAbs) dAdd) (e2 (eV 3) (eC (.int 16)) dMod)) ⟨[some (.dat (.scr ns)), none, some (.own (((ns.take 16).map absZ).map .int)), none], spl0⟩ = some (.nx ⟨[some (.dat (.scr ns)), x', some (.own ((sfN ns).map .int)), y'], spl0⟩) := by
        by_cases hl2 : 16 ≤ ns.length
        · exact fr_add rfl ((ns.drop 16).take 48) 0 ((ns.take 16).map absZ) none none _ spl0 (by rw [List.length_map, List.length_take]; omega)
        · have e : (ns.drop 16).take 48 = [] := by rw [List.drop_of_length_le (by omega)]; rfl
          unfold sfN
          rw [e]
          exact ⟨none, none, rfl⟩
      obtain ⟨x', y', h2⟩ := h2
      have h4 : (4 : Nat) ≤ sizeLine := by decide
      unfold b1_law_spool_of b2_law_spool_of b3_law_spool_of bodyN
      simp only [List.length_cons, List.length_nil, List.map_cons, List.map_nil, List.cons_append, List.nil_append, List.replicate_succ, List.replicate_zero, Nat.reduceAdd, Nat.reduceSub, if_true, sOwn, lCp, iVal, eSlN, FD.peek, oNo, oSo, eC, q1, List.set_cons_succ, List.set_cons_zero, List.getElem?_cons_zero, h1, sFr, iEn, q2, List.getElem?_cons_succ] at h1 h2 ⊢
      simp only [h2, lDs, aCons, aNil, eV, eC, FD.peek, List.getElem?_cons_zero, List.getElem?_cons_succ, List.length_cons, List.length_nil, Nat.reduceAdd, h4, if_true]
    · cases h
  · cases h
theorem t_law_spool_of {K : PySem.W.Frag} : ∀ vs H Q E, spN K mN_law_spool_of vs H Q E → spN K (bodyN 1 4 b1_law_spool_of b2_law_spool_of b3_law_spool_of) vs H Q E := fun vs H Q E ⟨G, ds, es, g, r, e, q⟩ => ⟨G, ds, es, g, r, n_law_spool_of ds es e, q⟩
/-! ## drawn numbers -/
def Pl (n : Nat) (s : Spl) : Prop := s.place.natAbs ≤ n
instance (n : Nat) (s : Spl) : Decidable (Pl n s) := by unfold Pl; exact inferInstance
theorem pl_up {n : Nat} {s : Spl} {b : Int} (h : Pl n s) : Pl (n + 1) (upS s b) := by
  unfold Pl at *
  rcases upS_place (s := s) (b := b) with e | e <;> rw [e] <;> omega
theorem c_upto {n : Nat} {s : Spl} {b : Int} (h : Pl n s) (hb : 0 < b) (h9 : b.natAbs < 2 ^ 8999) (hn : n ≤ 1000000 := by decide) : m_law_upto [.int b] s = some (.int (upV s b), upS s b) := by
  refine if_pos ⟨hb, h9, ?_⟩
  unfold Pl at h
  show s.place.natAbs < 2 ^ 90
  omega
theorem choice_at (ds : List DV) (s : Spl) (n : Nat) (hp : Pl n s) (hn : n ≤ 1000000) (h0 : ds ≠ []) (h9 : ds.length ≤ 1000) : ∃ v, m_law_choice [.lst ds] s = some (v, upS s (ds.length : Int)) ∧ v ∈ ds := by
  have hpos : 0 < ds.length := List.length_pos_iff.mpr h0
  have hk : okB s (ds.length : Int) := by
    refine ⟨by omega, ?_, ?_⟩
    · have : (1000 : Nat) < 2 ^ 8999 := Nat.lt_of_lt_of_le (show 1000 < 2 ^ 10 by decide) (Nat.pow_le_pow_right (by decide) (by decide))
      omega
    · unfold Pl at hp
      show s.place.natAbs < 2 ^ 90
      omega
  have hv := upV_lt (s := s) (b := (ds.length : Int)) (by omega)
  have hi : (upV s (ds.length : Int)).toNat < ds.length := by omega
  refine ⟨ds[(upV s (ds.length : Int)).toNat], ?_, List.getElem_mem hi⟩
  unfold m_law_choice
  dsimp only
  rw [if_pos hk, List.getElem?_eq_getElem hi]
  rfl
end T4

set_option maxRecDepth 100000
set_option maxHeartbeats 4000000
set_option exponentiation.threshold 20000
namespace T4
open PySem L2 FD
local macro_rules | `(tactic| walk_at "fd") => `(tactic| simp only [bodyP, bodyS, bodyR, sSeq, sIf, sNx, sRt, sRtX, sAsgX, sRs, eX, eJs, eJn, dFmt, sAsg, sDr, sPar, sAug, sSp, sOwn, sApp, lDs, eSp, eS, tBl, tTr, tAn, tOo, tNo, eC, eV, eA, eIf, eAn, eOo, eNo, e1, e2, eIxN, FD.peek, aCons, aNil, gNm, gTp, gLs, gCo, gNi, dI, dAddI, dMulI, dAdd, dSub, dMul, dFdiv, dMod, dNeg, dGcd, dMax, dMin, dAbs, dSq, dLen, dEq_int, dNe_int, dIx, oTup, oLst, truD, List.length_cons, List.length_nil, List.map_cons, List.map_nil, List.cons_append, List.nil_append, List.replicate_succ, List.replicate_zero, List.getElem?_cons_zero, List.getElem?_cons_succ, List.set_cons_succ, List.set_cons_zero, Nat.reduceAdd, Nat.reduceSub, Nat.sub_self, if_true, decide_true, decide_false, Bool.not_true, Bool.not_false, Bool.false_eq_true, if_false, reduceCtorEq, *])
/-- a number over the root d, in lowest terms -/
structure Good (b c : Nat) (d : Int) (x : Num) : Prop where
  s0 : 0 < x.2.2.2
  dd : x.2.2.1 = if x.2.1 = 0 then 0 else d
  gc1 : gc x.1 x.2.1 x.2.2.2 = 1
  zp : x.1.natAbs < 2 ^ b
  zq : x.2.1.natAbs < 2 ^ c
  zs : x.2.2.2.natAbs < 2 ^ c
theorem gc_dvd (p q s : Int) : gc p q s ∣ p ∧ gc p q s ∣ q ∧ gc p q s ∣ s := by
  unfold gc
  refine ⟨Int.ofNat_dvd_left.mpr ?_, Int.ofNat_dvd_left.mpr ?_, Int.ofNat_dvd_left.mpr ?_⟩
  · exact Nat.dvd_trans (Nat.gcd_dvd_left _ _) (Nat.gcd_dvd_left _ _)
  · exact Nat.dvd_trans (Nat.gcd_dvd_left _ _) (Nat.gcd_dvd_right _ _)
  · exact Nat.gcd_dvd_right _ _
theorem fdiv_sz {a g : Int} {b : Nat} (hg : g ≠ 0) (hd : g ∣ a) (ha : a.natAbs < 2 ^ b) : (a.fdiv g).natAbs < 2 ^ b := by
  obtain ⟨k, rfl⟩ := hd
  rw [Int.mul_fdiv_cancel_left k hg]
  rw [Int.natAbs_mul] at ha
  have := Nat.le_mul_of_pos_left k.natAbs (show 0 < g.natAbs by omega)
  omega
theorem sgc_dvd (p q s : Int) : sgc p q s ∣ p ∧ sgc p q s ∣ q ∧ sgc p q s ∣ s := by
  obtain ⟨h1, h2, h3⟩ := gc_dvd p q s
  unfold sgc
  split
  · exact ⟨Int.neg_dvd.mpr h1, Int.neg_dvd.mpr h2, Int.neg_dvd.mpr h3⟩
  · exact ⟨h1, h2, h3⟩
theorem fdiv_pos {s : Int} (p q : Int) (h : s ≠ 0) : 0 < s.fdiv (sgc p q s) := by
  obtain ⟨_, _, k, hk⟩ := sgc_dvd p q s
  have hg := sgc_ne (p := p) (q := q) h
  have hp := gc_pos (p := p) (q := q) h
  have hsg : sgc p q s = if s < 0 then -gc p q s else gc p q s := rfl
  have e : s.fdiv (sgc p q s) = k := by
    conv => lhs; arg 1; rw [hk]
    exact Int.mul_fdiv_cancel_left k hg
  rw [e]
  generalize sgc p q s = g at *
  rcases Int.lt_trichotomy k 0 with z | z | z
  · exfalso
    by_cases w : s < 0
    · rw [if_pos w] at hsg
      have := Int.mul_pos_of_neg_of_neg (show g < 0 by omega) z
      omega
    · rw [if_neg w] at hsg
      have := Int.mul_neg_of_pos_of_neg (show 0 < g by omega) z
      omega
  · rw [z] at hk; simp at hk; exact absurd hk h
  · exact z
theorem gc_scale (g a b c : Int) : gc (g * a) (g * b) (g * c) = (g.natAbs : Int) * gc a b c := by
  unfold gc
  rw [Int.natAbs_mul, Int.natAbs_mul, Int.natAbs_mul, Nat.gcd_mul_left, Nat.gcd_mul_left]
  rfl
theorem low_form {p q e s : Int} (hs : s ≠ 0) : ∃ g a b c, g ≠ 0 ∧ p = g * a ∧ q = g * b ∧ s = g * c ∧ 0 < c ∧ gc a b c = 1 ∧ low p q e s = (a, b, (if b = 0 then 0 else e), c) := by
  have hg := sgc_ne (p := p) (q := q) hs
  have hcp := fdiv_pos p q hs
  obtain ⟨⟨a, ha⟩, ⟨b, hb⟩, ⟨c, hc⟩⟩ := sgc_dvd p q s
  have hab : (sgc p q s).natAbs = (gc p q s).natAbs := by unfold sgc; split <;> simp
  have hgp := gc_pos (p := p) (q := q) hs
  have hlow : low p q e s = if q = 0 then (p.fdiv (sgc p q s), 0, 0, s.fdiv (sgc p q s)) else (p.fdiv (sgc p q s), q.fdiv (sgc p q s), e, s.fdiv (sgc p q s)) := rfl
  generalize sgc p q s = g at *
  have hsc := gc_scale g a b c
  rw [← ha, ← hb, ← hc] at hsc
  have h1 : gc a b c = 1 := by
    have e1 : (g.natAbs : Int) = gc p q s := by omega
    rw [e1] at hsc
    have : gc p q s * 1 = gc p q s * gc a b c := by omega
    exact (Int.eq_of_mul_eq_mul_left (by omega) this).symm
  have ea : p.fdiv g = a := by rw [ha]; exact Int.mul_fdiv_cancel_left a hg
  have eb : q.fdiv g = b := by rw [hb]; exact Int.mul_fdiv_cancel_left b hg
  have ec : s.fdiv g = c := by rw [hc]; exact Int.mul_fdiv_cancel_left c hg
  rw [ec] at hcp
  refine ⟨g, a, b, c, hg, ha, hb, hc, hcp, h1, ?_⟩
  rw [hlow, ea, eb, ec]
  by_cases h : q = 0
  · have hb0 : b = 0 := (Int.mul_eq_zero.mp (hb.symm.trans h)).resolve_left hg
    rw [if_pos h, if_pos hb0, hb0]
  · have hb0 : b ≠ 0 := fun z => h (by rw [hb, z, Int.mul_zero])
    rw [if_neg h, if_neg hb0]
theorem part_sz {g a p : Int} {b : Nat} (hg : g ≠ 0) (e : p = g * a) (h : p.natAbs < 2 ^ b) : a.natAbs < 2 ^ b := by
  rw [e, Int.natAbs_mul] at h
  have := Nat.le_mul_of_pos_left a.natAbs (show 0 < g.natAbs by omega)
  omega
theorem low_good {b c : Nat} {p q d s : Int} (hs : s ≠ 0) (hd : d ≠ 0) (h1 : p.natAbs < 2 ^ b) (h2 : q.natAbs < 2 ^ c) (h3 : s.natAbs < 2 ^ c) : Good b c d (lowL p q d s) := by
  rw [lowL_eq (.inr hd)]
  obtain ⟨g, x, y, z, hg, e1, e2, e3, hz, h4, h5⟩ := low_form (p := p) (q := q) (e := d) hs
  rw [h5]
  exact ⟨hz, rfl, h4, part_sz hg e1 h1, part_sz hg e2 h2, part_sz hg e3 h3⟩
def b_law_drawn : SF :=
  sSeq (sPar 3 4 (aCons (e2 (eS 0 (aCons (e2 (e2 (eC (.int 2)) (eV 2) dMul) (eC (.int 1)) dAdd) (aNil)) m_law_upto) (eV 2) dSub) (aCons (e2 (eS 0 (aCons (e2 (e2 (eC (.int 2)) (eV 2) dMul) (eC (.int 1)) dAdd) (aNil)) m_law_upto) (eV 2) dSub) (aNil))))
  (sSeq (sAsg (e2 (eC (.int 1)) (eS 0 (aCons (eV 2) (aNil)) m_law_upto) dAdd) (gNm 5))
  (sRt (eA (aCons (eV 3) (aCons (eS 0 (aCons (eA (aCons (eC (.int 0)) (aCons (eV 4) (aCons (eV 4) (aNil)))) oLst) (aNil)) m_law_choice) (aCons (eV 1) (aCons (eV 5) (aNil))))) m_law_lowest)))
def m_law_drawn : List DV → Spl → Option (DV × Spl) := bodyS 3 6 b_law_drawn
theorem t_law_drawn : ∀ ds s d, m_law_drawn ds s = some d → bodyS 3 6 b_law_drawn ds s = some d := fun _ _ _ h => h
theorem drawn_ok {c : Nat} {d size : Int} {n : Nat} {sp : Spl} (hp : Pl n sp) (hn : n ≤ 100000) (hd : d ≠ 0) (s1 : 0 < size) (s2 : size ≤ 10 ^ 26) (s3 : size.natAbs < 2 ^ c) : ∃ x sp', m_law_drawn [.int d, .int size] sp = some (nm x, sp') ∧ Good c c d x ∧ Pl (n + 4) sp' := by
  have z1 : size.natAbs < 2 ^ 90 := by omega
  have f1 : fitM 2 size = true := fit_of (a := 2) (by decide) z1
  have c2 : m_law_upto [.int (2 * size + 1)] sp = _ := c_upto hp (by omega) (lt_up (a := 100) (by omega)) (by omega)
  have v2 := upV_lt (s := sp) (b := 2 * size + 1) (by omega)
  have p2 := pl_up (b := 2 * size + 1) hp
  generalize upS sp (2 * size + 1) = sp2 at *
  generalize upV sp (2 * size + 1) = P at *
  have c3 : m_law_upto [.int (2 * size + 1)] sp2 = _ := c_upto p2 (by omega) (lt_up (a := 100) (by omega)) (by omega)
  have v3 := upV_lt (s := sp2) (b := 2 * size + 1) (by omega)
  have p3 := pl_up (b := 2 * size + 1) p2
  generalize upS sp2 (2 * size + 1) = sp3 at *
  generalize upV sp2 (2 * size + 1) = Q at *
  have c4 : m_law_upto [.int size] sp3 = _ := c_upto p3 (by omega) (lt_up (a := 100) (by omega)) (by omega)
  have v4 := upV_lt (s := sp3) (b := size) (by omega)
  have p4 := pl_up (b := size) p3
  generalize upS sp3 size = sp4 at *
  generalize upV sp3 size = T at *
  obtain ⟨v, c5, hv⟩ := choice_at [.int 0, .int (Q - size), .int (Q - size)] sp4 _ p4 (by omega) (by simp) (by simp)
  have c5' : m_law_choice [.lst [.int 0, .int (Q - size), .int (Q - size)]] sp4 = some (v, upS sp4 3) := c5
  clear c5
  obtain ⟨q, rfl, hq⟩ : ∃ q : Int, v = .int q ∧ q.natAbs < 2 ^ c := by
    simp only [List.mem_cons, List.not_mem_nil, or_false] at hv
    rcases hv with h | h | h
    · exact ⟨0, h, Nat.two_pow_pos _⟩
    · exact ⟨_, h, by omega⟩
    · exact ⟨_, h, by omega⟩
  clear hv
  have c6 := low_ok (p := P - size) (q := q) (d := d) (s := 1 + T) (by omega) (lt_up (a := 100) (by omega))
  have three : (3 : Nat) ≤ sizeLine := by decide
  have hg : Good c c d (lowL (P - size) q d (1 + T)) := low_good (by omega) hd (by omega) hq (by omega)
  refine ⟨lowL (P - size) q d (1 + T), upS sp4 3, ?_, hg, pl_up p4⟩
  clear hg hq v2 v3 v4 p2 p3 p4 hp hn hd s1 s2 s3 z1
  unfold m_law_drawn b_law_drawn
  walk_at "fd"
/-! ## long numbers -/
def b_law_long : SF :=
  sSeq (sAsg (e2 (eC (.int 1)) (eS 0 (aCons (eC (.int 9)) (aNil)) m_law_upto) dAdd) (gNm 1))
  (sSeq (sFr (iRg1 (aCons (e2 (eC (.int 1)) (eS 0 (aCons (eC (.int 16)) (aNil)) m_law_upto) dAdd) (aNil))) (gNm 2) (sAsg (e2 (e2 (eV 1) (e2 (eC (.int 10)) (eC (.int 18)) dPow) dMul) (eS 0 (aCons (e2 (eC (.int 10)) (eC (.int 18)) dPow) (aNil)) m_law_upto) dAdd) (gNm 1)))
  (sRt (eV 1)))
def m_law_long : List DV → Spl → Option (DV × Spl) := bodyS 1 3 b_law_long
theorem t_law_long : ∀ ds s d, m_law_long ds s = some d → bodyS 1 3 b_law_long ds s = some d := fun _ _ _ h => h
theorem long_loop : ∀ (ds : List DV) (found : Int) (x2 : Option SV) (n j : Nat) (sp : Spl), Pl n sp → n + ds.length ≤ 1000000 → 0 < found → found < 2 ^ (4 + 60 * j) → j + ds.length ≤ 16 →
    ∃ v y sp', frN ds (gNm 2) (sAsg (e2 (e2 (eV 1) (e2 (eC (.int 10)) (eC (.int 18)) dPow) dMul) (eS 0 (aCons (e2 (eC (.int 10)) (eC (.int 18)) dPow) (aNil)) m_law_upto) dAdd) (gNm 1)) ⟨[some .spl, some (.dat (.int found)), x2], sp⟩ = some (.nx ⟨[some .spl, some (.dat (.int v)), y], sp'⟩) ∧ 0 < v ∧ v < 2 ^ (4 + 60 * (j + ds.length)) ∧ Pl (n + ds.length) sp'
  | [], found, x2, n, j, sp, hp, _, h0, h1, _ => ⟨found, x2, sp, rfl, h0, h1, hp⟩
  | d :: ds, found, x2, n, j, sp, hp, hn, h0, h1, hj => by
    rw [List.length_cons] at hn hj
    have hpow : decide (0 ≤ (18 : Int) ∧ (18 : Int) ≤ 1000000 ∧ (10 : Int).natAbs < 2 ^ 64) = true := rfl
    have hten : (10 : Int) ^ (Int.toNat 18) = 10 ^ 18 := rfl
    have c1 : m_law_upto [.int (10 ^ 18)] sp = some (.int (upV sp (10 ^ 18)), upS sp (10 ^ 18)) := c_upto hp (by decide) (lt_up (a := 100) (by decide)) (by omega)
    have v1 := upV_lt (s := sp) (b := 10 ^ 18) (by decide)
    have z0 : ((2 ^ (4 + 60 * j) : Nat) : Int) = (2 : Int) ^ (4 + 60 * j) := Int.natCast_pow 2 _
    have z1 : found.natAbs < 2 ^ (4 + 60 * j) := by omega
    have f1 : fitM found (10 ^ 18) = true := fit_of (b := 60) (lt_up z1 (b := 2000) (by omega)) (by decide)
    have nb : found * 10 ^ 18 + upV sp (10 ^ 18) < 2 ^ (4 + 60 * (j + 1)) := by
      have e : (2 : Int) ^ (4 + 60 * (j + 1)) = 2 ^ (4 + 60 * j) * 2 ^ 60 := by rw [← Int.pow_add]; congr 1
      rw [e]
      have h2 : found + 1 ≤ (2 : Int) ^ (4 + 60 * j) := h1
      have h3 := Int.mul_le_mul_of_nonneg_right h2 (show (0 : Int) ≤ 2 ^ 60 by decide)
      have h4 : (found + 1) * 2 ^ 60 = found * 2 ^ 60 + 2 ^ 60 := by rw [Int.add_mul, Int.one_mul]
      have h5 := Int.mul_le_mul_of_nonneg_left (show (10 : Int) ^ 18 ≤ 2 ^ 60 by decide) (show 0 ≤ found by omega)
      have h6 : (10 : Int) ^ 18 ≤ 2 ^ 60 := by decide
      omega
    have pos : 0 < found * 10 ^ 18 + upV sp (10 ^ 18) := by
      have := Int.mul_pos h0 (show (0 : Int) < 10 ^ 18 by decide)
      omega
    obtain ⟨v, y, sp', e, r1, r2, r3⟩ := long_loop ds (found * 10 ^ 18 + upV sp (10 ^ 18)) (some (.dat d)) (n + 1) (j + 1) (upS sp (10 ^ 18)) (pl_up hp) (by omega) pos nb (by omega)
    refine ⟨v, y, sp', ?_, r1, ?_, ?_⟩
    · simp only [frN, gNm, sAsg, e2, eV, eC, eS, aCons, aNil, dPow, hpow, if_true, hten, dMul, f1, c1, dAdd, List.getElem?_cons_zero, List.getElem?_cons_succ, List.set_cons_zero, List.set_cons_succ, e]
    · rw [List.length_cons, show j + (ds.length + 1) = j + 1 + ds.length by omega]; exact r2
    · rw [List.length_cons, show n + (ds.length + 1) = n + 1 + ds.length by omega]; exact r3
theorem pow_int (k : Nat) : ((2 ^ k : Nat) : Int) = (2 : Int) ^ k := Int.natCast_pow 2 _
theorem long_ok {n : Nat} {sp : Spl} (hp : Pl n sp) (hn : n ≤ 100000) : ∃ v sp', m_law_long [] sp = some (.int v, sp') ∧ 0 < v ∧ v.natAbs < 2 ^ 964 ∧ Pl (n + 18) sp' := by
  have c1 : m_law_upto [.int 9] sp = _ := c_upto hp (by decide) (lt_up (a := 10) (by decide)) (by omega)
  have v1 := upV_lt (s := sp) (b := 9) (by decide)
  have p1 := pl_up (b := 9) hp
  generalize upS sp 9 = sp1 at *
  generalize upV sp 9 = A at *
  have c2 : m_law_upto [.int 16] sp1 = _ := c_upto p1 (by decide) (lt_up (a := 10) (by decide)) (by omega)
  have v2 := upV_lt (s := sp1) (b := 16) (by decide)
  have p2 := pl_up (b := 16) p1
  generalize upS sp1 16 = sp2 at *
  generalize upV sp1 16 = B at *
  have hl : (rngD 0 (Int.toNat (1 + B))).length = (1 + B).toNat := by unfold rngD; simp
  have hB : (1 + B).toNat ≤ 16 := by omega
  have hr : inR (1 + B) = true := decide_eq_true (by omega)
  obtain ⟨v, y, sp3, e, r1, r2, r3⟩ := long_loop (rngD 0 (Int.toNat (1 + B))) (1 + A) none (n + 2) 0 sp2 p2 (by omega) (by omega) (by have : (2 : Int) ^ (4 + 60 * 0) = 16 := rfl; omega) (by omega)
  refine ⟨v, sp3, ?_, r1, ?_, ?_⟩
  · clear hp hn v1 v2 p1 p2 hl hB r1 r2 r3
    unfold m_law_long b_law_long
    simp only [bodyP, bodyS, bodyR, sSeq, sIf, sNx, sRt, sRtX, sAsgX, sRs, eX, eJs, eJn, dFmt, sAsg, sDr, sPar, sAug, sSp, sOwn, sApp, lDs, eSp, eS, tBl, tTr, tAn, tOo, tNo, eC, eV, eA, eIf, eAn, eOo, eNo, e1, e2, eIxN, FD.peek, aCons, aNil, gNm, gTp, gLs, gCo, gNi, dI, dAddI, dMulI, dAdd, dSub, dMul, dFdiv, dMod, dNeg, dGcd, dMax, dMin, dAbs, dSq, dLen, dEq_int, dNe_int, dIx, oTup, oLst, truD, List.length_cons, List.length_nil, List.map_cons, List.map_nil, List.cons_append, List.nil_append, List.replicate_succ, List.replicate_zero, List.getElem?_cons_zero, List.getElem?_cons_succ, List.set_cons_succ, List.set_cons_zero, Nat.reduceAdd, Nat.reduceSub, Nat.sub_self, if_true, decide_true, decide_false, Bool.not_true, Bool.not_false, Bool.false_eq_true, if_false, reduceCtorEq, sFr, iRg1, c1, c2, hr, e]
  · have h1 : (2 : Int) ^ (4 + 60 * (0 + (rngD 0 (Int.toNat (1 + B))).length)) ≤ 2 ^ 964 := by
      rw [← pow_int, ← pow_int]
      exact Int.ofNat_le.mpr (Nat.pow_le_pow_right (by decide) (by omega))
    have h2 := pow_int 964
    have h3 : v < ((2 ^ 964 : Nat) : Int) := by rw [h2]; exact Int.lt_of_lt_of_le r2 h1
    omega
  · unfold Pl at *
    omega
def b_law_long_number : SF :=
  sSeq (sAsg (eL (lCp (iRg1 (aCons (eC (.int 2)) (aNil))) 4 (tY) (e2 (eS 0 (aCons (eA (aCons (eC (.int 1)) (aCons (e2 (eC (.int 0)) (eC (.int 1)) dSub) (aNil))) oLst) (aNil)) m_law_choice) (eS 0 (aNil) m_law_long) dMul))) (gLs 2 (gCo (gNm 2) (gCo (gNm 3) (gNi)))))
  (sRt (eA (aCons (eV 2) (aCons (eV 3) (aCons (eV 1) (aCons (eS 0 (aCons (eA (aCons (eC (.int 1)) (aCons (eS 0 (aNil) m_law_long) (aNil))) oLst) (aNil)) m_law_choice) (aNil))))) m_law_lowest))
def m_law_long_number : List DV → Spl → Option (DV × Spl) := bodyS 2 5 b_law_long_number
theorem t_law_long_number : ∀ ds s d, m_law_long_number ds s = some d → bodyS 2 5 b_law_long_number ds s = some d := fun _ _ _ h => h
theorem long_number_ok {d : Int} {n : Nat} {sp : Spl} (hp : Pl n sp) (hn : n ≤ 10000) (hd : d ≠ 0) : ∃ x sp', m_law_long_number [.int d] sp = some (nm x, sp') ∧ Good 1000 1000 d x ∧ Pl (n + 60) sp' := by
  have two : (2 : Nat) ≤ sizeLine := by decide
  have pm : ∀ (m : Nat) (t : Spl), Pl m t → m ≤ 100000 → ∃ w : Int, m_law_choice [.lst [.int 1, .int (0 - 1)]] t = some (.int w, upS t 2) ∧ w.natAbs < 2 ^ 2 := by
    intro m t ht hm
    obtain ⟨v, c, hv⟩ := choice_at [.int 1, .int (0 - 1)] t m ht (by omega) (by simp) (by simp)
    simp only [List.mem_cons, List.not_mem_nil, or_false] at hv
    rcases hv with h | h
    · subst h; exact ⟨1, c, by decide⟩
    · subst h; exact ⟨0 - 1, c, by decide⟩
  obtain ⟨w1, c1, g1⟩ := pm n sp hp (by omega)
  have p1 := pl_up (b := 2) hp
  generalize upS sp 2 = sp1 at *
  obtain ⟨l1, sp2, c2, _, g2, p2⟩ := long_ok p1 (by omega)
  obtain ⟨w2, c3, g3⟩ := pm _ sp2 p2 (by omega)
  have p3 := pl_up (b := 2) p2
  generalize upS sp2 2 = sp3 at *
  obtain ⟨l2, sp4, c4, _, g4, p4⟩ := long_ok p3 (by omega)
  obtain ⟨l3, sp5, c5, pos5, g5, p5⟩ := long_ok p4 (by omega)
  obtain ⟨v, c6, hv⟩ := choice_at [.int 1, .int l3] sp5 _ p5 (by omega) (by simp) (by simp)
  have c6' : m_law_choice [.lst [.int 1, .int l3]] sp5 = some (v, upS sp5 2) := c6
  clear c6
  obtain ⟨s, rfl, hs, hs0⟩ : ∃ s : Int, v = .int s ∧ s.natAbs < 2 ^ 1000 ∧ s ≠ 0 := by
    simp only [List.mem_cons, List.not_mem_nil, or_false] at hv
    rcases hv with h | h
    · exact ⟨1, h, Nat.one_lt_two_pow (by decide), by decide⟩
    · exact ⟨_, h, lt_up g5, by omega⟩
  clear hv
  have f1 := fit_of g1 g2
  have f2 := fit_of g3 g4
  have c7 := low_ok (p := w1 * l1) (q := w2 * l2) (d := d) hs0 (lt_up hs)
  have hg : Good 1000 1000 d (lowL (w1 * l1) (w2 * l2) d s) := low_good hs0 hd (lt_up (mul_lt g1 g2)) (lt_up (mul_lt g3 g4)) hs
  have hr : inR 2 = true := rfl
  have rg : rngD 0 (Int.toNat 2) = [.int 0, .int 1] := rfl
  have z0 : (0 : Nat) < sizeLine := by decide
  have z1 : (1 : Nat) < sizeLine := by decide
  refine ⟨lowL (w1 * l1) (w2 * l2) d s, upS sp5 2, ?_, hg, by have := pl_up (b := 2) p5; unfold Pl at *; omega⟩
  clear hg hs hs0 hp hn hd p1 p2 p3 p4 p5 g1 g2 g3 g4 g5 pm pos5
  unfold m_law_long_number b_law_long_number
  simp only [bodyP, bodyS, bodyR, sSeq, sIf, sNx, sRt, sRtX, sAsgX, sRs, eX, eJs, eJn, dFmt, sAsg, sDr, sPar, sAug, sSp, sOwn, sApp, lDs, eSp, eS, tBl, tTr, tAn, tOo, tNo, eC, eV, eA, eIf, eAn, eOo, eNo, e1, e2, eIxN, FD.peek, aCons, aNil, gNm, gTp, gLs, gCo, gNi, dI, dAddI, dMulI, dAdd, dSub, dMul, dFdiv, dMod, dNeg, dGcd, dMax, dMin, dAbs, dSq, dLen, dEq_int, dNe_int, dIx, oTup, oLst, truD, List.length_cons, List.length_nil, List.map_cons, List.map_nil, List.cons_append, List.nil_append, List.replicate_succ, List.replicate_zero, List.getElem?_cons_zero, List.getElem?_cons_succ, List.set_cons_succ, List.set_cons_zero, Nat.reduceAdd, Nat.reduceSub, Nat.sub_self, if_true, decide_true, decide_false, Bool.not_true, Bool.not_false, Bool.false_eq_true, if_false, reduceCtorEq, eL, lCp, iRg1, hr, rg, cpN, tY, c1, c2, c3, c4, c5, c6', c7, f1, f2, two, z0, z1]
end T4

set_option maxRecDepth 100000
set_option maxHeartbeats 4000000
set_option exponentiation.threshold 10000
namespace T4
open PySem L2 FD
local macro_rules | `(tactic| walk_at "fd") => `(tactic| simp only [bodyP, bodyS, bodyR, sSeq, sIf, sNx, sRt, sRtX, sAsgX, sRs, eX, eJs, eJn, dFmt, sAsg, sDr, sPar, sAug, sSp, sOwn, sApp, lDs, eSp, eS, tBl, tTr, tAn, tOo, tNo, eC, eV, eA, eIf, eAn, eOo, eNo, e1, e2, eIxN, FD.peek, aCons, aNil, gNm, gTp, gLs, gCo, gNi, dI, dAddI, dMulI, dAdd, dSub, dMul, dFdiv, dMod, dNeg, dGcd, dMax, dMin, dAbs, dSq, dLen, dEq_int, dNe_int, dIx, oTup, oLst, truD, List.length_cons, List.length_nil, List.map_cons, List.map_nil, List.cons_append, List.nil_append, List.replicate_succ, List.replicate_zero, List.getElem?_cons_zero, List.getElem?_cons_succ, List.set_cons_succ, List.set_cons_zero, Nat.reduceAdd, Nat.reduceSub, Nat.sub_self, if_true, decide_true, decide_false, Bool.not_true, Bool.not_false, Bool.false_eq_true, if_false, reduceCtorEq, *])
def b_integer_sign : SF :=
  sSeq (sIf (tBl (e2 (eV 0) (eC (.int 0)) dGt)) (sRt (eC (.int 1))) (sNx))
  (sSeq (sIf (tBl (e2 (eV 0) (eC (.int 0)) dLt)) (sRt (e1 (eC (.int 1)) dNeg)) (sNx))
  (sRt (eC (.int 0))))
def m_integer_sign : List DV → Option DV
  | [.int n] => some (.int (isg n))
  | _ => none
theorem t_integer_sign : ∀ ds d, m_integer_sign ds = some d → bodyP 1 1 b_integer_sign ds = some d := by
  intro ds d h
  unfold m_integer_sign at h
  split at h
  · rename_i n
    cases h
    unfold isg
    by_cases h1 : 0 < n
    · simp [bodyP, b_integer_sign, sSeq, sIf, tBl, e2, eV, eC, dI, sRt, sNx, h1, e1, dNeg]
    · by_cases h2 : n < 0
      · simp [bodyP, b_integer_sign, sSeq, sIf, tBl, e2, eV, eC, dI, sRt, sNx, h1, h2, e1, dNeg]
      · simp [bodyP, b_integer_sign, sSeq, sIf, tBl, e2, eV, eC, dI, sRt, sNx, h1, h2, e1, dNeg]
  · cases h
def b_surd_sign : SF :=
  sSeq (sIf (tBl (e2 (e2 (eV 0) (eV 0) dMul) (e2 (e2 (eV 1) (eV 1) dMul) (eV 2) dMul) dGt)) (sRt (eA (aCons (eV 0) (aNil)) m_integer_sign)) (sNx))
  (sRt (eA (aCons (eV 1) (aNil)) m_integer_sign))
def m_surd_sign : List DV → Option DV
  | [.int p, .int q, .int d] => if Sz 1000000 p ∧ Sz 1000000 q ∧ Sz 1000000 d then some (.int (sgS p q d)) else none
  | _ => none
theorem t_surd_sign : ∀ ds d, m_surd_sign ds = some d → bodyP 3 3 b_surd_sign ds = some d := by
  intro ds d h
  unfold m_surd_sign at h
  split at h
  · rename_i p q e
    split at h
    · rename_i hs
      obtain ⟨h1, h2, h3⟩ := hs
      cases h
      have f1 := fit_of h1 h1
      have f2 := fit_of h2 h2
      have f3 := fit_of (mul_lt h2 h2) h3
      unfold sgS
      by_cases h4 : q * q * e < p * p
      · simp [bodyP, b_surd_sign, sSeq, sIf, tBl, e2, eV, eC, dI, sRt, sNx, dMul, eA, aCons, aNil, f1, f2, f3, h4, m_integer_sign]
      · simp [bodyP, b_surd_sign, sSeq, sIf, tBl, e2, eV, eC, dI, sRt, sNx, dMul, eA, aCons, aNil, f1, f2, f3, h4, m_integer_sign]
    · cases h
  · cases h
def b_sign : SF :=
  sRt (eA (aCons (eIxN 0 (eC (.int 0))) (aCons (eIxN 0 (eC (.int 1))) (aCons (eIxN 0 (eC (.int 2))) (aNil)))) m_surd_sign)
def m_sign : List DV → Option DV
  | [.tup [.int p, .int q, .int d, .int s]] => if Sz 1000000 p ∧ Sz 1000000 q ∧ Sz 1000000 d then some (.int (sgS p q d)) else none
  | _ => none
theorem t_sign : ∀ ds d, m_sign ds = some d → bodyP 1 1 b_sign ds = some d := by
  intro ds d h
  unfold m_sign at h
  split at h
  · rename_i p q e s
    have h1 : m_surd_sign [.int p, .int q, .int e] = some d := h
    clear h
    have i0 : atI [DV.int p, .int q, .int e, .int s] 0 = some (.int p) := rfl
    have i1 : atI [DV.int p, .int q, .int e, .int s] 1 = some (.int q) := rfl
    have i2 : atI [DV.int p, .int q, .int e, .int s] 2 = some (.int e) := rfl
    unfold b_sign
    walk_at "fd"
  · cases h
def flo (p q d s : Int) : Int := if q < 0 then (p - sq (q * q * d) - 1).fdiv s else (p + sq (q * q * d)).fdiv s
def okFl (p q d s : Int) : Prop := s ≠ 0 ∧ 0 ≤ q * q * d ∧ Sz 4000 p ∧ Sz 4000 q ∧ Sz 4000 d ∧ Sz 4000 s
instance (p q d s : Int) : Decidable (okFl p q d s) := by unfold okFl; exact inferInstance
def b_floor : SF :=
  sSeq (sAsg (eV 0) (gTp 4 (gCo (gNm 1) (gCo (gNm 2) (gCo (gNm 3) (gCo (gNm 4) (gNi)))))))
  (sSeq (sAsg (eA (aCons (e2 (e2 (eV 2) (eV 2) dMul) (eV 3) dMul) (aNil)) dSq) (gNm 5))
  (sSeq (sIf (tBl (e2 (eV 2) (eC (.int 0)) dLt)) (sRt (e2 (e2 (e2 (eV 1) (eV 5) dSub) (eC (.int 1)) dSub) (eV 4) dFdiv)) (sNx))
  (sRt (e2 (e2 (eV 1) (eV 5) dAdd) (eV 4) dFdiv))))
def m_floor : List DV → Option DV
  | [.tup [.int p, .int q, .int d, .int s]] => if okFl p q d s then some (.int (flo p q d s)) else none
  | _ => none
theorem t_floor : ∀ ds d, m_floor ds = some d → bodyP 1 6 b_floor ds = some d := by
  intro ds d h
  unfold m_floor at h
  split at h
  · rename_i p q e s
    split at h
    · rename_i ok
      obtain ⟨hs, h0, z1, z2, z3, z4⟩ := ok
      cases h
      have f1 := fit_of z2 z2
      have f2 := fit_of (mul_lt z2 z2) z3
      have hq : okSq (q * q * e) = true := by
        have := log2_lt_of (mul_lt (mul_lt z2 z2) z3)
        refine decide_eq_true ⟨h0, ?_⟩
        have e : (q * q * e).toNat = (q * q * e).natAbs := by omega
        rw [e]; omega
      have hc : decide (s ≠ 0 ∧ s.natAbs.log2 < 9000) = true := decide_eq_true (div_ok hs (lt_up z4))
      have e1' : ((Float64.isqrt (q * q * e).toNat : Nat) : Int) = sq (q * q * e) := rfl
      unfold b_floor flo
      clear hs h0 z1 z2 z3 z4
      by_cases h1 : q < 0
      · walk_at "fd"
      · walk_at "fd"
    · cases h
  · cases h
theorem surd_ok {p q d : Int} (h1 : Sz 1000000 p) (h2 : Sz 1000000 q) (h3 : Sz 1000000 d) : m_surd_sign [.int p, .int q, .int d] = some (.int (sgS p q d)) := by
  unfold m_surd_sign
  simp only [h1, h2, h3, and_self, if_true]
def cmpN (x y : Num) : Int :=
  let whole := x.1 * y.2.2.2 - y.1 * x.2.2.2
  let left := x.2.1 * y.2.2.2
  let right := -y.2.1 * x.2.2.2
  if x.2.2.1 = y.2.2.1 then sgS whole (left + right) x.2.2.1 else
  if sgS whole left x.2.2.1 = isg right ∨ isg right = 0 then sgS whole left x.2.2.1 else
  if sgS whole left x.2.2.1 = 0 then isg right else
  sgS whole left x.2.2.1 * sgS (whole * whole + left * left * x.2.2.1 - right * right * y.2.2.1) (2 * whole * left) x.2.2.1
theorem isg_sz (n : Int) : (isg n).natAbs < 2 ^ 2 := by unfold isg; split <;> (try split) <;> decide
theorem sgS_sz (p q d : Int) : (sgS p q d).natAbs < 2 ^ 2 := by unfold sgS; split <;> exact isg_sz _
def b_compare : SF :=
  sSeq (sAsg (eV 0) (gTp 4 (gCo (gNm 2) (gCo (gNm 3) (gCo (gNm 4) (gCo (gNm 5) (gNi)))))))
  (sSeq (sAsg (eV 1) (gTp 4 (gCo (gNm 6) (gCo (gNm 7) (gCo (gNm 8) (gCo (gNm 9) (gNi)))))))
  (sSeq (sAsg (e2 (e2 (eV 2) (eV 9) dMul) (e2 (eV 6) (eV 5) dMul) dSub) (gNm 10))
  (sSeq (sAsg (e2 (eV 3) (eV 9) dMul) (gNm 11))
  (sSeq (sAsg (e2 (e1 (eV 7) dNeg) (eV 5) dMul) (gNm 12))
  (sSeq (sIf (tBl (e2 (eV 4) (eV 8) dEq)) (sRt (eA (aCons (eV 10) (aCons (e2 (eV 11) (eV 12) dAdd) (aCons (eV 4) (aNil)))) m_surd_sign)) (sNx))
  (sSeq (sAsg (eA (aCons (eV 10) (aCons (eV 11) (aCons (eV 4) (aNil)))) m_surd_sign) (gNm 13))
  (sSeq (sAsg (eA (aCons (eV 12) (aNil)) m_integer_sign) (gNm 14))
  (sSeq (sIf (tOo (tBl (e2 (eV 13) (eV 14) dEq)) (tBl (e2 (eV 14) (eC (.int 0)) dEq))) (sRt (eV 13)) (sNx))
  (sSeq (sIf (tBl (e2 (eV 13) (eC (.int 0)) dEq)) (sRt (eV 14)) (sNx))
  (sSeq (sAsg (e2 (e2 (e2 (eV 10) (eV 10) dMul) (e2 (e2 (eV 11) (eV 11) dMul) (eV 4) dMul) dAdd) (e2 (e2 (eV 12) (eV 12) dMul) (eV 8) dMul) dSub) (gNm 15))
  (sRt (e2 (eV 13) (eA (aCons (eV 15) (aCons (e2 (e2 (eC (.int 2)) (eV 10) dMul) (eV 11) dMul) (aCons (eV 4) (aNil)))) m_surd_sign) dMul))))))))))))
def m_compare : List DV → Option DV
  | [.tup [.int p, .int q, .int d, .int s], .tup [.int p', .int q', .int d', .int s']] => if SzN 4000 (p, q, d, s) ∧ SzN 4000 (p', q', d', s') then some (.int (cmpN (p, q, d, s) (p', q', d', s'))) else none
  | _ => none
theorem t_compare : ∀ ds d, m_compare ds = some d → bodyP 2 16 b_compare ds = some d := by
  intro ds d h
  unfold m_compare at h
  split at h
  · rename_i p q e s p' q' e' s'
    split at h
    · rename_i ok
      obtain ⟨⟨z1, z2, z3, z4⟩, z5, z6, z7, z8⟩ := ok
      cases h
      have f1 := fit_of z1 z8
      have f2 := fit_of z5 z4
      have f3 := fit_of z2 z8
      have f4 := fit_of (neg_lt z6) z4
      have w1 := sub_lt (mul_lt z1 z8) (mul_lt z5 z4)
      have w2 := mul_lt z2 z8
      have w3 := mul_lt (neg_lt z6) z4
      unfold cmpN
      dsimp only
      generalize hW : p * s' - p' * s = W at *
      generalize hL : q * s' = L at *
      generalize hR : -q' * s = R at *
      have c1 : m_surd_sign [.int W, .int (L + R), .int e] = some (.int (sgS W (L + R) e)) := surd_ok (lt_up w1) (lt_up (add_lt w2 w3)) (lt_up z3)
      have c2 : m_surd_sign [.int W, .int L, .int e] = some (.int (sgS W L e)) := surd_ok (lt_up w1) (lt_up w2) (lt_up z3)
      have c3 : m_integer_sign [.int R] = some (.int (isg R)) := rfl
      have f5 := fit_of w1 w1
      have f6 := fit_of w2 w2
      have f7 := fit_of (mul_lt w2 w2) z3
      have f8 := fit_of w3 w3
      have f9 := fit_of (mul_lt w3 w3) z7
      have f10 : fitM 2 W = true := fit_of (a := 2) (by decide) w1
      have w4 : (2 * W).natAbs < 2 ^ (2 + (4000 + 4000 + 1)) := mul_lt (by decide) w1
      have f11 := fit_of w4 w2
      have f12 := fit_of (sgS_sz W L e) (sgS_sz (W * W + L * L * e - R * R * e') (2 * W * L) e)
      have w5 : (W * W).natAbs < 2 ^ 30000 := lt_up (mul_lt w1 w1)
      have w6 : (L * L * e).natAbs < 2 ^ 30000 := lt_up (mul_lt (mul_lt w2 w2) z3)
      have w7 : (R * R * e').natAbs < 2 ^ 30001 := lt_up (mul_lt (mul_lt w3 w3) z7)
      have w9 : (W * W + L * L * e - R * R * e').natAbs < 2 ^ 30002 := sub_lt (add_lt w5 w6) w7
      have w10 : (2 * W * L).natAbs < 2 ^ 30000 := lt_up (mul_lt w4 w2)
      have c4 : m_surd_sign [.int (W * W + L * L * e - R * R * e'), .int (2 * W * L), .int e] = some (.int (sgS (W * W + L * L * e - R * R * e') (2 * W * L) e)) :=
        surd_ok (lt_up w9) (lt_up w10) (lt_up z3)
      clear z1 z2 z3 z4 z5 z6 z7 z8 w1 w2 w3 w4 w5 w6 w7 w9 w10
      unfold b_compare
      by_cases h1 : e = e'
      · have h1' := beq_t h1
        rw [if_pos h1]
        clear h1
        walk_at "fd"
      · have h1' := beq_f h1
        rw [if_neg h1]
        clear h1
        by_cases h2 : sgS W L e = isg R
        · have h2' := beq_t h2
          rw [if_pos (.inl h2)]
          clear h2
          walk_at "fd"
        · have h2' := beq_f h2
          by_cases h3 : isg R = 0
          · have h3' := beq_t h3
            rw [if_pos (.inr h3)]
            clear h2 h3
            walk_at "fd"
          · have h3' := beq_f h3
            rw [if_neg (fun z => z.elim h2 h3)]
            by_cases h4 : sgS W L e = 0
            · have h4' := beq_t h4
              rw [if_pos h4]
              clear h2 h3 h4
              walk_at "fd"
            · have h4' := beq_f h4
              rw [if_neg h4]
              clear h2 h3 h4
              walk_at "fd"
    · cases h
  · cases h
end T4

set_option maxRecDepth 100000
set_option maxHeartbeats 4000000
set_option exponentiation.threshold 10000
namespace T4
open PySem L2 FD
theorem isg_zero : isg 0 = 0 := rfl
theorem pos_mul {k n : Int} (hk : 0 < k) : 0 < n * k ↔ 0 < n := by
  constructor
  · intro h
    rcases Int.lt_trichotomy n 0 with z | z | z
    · have := Int.mul_neg_of_neg_of_pos z hk; omega
    · rw [z] at h; simp at h
    · exact z
  · exact fun h => Int.mul_pos h hk
theorem neg_mul {k n : Int} (hk : 0 < k) : n * k < 0 ↔ n < 0 := by
  have := pos_mul (n := -n) hk
  rw [Int.neg_mul] at this
  omega
theorem isg_scale {P P' k m : Int} (hk : 0 < k) (hm : 0 < m) (h : P * k = P' * m) : isg P = isg P' := by
  have a1 := pos_mul (n := P) hk
  have a2 := pos_mul (n := P') hm
  have b1 := neg_mul (n := P) hk
  have b2 := neg_mul (n := P') hm
  rw [h] at a1 b1
  unfold isg
  by_cases z : 0 < P
  · rw [if_pos z, if_pos (a2.mp (a1.mpr z))]
  · rw [if_neg z, if_neg (fun w => z (a1.mp (a2.mpr w)))]
    by_cases z2 : P < 0
    · rw [if_pos z2, if_pos (b2.mp (b1.mpr z2))]
    · rw [if_neg z2, if_neg (fun w => z2 (b1.mp (b2.mpr w)))]
theorem sg_scale {P Q P' Q' e k m : Int} (hk : 0 < k) (hm : 0 < m) (h1 : P * k = P' * m) (h2 : Q * k = Q' * m) : sgS P Q e = sgS P' Q' e := by
  have kk : 0 < k * k := Int.mul_pos hk hk
  have mm : 0 < m * m := Int.mul_pos hm hm
  have e1 : (P * P - Q * Q * e) * (k * k) = (P' * P' - Q' * Q' * e) * (m * m) := by grind
  have a1 := pos_mul (n := P * P - Q * Q * e) kk
  have a2 := pos_mul (n := P' * P' - Q' * Q' * e) mm
  rw [e1] at a1
  have i1 := isg_scale hk hm h1
  have i2 := isg_scale hk hm h2
  unfold sgS
  by_cases z : Q * Q * e < P * P
  · have z' : Q' * Q' * e < P' * P' := by have := a2.mp (a1.mpr (by omega)); omega
    rw [if_pos z, if_pos z', i1]
  · have z' : ¬ Q' * Q' * e < P' * P' := fun w => z (by have := a1.mp (a2.mpr (by omega)); omega)
    rw [if_neg z, if_neg z', i2]
theorem isg_le {n : Int} (h : n ≤ 0) : isg n ≤ 0 := by
  unfold isg
  rw [if_neg (by omega)]
  split <;> decide
theorem isg_negs (n : Int) : isg (-n) = -isg n := by
  unfold isg
  by_cases a : 0 < n
  · rw [if_pos a, if_neg (by omega), if_pos (by omega)]
  · rw [if_neg a]
    by_cases b : n < 0
    · rw [if_pos b, if_pos (by omega)]; rfl
    · rw [if_neg b, if_neg (by omega), if_neg (by omega)]; rfl
theorem sg_negs (p q d : Int) : sgS (-p) (-q) d = -sgS p q d := by
  unfold sgS
  rw [Int.neg_mul_neg, Int.neg_mul_neg, isg_negs, isg_negs]
  split <;> rfl
/-- more is not below -/
theorem sg_mono {p p' q d : Int} (h : p ≤ p') (hs : 0 < sgS p q d) : 0 < sgS p' q d := by
  unfold sgS at *
  have e1 : ∀ n : Int, 0 < isg n → 0 < n := fun n hn => by
    unfold isg at hn
    by_cases a : 0 < n
    · exact a
    · rw [if_neg a] at hn
      split at hn <;> omega
  by_cases a : q * q * d < p * p
  · rw [if_pos a] at hs
    have p0 := e1 p hs
    have h2 : p * p ≤ p' * p' := Int.mul_le_mul h h (by omega) (by omega)
    rw [if_pos (by omega), isg_pos (by omega)]
    decide
  · rw [if_neg a] at hs
    have q0 := e1 q hs
    by_cases b : q * q * d < p' * p'
    · rw [if_pos b]
      have : 0 < p' := by
        refine Int.lt_of_not_ge fun z => ?_
        have h3 : (-p') * (-p') ≤ (-p) * (-p) := Int.mul_le_mul (by omega) (by omega) (by omega) (by omega)
        rw [Int.neg_mul_neg, Int.neg_mul_neg] at h3
        omega
      rw [isg_pos this]
      decide
    · rw [if_neg b, isg_pos q0]
      decide
/-- the floor, by the signs of what is left -/
theorem flo_at {p q d s : Int} (hs : 0 < s) (hd : 0 ≤ d) : sgS (flo p q d s * s - p) (-q) d ≤ 0 ∧ sgS ((flo p q d s + 1) * s - p) (-q) d = 1 := by
  have hn : 0 ≤ q * q * d := Int.mul_nonneg (sq_nn q) hd
  have hq : -q * -q * d = q * q * d := by grind
  obtain ⟨r0, r1, r2⟩ := sq_spec hn
  unfold flo sgS
  rw [hq]
  generalize sq (q * q * d) = r at *
  generalize q * q * d = n at *
  by_cases z : q < 0
  · rw [if_pos z]
    obtain ⟨f1, f2⟩ := fdiv_spec (a := p - r - 1) hs
    generalize hA : (p - r - 1).fdiv s * s - p = A
    generalize hB : ((p - r - 1).fdiv s + 1) * s - p = B
    have a1 : A ≤ -(r + 1) := by omega
    have a2 : -r ≤ B := by omega
    constructor
    · have : n < A * A := by
        have := Int.mul_nonneg (show 0 ≤ -(r + 1) - A by omega) (show 0 ≤ (r + 1) - A by omega)
        grind
      rw [if_pos this]
      exact isg_le (by omega)
    · by_cases w : n < B * B
      · rw [if_pos w]
        refine isg_pos ?_
        by_cases w2 : 0 < B
        · exact w2
        · have := Int.mul_nonneg (show 0 ≤ B + r by omega) (show 0 ≤ r - B by omega)
          exfalso
          grind
      · rw [if_neg w]
        exact isg_pos (by omega)
  · rw [if_neg z]
    obtain ⟨f1, f2⟩ := fdiv_spec (a := p + r) hs
    generalize hA : (p + r).fdiv s * s - p = A
    generalize hB : ((p + r).fdiv s + 1) * s - p = B
    have a1 : A ≤ r := by omega
    have a2 : r + 1 ≤ B := by omega
    constructor
    · by_cases w : n < A * A
      · rw [if_pos w]
        refine isg_le ?_
        by_cases w2 : A ≤ 0
        · exact w2
        · have := Int.mul_nonneg (show 0 ≤ r - A by omega) (show 0 ≤ r + A by omega)
          exfalso
          grind
      · rw [if_neg w]
        exact isg_le (by omega)
    · have : n < B * B := by
        have := Int.mul_nonneg (show 0 ≤ B - (r + 1) by omega) (show 0 ≤ B + (r + 1) by omega)
        grind
      rw [if_pos this]
      exact isg_pos (by omega)
/-- what the law asks of a whole number f: below 0 just where f is above the floor -/
theorem sg_flo {p q d s f : Int} (hs : 0 < s) (hd : 0 ≤ d) : sgS (p - f * s) q d < 0 ↔ flo p q d s < f := by
  obtain ⟨h1, h2⟩ := flo_at (p := p) (q := q) hs hd
  have e : ∀ g : Int, sgS (p - g * s) q d = -sgS (g * s - p) (-q) d := fun g => by
    rw [← sg_negs, Int.neg_neg, show -(g * s - p) = p - g * s by omega]
  rw [e]
  constructor
  · intro h
    refine Int.lt_of_not_ge fun z => ?_
    have h3 := Int.mul_le_mul_of_nonneg_right z (show 0 ≤ s by omega)
    have h4 := sg_mono (p := f * s - p) (p' := flo p q d s * s - p) (q := -q) (d := d) (by omega) (by omega)
    omega
  · intro h
    have h3 := Int.mul_le_mul_of_nonneg_right (show flo p q d s + 1 ≤ f by omega) (show 0 ≤ s by omega)
    have h4 := sg_mono (p := (flo p q d s + 1) * s - p) (p' := f * s - p) (q := -q) (d := d) (by omega) (by omega)
    omega
/-- the first value: the floor, or one more -/
theorem scl0 {p q d s : Int} (hs : 0 < s) (hd : 0 ≤ d) : scl p q d s 0 = flo p q d s ∨ scl p q d s 0 = flo p q d s + 1 := by
  have e : scl p q d s 0 = (p + (if 0 < q then sq (q * q * d) else 0 - sq (q * q * d))).fdiv s := by
    unfold scl
    simp only [Int.pow_zero, Int.mul_one]
  have hn : 0 ≤ q * q * d := Int.mul_nonneg (sq_nn q) hd
  rw [e]
  unfold flo
  by_cases a : q < 0
  · rw [if_pos a, if_neg (by omega)]
    obtain ⟨f1, f2⟩ := fdiv_spec (a := p + (0 - sq (q * q * d))) hs
    obtain ⟨g1, g2⟩ := fdiv_spec (a := p - sq (q * q * d) - 1) hs
    generalize (p + (0 - sq (q * q * d))).fdiv s = v at *
    generalize (p - sq (q * q * d) - 1).fdiv s = w at *
    have k1 : w ≤ v := by
      refine Int.le_of_lt_add_one (Int.lt_of_not_ge fun z => ?_)
      have := Int.mul_le_mul_of_nonneg_right z (show 0 ≤ s by omega)
      omega
    have k2 : v < w + 2 := by
      refine Int.lt_of_not_ge fun z => ?_
      have := Int.mul_le_mul_of_nonneg_right z (show 0 ≤ s by omega)
      rw [Int.add_mul] at this
      rw [Int.add_mul] at g2
      omega
    omega
  · rw [if_neg a]
    left
    by_cases b : 0 < q
    · rw [if_pos b]
    · rw [if_neg b]
      have z : q = 0 := by omega
      have r0 : sq (q * q * d) = 0 := by rw [z]; simp; rfl
      rw [r0]
      simp
end T4

set_option maxRecDepth 100000
set_option maxHeartbeats 4000000
set_option exponentiation.threshold 20000
namespace T4
open PySem L2 FD
/-- a number that the law's whole part is asked of -/
structure WpOk (p q d s : Int) : Prop where
  s0 : 0 < s
  d0 : 0 ≤ d
  qd : q ≠ 0 → 0 < d
  irr : 0 < d → ∀ a b : Int, a * a = b * b * d → b = 0
  zp : p.natAbs < 2 ^ 1000
  zq : q.natAbs < 2 ^ 1000
  zd : d.natAbs < 2 ^ 40
  zs : s.natAbs < 2 ^ 1000
theorem scale_low {P q d s : Int} (hs : 0 < s) : ∃ g a b c, 0 < g ∧ P = g * a ∧ q = g * b ∧ s = g * c ∧ lowL P q d s = (a, b, (if q = 0 ∨ d = 0 then 0 else d), c) ∨ d = 0 ∧ q ≠ 0 := by
  by_cases z : d = 0 ∧ q ≠ 0
  · exact ⟨1, 0, 0, 0, .inr z⟩
  · have hne : s ≠ 0 := by omega
    obtain ⟨⟨a, ha⟩, ⟨b, hb⟩, ⟨c, hc⟩⟩ := sgc_dvd P q s
    have hg := sgc_ne (p := P) (q := q) hne
    have hgp : 0 < sgc P q s := by
      have := gc_pos (p := P) (q := q) hne
      unfold sgc
      rw [if_neg (by omega)]
      exact this
    have ea : P.fdiv (sgc P q s) = a := by conv => lhs; arg 1; rw [ha]
                                           exact Int.mul_fdiv_cancel_left a hg
    have eb : q.fdiv (sgc P q s) = b := by conv => lhs; arg 1; rw [hb]
                                           exact Int.mul_fdiv_cancel_left b hg
    have ec : s.fdiv (sgc P q s) = c := by conv => lhs; arg 1; rw [hc]
                                           exact Int.mul_fdiv_cancel_left c hg
    refine ⟨sgc P q s, a, b, c, .inl ⟨hgp, ha, hb, hc, ?_⟩⟩
    by_cases hq : q = 0
    · have hb0 : b = 0 := by
        rw [hq] at eb
        rw [Int.zero_fdiv] at eb
        exact eb.symm
      rw [lowL_eq (.inl hq)]
      unfold low
      rw [if_pos hq, if_pos (.inl hq), ea, ec, hb0]
    · have hd : d ≠ 0 := fun w => z ⟨w, hq⟩
      rw [lowL_eq (.inr hd)]
      unfold low
      rw [if_neg hq, if_neg (fun w => w.elim hq hd), ea, eb, ec]
section
variable {p q d s : Int}
theorem add_at (h : WpOk p q d s) {g : Int} (hg : g.natAbs < 2 ^ 1100) : m_law_add [(.tup [.int p, .int q, .int d, .int s]), .tup [.int g, .int 0, .int 0, .int 1]] = some (nm (lowL (p + g * s) q d s)) := by
  have s0 := h.s0
  have e : addL (p, q, d, s) (g, 0, 0, 1) = lowL (p + g * s) q d s := by
    unfold addL rootOf
    dsimp only
    rw [if_neg (by have := h.d0; omega), Int.mul_one, Int.mul_one, Int.mul_one, Int.zero_mul, Int.add_zero]
  have hk : okQ (p, q, d, s) (g, 0, 0, 1) := ⟨h.zd, Nat.two_pow_pos _, by show s ≠ 0; omega, Int.one_ne_zero, ⟨lt_up h.zp, lt_up h.zq, lt_up h.zd, lt_up h.zs⟩, lt_up hg, Nat.two_pow_pos _, Nat.two_pow_pos _, Nat.one_lt_two_pow (by decide)⟩
  rw [← e]
  exact if_pos hk
theorem sign_at (h : WpOk p q d s) {P : Int} (hP : P.natAbs < 2 ^ 2200) : m_law_sign_of [nm (lowL P q d s)] = some (.int (sgS P q d)) := by
  have s0 := h.s0
  have d0 := h.d0
  obtain ⟨g, a, b, c, k | k⟩ := scale_low (P := P) (q := q) (d := d) s0
  · obtain ⟨g0, e1, e2, e3, e4⟩ := k
    rw [e4]
    have part : ∀ {u v : Int} {n : Nat}, u = g * v → u.natAbs < 2 ^ n → v.natAbs < 2 ^ n := fun {u v n} e hu => by
      rw [e, Int.natAbs_mul] at hu
      have := Nat.le_mul_of_pos_left v.natAbs (show 0 < g.natAbs by omega)
      omega
    have c0 : 0 < c := by
      rcases Int.lt_trichotomy c 0 with z | z | z
      · have := Int.mul_neg_of_pos_of_neg g0 z; omega
      · rw [z] at e3; simp at e3; omega
      · exact z
    have ok : SgOk a b (if q = 0 ∨ d = 0 then 0 else d) c := by
      refine ⟨c0, by split <;> omega, fun z => ?_, fun z => ?_, part e1 hP, lt_up (part e2 h.zq), ?_, lt_up (part e3 h.zs)⟩
      · have hq : q ≠ 0 := fun w => z (by rw [w] at e2; exact (Int.mul_eq_zero.mp e2.symm).resolve_left (by omega))
        have := h.qd hq
        rw [if_neg (by omega)]; omega
      · by_cases hq : q = 0
        · have hb : b = 0 := by rw [hq] at e2; exact (Int.mul_eq_zero.mp e2.symm).resolve_left (by omega)
          rw [hb]
          intro w
          simp at w
          exact z ⟨(Int.mul_eq_zero.mp (by simpa using w)).elim id id, hb⟩
        · have hd := h.qd hq
          rw [if_neg (by omega)]
          intro w
          have hb := h.irr hd a b (by omega)
          rw [hb] at e2
          simp at e2
          exact hq e2
      · split
        · exact Nat.two_pow_pos _
        · exact h.zd
    have es : sgS a b (if q = 0 ∨ d = 0 then 0 else d) = sgS P q d := by
      by_cases hq : q = 0
      · have hb : b = 0 := by rw [hq] at e2; exact (Int.mul_eq_zero.mp e2.symm).resolve_left (by omega)
        have e0 : sgS a b (if q = 0 ∨ d = 0 then 0 else d) = sgS a b d := by unfold sgS; rw [hb]; simp
        rw [e0]
        exact sg_scale g0 Int.one_pos (by rw [e1]; grind) (by rw [e2]; grind)
      · have hd := h.qd hq
        rw [if_neg (by omega)]
        exact sg_scale g0 Int.one_pos (by rw [e1]; grind) (by rw [e2]; grind)
    rw [← es]
    exact sign_of_ok ok
  · have := h.qd k.2
    omega
def b_law_whole_part : SF :=
  sSeq (sAsg (eA (aCons (eV 0) (aCons (eC (.int 0)) (aNil))) m_law_scaled) (gNm 1))
  (sSeq (sWh (fun _ => 2) (tBl (e2 (eA (aCons (eA (aCons (eV 0) (aCons (eA (aCons (e2 (eC (.int 0)) (eV 1) dSub) (aCons (eC (.int 0)) (aCons (eC (.int 0)) (aCons (eC (.int 1)) (aNil))))) oTup) (aNil))) m_law_add) (aNil)) m_law_sign_of) (eC (.int 0)) dLt)) (sAsg (e2 (eV 1) (eC (.int 1)) dSub) (gNm 1)))
  (sSeq (sWh (fun _ => 2) (tBl (e2 (eA (aCons (eA (aCons (eV 0) (aCons (eA (aCons (e2 (e2 (eC (.int 0)) (eV 1) dSub) (eC (.int 1)) dSub) (aCons (eC (.int 0)) (aCons (eC (.int 0)) (aCons (eC (.int 1)) (aNil))))) oTup) (aNil))) m_law_add) (aNil)) m_law_sign_of) (eC (.int 0)) dGe)) (sAsg (e2 (eV 1) (eC (.int 1)) dAdd) (gNm 1)))
  (sRt (eV 1))))
def m_law_whole_part : List DV → Option DV := bodyP 1 2 b_law_whole_part
theorem t_law_whole_part : ∀ ds d, m_law_whole_part ds = some d → bodyP 1 2 b_law_whole_part ds = some d := fun _ _ h => h
theorem sz_whole (h : WpOk p q d s) {f g : Int} (hf : f.natAbs < 2 ^ 1050) (hg : g.natAbs < 2 ^ 1100) : (p + g * s).natAbs < 2 ^ 2200 := lt_up (add_lt (a := 2100) (lt_up h.zp) (mul_lt hg h.zs))
theorem c1_ok (h : WpOk p q d s) {f : Int} (hf : f.natAbs < 2 ^ 1090) (sp : Spl) : (tBl (e2 (eA (aCons (eA (aCons (eV 0) (aCons (eA (aCons (e2 (eC (.int 0)) (eV 1) dSub) (aCons (eC (.int 0)) (aCons (eC (.int 0)) (aCons (eC (.int 1)) (aNil))))) oTup) (aNil))) m_law_add) (aNil)) m_law_sign_of) (eC (.int 0)) dLt)) ⟨[some (.dat (.tup [.int p, .int q, .int d, .int s])), some (.dat (.int f))], sp⟩ = some (decide (flo p q d s < f), ⟨[some (.dat (.tup [.int p, .int q, .int d, .int s])), some (.dat (.int f))], sp⟩) := by
  have hg : (0 - f).natAbs < 2 ^ 1100 := lt_up (a := 1090) (by omega)
  have a := add_at h hg
  have b := sign_at h (sz_whole h (f := 0) (by decide) hg)
  have four := four_le
  have e : decide (sgS (p + (0 - f) * s) q d < 0) = decide (flo p q d s < f) := by
    rw [show p + (0 - f) * s = p - f * s by grind]
    exact decide_eq_decide.mpr (sg_flo h.s0 h.d0)
  rw [← e]
  simp only [tBl, e2, eA, aCons, aNil, eV, eC, dSub, oTup, List.length_cons, List.length_nil, Nat.reduceAdd, four, if_true, a, b, dI, List.getElem?_cons_zero, List.getElem?_cons_succ]
theorem c2_ok (h : WpOk p q d s) {f : Int} (hf : f.natAbs < 2 ^ 1090) (sp : Spl) : (tBl (e2 (eA (aCons (eA (aCons (eV 0) (aCons (eA (aCons (e2 (e2 (eC (.int 0)) (eV 1) dSub) (eC (.int 1)) dSub) (aCons (eC (.int 0)) (aCons (eC (.int 0)) (aCons (eC (.int 1)) (aNil))))) oTup) (aNil))) m_law_add) (aNil)) m_law_sign_of) (eC (.int 0)) dGe)) ⟨[some (.dat (.tup [.int p, .int q, .int d, .int s])), some (.dat (.int f))], sp⟩ = some (decide (f + 1 ≤ flo p q d s), ⟨[some (.dat (.tup [.int p, .int q, .int d, .int s])), some (.dat (.int f))], sp⟩) := by
  have hg : (0 - f - 1).natAbs < 2 ^ 1100 := lt_up (sub_lt (a := 1090) (by omega) (show Int.natAbs 1 < 2 ^ 1090 from Nat.one_lt_two_pow (by decide)))
  have a := add_at h hg
  have b := sign_at h (sz_whole h (f := 0) (by decide) hg)
  have four := four_le
  have e : decide (0 ≤ sgS (p + (0 - f - 1) * s) q d) = decide (f + 1 ≤ flo p q d s) := by
    rw [show p + (0 - f - 1) * s = p - (f + 1) * s by grind]
    have := sg_flo (p := p) (q := q) (f := f + 1) h.s0 h.d0
    exact decide_eq_decide.mpr (by omega)
  rw [← e]
  simp only [tBl, e2, eA, aCons, aNil, eV, eC, dSub, oTup, List.length_cons, List.length_nil, Nat.reduceAdd, four, if_true, a, b, dI, List.getElem?_cons_zero, List.getElem?_cons_succ]
theorem whole_ok (h : WpOk p q d s) (hz : (flo p q d s).natAbs < 2 ^ 1080) : m_law_whole_part [(.tup [.int p, .int q, .int d, .int s])] = some (.int (flo p q d s)) := by
  have hz2 : (flo p q d s).natAbs < 2 ^ 1090 := lt_up hz
  have hz3 : (flo p q d s + 1).natAbs < 2 ^ 1090 := lt_up (add_lt (a := 1080) hz (show Int.natAbs 1 < 2 ^ 1080 from Nat.one_lt_two_pow (by decide)))
  have ks : okS p q d s (0 : Int) := by
    have := h.s0
    refine ⟨by decide, by decide, by omega, lt_up h.zs, h.d0, lt_up h.zp, lt_up h.zq, lt_up h.zd, ?_, ?_⟩
    · show ((10 : Int) ^ 0).natAbs < _
      exact Nat.one_lt_two_pow (by decide)
    · show (q * q * d * 10 ^ 0 * 10 ^ 0).natAbs < _
      rw [Int.pow_zero, Int.mul_one, Int.mul_one]
      exact lt_up (mul_lt (mul_lt h.zq h.zq) h.zd)
  have c0 : m_law_scaled [(.tup [.int p, .int q, .int d, .int s]), .int 0] = some (.int (scl p q d s 0)) := by
    unfold m_law_scaled
    dsimp only
    rw [if_pos ks]
    rfl
  have f2 := c2_ok h hz2 spl0
  have g2 : decide (flo p q d s + 1 ≤ flo p q d s) = false := decide_eq_false (by omega)
  rw [g2] at f2
  have f1 := c1_ok h hz2 spl0
  have g1 : decide (flo p q d s < flo p q d s) = false := decide_eq_false (by omega)
  rw [g1] at f1
  unfold m_law_whole_part b_law_whole_part
  rcases scl0 (p := p) (q := q) h.s0 h.d0 with e | e
  · rw [e] at c0
    simp only [bodyP, sSeq, sAsg, eA, aCons, aNil, eV, eC, c0, gNm, sWh, List.length_cons, List.length_nil, Nat.reduceAdd, Nat.reduceSub, if_true, List.map_cons, List.map_nil, List.cons_append, List.nil_append, List.replicate_succ, List.replicate_zero, List.getElem?_cons_zero, List.set_cons_zero, List.set_cons_succ]
    unfold whN
    rw [f1]
    dsimp only
    unfold whN
    rw [f2]
    simp only [sRt, eV, List.getElem?_cons_zero, List.getElem?_cons_succ]
  · rw [e] at c0
    have k1 := c1_ok h hz3 spl0
    have g3 : decide (flo p q d s < flo p q d s + 1) = true := decide_eq_true (by omega)
    rw [g3] at k1
    have e5 : flo p q d s + 1 - 1 = flo p q d s := by omega
    simp only [bodyP, sSeq, sAsg, eA, aCons, aNil, eV, eC, c0, gNm, sWh, List.length_cons, List.length_nil, Nat.reduceAdd, Nat.reduceSub, if_true, List.map_cons, List.map_nil, List.cons_append, List.nil_append, List.replicate_succ, List.replicate_zero, List.getElem?_cons_zero, List.set_cons_zero, List.set_cons_succ]
    unfold whN
    rw [k1]
    simp only [sAsg, e2, eV, eC, dSub, e5, gNm, List.getElem?_cons_zero, List.getElem?_cons_succ, List.set_cons_zero, List.set_cons_succ]
    unfold whN
    rw [f1]
    dsimp only
    unfold whN
    rw [f2]
    simp only [sRt, eV, List.getElem?_cons_zero, List.getElem?_cons_succ]
end
end T4

set_option maxRecDepth 100000
set_option maxHeartbeats 4000000
set_option exponentiation.threshold 20000
namespace T4
open PySem L2 FD
/-! ## two numbers: a fraction between them shows the order -/
/-- no root of d is a fraction -/
def Irr (d : Int) : Prop := ∀ a b : Int, a * a = b * b * d → b = 0
theorem isg_mul (a b : Int) : isg (a * b) = isg a * isg b := by
  rcases Int.lt_trichotomy a 0 with h | h | h <;> rcases Int.lt_trichotomy b 0 with h' | h' | h'
  · rw [isg_neg h, isg_neg h', isg_pos (Int.mul_pos_of_neg_of_neg h h')]; rfl
  · rw [h']; simp [isg_zero]
  · rw [isg_neg h, isg_pos h', isg_neg (Int.mul_neg_of_neg_of_pos h h')]; rfl
  · rw [h]; simp [isg_zero]
  · rw [h]; simp [isg_zero]
  · rw [h]; simp [isg_zero]
  · rw [isg_pos h, isg_neg h', isg_neg (Int.mul_neg_of_pos_of_neg h h')]; rfl
  · rw [h']; simp [isg_zero]
  · rw [isg_pos h, isg_pos h', isg_pos (Int.mul_pos h h')]; rfl
theorem isg_dom {a b : Int} (h : b * b < a * a) : isg (a + b) = isg a := by
  have key : b < a ∧ -b < a ∧ 0 < a ∨ a < b ∧ a < -b ∧ a < 0 := by
    rcases Int.lt_trichotomy a 0 with z | z | z
    · refine .inr ⟨?_, ?_, z⟩
      · by_cases w : a < b
        · exact w
        · have h1 : 0 ≤ (a - b) * (-(a + b)) := Int.mul_nonneg (by omega) (by omega)
          exfalso
          grind
      · by_cases w : a < -b
        · exact w
        · have h1 : 0 ≤ (a + b) * (b - a) := Int.mul_nonneg (by omega) (by omega)
          exfalso
          grind
    · rw [z] at h
      have := sq_nn b
      omega
    · refine .inl ⟨?_, ?_, z⟩
      · by_cases w : b < a
        · exact w
        · have h1 : 0 ≤ (b - a) * (b + a) := Int.mul_nonneg (by omega) (by omega)
          exfalso
          grind
      · by_cases w : -b < a
        · exact w
        · have h1 : 0 ≤ (-b - a) * (a - b) := Int.mul_nonneg (by omega) (by omega)
          exfalso
          grind
  rcases key with ⟨k1, k2, k3⟩ | ⟨k1, k2, k3⟩
  · rw [isg_pos k3, isg_pos (by omega)]
  · rw [isg_neg k3, isg_neg (by omega)]
theorem sq_pos {a : Int} (h : a ≠ 0) : 0 < a * a := by
  have := sq_nn a
  rcases Int.lt_or_eq_of_le this with w | w
  · exact w
  · exact absurd (Int.mul_eq_zero.mp w.symm) (by simp [h])
theorem sg_mul {e P Q P' Q' : Int} (he : 0 < e ∧ Irr e) : sgS (P * P' + Q * Q' * e) (P * Q' + Q * P') e = sgS P Q e * sgS P' Q' e := by
  obtain ⟨e0, irr⟩ := he
  have norm : (P * P' + Q * Q' * e) * (P * P' + Q * Q' * e) - (P * Q' + Q * P') * (P * Q' + Q * P') * e = (P * P - Q * Q * e) * (P' * P' - Q' * Q' * e) := by grind
  by_cases z : P * P = Q * Q * e
  · have q0 := irr _ _ z
    have p0 : P = 0 := by
      rw [q0] at z
      simp at z
      exact (Int.mul_eq_zero.mp z).elim id id
    rw [q0, p0]
    simp [sgS, isg]
  by_cases z' : P' * P' = Q' * Q' * e
  · have q0 := irr _ _ z'
    have p0 : P' = 0 := by
      rw [q0] at z'
      simp at z'
      exact (Int.mul_eq_zero.mp z').elim id id
    rw [q0, p0]
    simp [sgS, isg]
  have nonz : ∀ {A B : Int}, A * A < B * B → B ≠ 0 := by
    intro A B h hb
    have := sq_nn A
    rw [hb] at h
    omega
  unfold sgS
  by_cases h1 : Q * Q * e < P * P <;> by_cases h2 : Q' * Q' * e < P' * P'
  · have := Int.mul_pos (show 0 < P * P - Q * Q * e by omega) (show 0 < P' * P' - Q' * Q' * e by omega)
    rw [if_pos (by omega), if_pos h1, if_pos h2, ← isg_mul]
    refine isg_dom ?_
    have a1 := Int.mul_pos (show 0 < P * P - Q * Q * e by omega) (show 0 < P' * P' by have := sq_nn Q'; have := Int.mul_nonneg this (show 0 ≤ e by omega); omega)
    have a2 := Int.mul_nonneg (show 0 ≤ Q * Q * e by exact Int.mul_nonneg (sq_nn Q) (by omega)) (show 0 ≤ P' * P' - Q' * Q' * e by omega)
    grind
  · have hn := Int.mul_neg_of_pos_of_neg (show 0 < P * P - Q * Q * e by omega) (show P' * P' - Q' * Q' * e < 0 by omega)
    rw [if_neg (by omega), if_pos h1, if_neg h2, ← isg_mul]
    refine isg_dom ?_
    have hQ : 0 < Q' * Q' := by
      refine sq_pos fun w => ?_
      rw [w] at h2 z'
      simp at h2 z'
      have := sq_pos z'
      omega
    have a1 := Int.mul_pos (show 0 < P * P - Q * Q * e by omega) hQ
    have a2 := Int.mul_nonneg (sq_nn Q) (show 0 ≤ Q' * Q' * e - P' * P' by omega)
    grind
  · have hn := Int.mul_neg_of_neg_of_pos (show P * P - Q * Q * e < 0 by omega) (show 0 < P' * P' - Q' * Q' * e by omega)
    rw [if_neg (by omega), if_neg h1, if_pos h2, ← isg_mul, Int.add_comm]
    refine isg_dom ?_
    have hQ : 0 < Q * Q := by
      refine sq_pos fun w => ?_
      rw [w] at h1 z
      simp at h1 z
      have := sq_pos z
      omega
    have a1 := Int.mul_pos hQ (show 0 < P' * P' - Q' * Q' * e by omega)
    have a2 := Int.mul_nonneg (sq_nn Q') (show 0 ≤ Q * Q * e - P * P by omega)
    grind
  · have hn := Int.mul_pos_of_neg_of_neg (show P * P - Q * Q * e < 0 by omega) (show P' * P' - Q' * Q' * e < 0 by omega)
    have e1 : isg (Q * Q' * e) = isg Q * isg Q' := by rw [isg_mul, isg_mul, isg_pos e0, Int.mul_one]
    rw [if_pos (by omega), if_neg h1, if_neg h2, Int.add_comm, ← e1]
    refine isg_dom ?_
    have hQ : 0 < Q * Q * e := by
      have := sq_nn P
      omega
    have a1 := Int.mul_pos hQ (show 0 < Q' * Q' * e - P' * P' by omega)
    have a2 := Int.mul_nonneg (sq_nn P') (show 0 ≤ Q * Q * e - P * P by omega)
    grind
/-! ## comparing -/
theorem isg_tri (n : Int) : isg n = 1 ∨ isg n = 0 ∨ isg n = -1 := by
  unfold isg
  split
  · exact .inl rfl
  · split
    · exact .inr (.inr rfl)
    · exact .inr (.inl rfl)
theorem sg_tri (p q d : Int) : sgS p q d = 1 ∨ sgS p q d = 0 ∨ sgS p q d = -1 := by
  unfold sgS
  split <;> exact isg_tri _
theorem isg_0 {n : Int} (h : isg n = 0) : n = 0 := by
  rcases Int.lt_trichotomy n 0 with z | z | z
  · rw [isg_neg z] at h; omega
  · exact z
  · rw [isg_pos z] at h; omega
theorem isg_1 {n : Int} (h : 0 < isg n) : 0 < n := by
  rcases Int.lt_trichotomy n 0 with z | z | z
  · rw [isg_neg z] at h; omega
  · rw [z] at h; exact absurd h (by decide)
  · exact z
theorem sg_rat (p d : Int) : sgS p 0 d = isg p := by
  unfold sgS
  rw [Int.zero_mul, Int.zero_mul]
  by_cases z : p = 0
  · rw [z]; rfl
  · rw [if_pos (sq_pos z)]
/-- a part of a number: its root is a fraction's only if there is none -/
def Sr (q d : Int) : Prop := 0 ≤ d ∧ (q = 0 ∨ (0 < d ∧ Irr d))
theorem sg_0 {p q d : Int} (h : Sr q d) (hs : sgS p q d = 0) : p = 0 ∧ q = 0 := by
  rcases h.2 with z | ⟨d0, z⟩
  · rw [z, sg_rat] at hs
    exact ⟨isg_0 hs, z⟩
  · unfold sgS at hs
    by_cases w : q * q * d < p * p
    · rw [if_pos w] at hs
      have := isg_0 hs
      rw [this] at w
      have := Int.mul_nonneg (sq_nn q) h.1
      omega
    · rw [if_neg w] at hs
      have q0 := isg_0 hs
      rw [q0] at w
      have := sq_nn p
      have p0 : p * p = 0 := by simp at w; omega
      exact ⟨(Int.mul_eq_zero.mp p0).elim id id, q0⟩
theorem sg_add {P Q P' Q' d : Int} (h1 : Sr Q d) (h2 : Sr Q' d) (a : 0 ≤ sgS P Q d) (b : 0 < sgS P' Q' d) : 0 < sgS (P + P') (Q + Q') d := by
  by_cases hq : Q = 0 ∧ Q' = 0
  · obtain ⟨z1, z2⟩ := hq
    subst z1 z2
    rw [sg_rat] at a b
    rw [Int.add_zero, sg_rat]
    have b1 := isg_1 b
    have a1 : 0 ≤ P := by
      rcases Int.lt_trichotomy P 0 with z | z | z
      · rw [isg_neg z] at a; omega
      · omega
      · omega
    rw [isg_pos (by omega)]
    decide
  · have irr : 0 < d ∧ Irr d := by
      rcases h1.2 with z | z
      · rcases h2.2 with w | w
        · exact absurd ⟨z, w⟩ hq
        · exact w
      · exact z
    by_cases z : sgS P Q d = 0
    · obtain ⟨p0, q0⟩ := sg_0 h1 z
      rw [p0, q0, Int.zero_add, Int.zero_add]
      exact b
    · have u1 : sgS P Q d = 1 := by rcases sg_tri P Q d with w | w | w <;> omega
      have v1 : sgS P' Q' d = 1 := by rcases sg_tri P' Q' d with w | w | w <;> omega
      have N0 : P * P - Q * Q * d ≠ 0 := fun w => by
        have q0 := irr.2 P Q (by omega)
        rw [q0] at w
        have p0 : P = 0 := (Int.mul_eq_zero.mp (by simpa using w)).elim id id
        rw [p0, q0, sg_zero] at u1
        omega
      generalize hN : P * P - Q * Q * d = N at N0
      have NN : 0 < N * N := sq_pos N0
      -- N times the second times the first's conjugate
      have e1 := sg_mul (P := P) (Q := Q) (P' := N * (P' * P - Q' * Q * d)) (Q' := N * (Q' * P - P' * Q)) irr
      have e2 : sgS (P * (N * (P' * P - Q' * Q * d)) + Q * (N * (Q' * P - P' * Q)) * d) (P * (N * (Q' * P - P' * Q)) + Q * (N * (P' * P - Q' * Q * d))) d = sgS P' Q' d :=
        sg_scale (k := 1) (m := N * N) Int.one_pos NN (by rw [← hN]; grind) (by rw [← hN]; grind)
      rw [e2, u1, v1] at e1
      have e3 : sgS (N * (P' * P - Q' * Q * d)) (N * (Q' * P - P' * Q)) d = 1 := by omega
      have e4 : 0 < sgS (N * N + N * (P' * P - Q' * Q * d)) (N * (Q' * P - P' * Q)) d := sg_mono (p := N * (P' * P - Q' * Q * d)) (by omega) (by rw [e3]; decide)
      have e5 : sgS (N * N + N * (P' * P - Q' * Q * d)) (N * (Q' * P - P' * Q)) d = 1 := by
        rcases sg_tri (N * N + N * (P' * P - Q' * Q * d)) (N * (Q' * P - P' * Q)) d with w | w | w <;> omega
      have e6 := sg_mul (P := P) (Q := Q) (P' := N * N + N * (P' * P - Q' * Q * d)) (Q' := N * (Q' * P - P' * Q)) irr
      rw [u1, e5] at e6
      have e7 : sgS (P * (N * N + N * (P' * P - Q' * Q * d)) + Q * (N * (Q' * P - P' * Q)) * d) (P * (N * (Q' * P - P' * Q)) + Q * (N * N + N * (P' * P - Q' * Q * d))) d = sgS (P + P') (Q + Q') d :=
        sg_scale (k := 1) (m := N * N) Int.one_pos NN (by rw [← hN]; grind) (by rw [← hN]; grind)
      rw [← e7, e6]
      decide
theorem sg_more {p p' q d : Int} (h : Sr q d) (hp : p < p') (hs : 0 ≤ sgS p q d) : 0 < sgS p' q d := by
  have := sg_add (P' := p' - p) (Q' := 0) h ⟨h.1, .inl rfl⟩ hs (by rw [sg_rat, isg_pos (by omega)]; decide)
  rw [Int.add_zero, show p + (p' - p) = p' by omega] at this
  exact this
theorem sg_one {p q d : Int} (h : 0 < sgS p q d) : sgS p q d = 1 := by rcases sg_tri p q d with w | w | w <;> omega
theorem sg_neg1 {p q d : Int} (h : sgS p q d < 0) : sgS p q d = -1 := by rcases sg_tri p q d with w | w | w <;> omega
/-- the order where the roots differ -/
def F2 (W L d R e : Int) : Int :=
  if sgS W L d = isg R ∨ isg R = 0 then sgS W L d else
  if sgS W L d = 0 then isg R else
  sgS W L d * sgS (W * W + L * L * d - R * R * e) (2 * W * L) d
theorem F2_neg (W L d R e : Int) : F2 (-W) (-L) d (-R) e = -F2 W L d R e := by
  unfold F2
  rw [sg_negs, isg_negs, Int.neg_mul_neg, Int.neg_mul_neg, Int.neg_mul_neg, show 2 * -W * -L = 2 * W * L by grind]
  by_cases a : sgS W L d = isg R ∨ isg R = 0
  · rw [if_pos a, if_pos (by omega)]
  · rw [if_neg a, if_neg (by omega)]
    by_cases b : sgS W L d = 0
    · rw [if_pos b, if_pos (by omega)]
    · rw [if_neg b, if_neg (by omega), Int.neg_mul]
theorem F2_pos {W L d R e c : Int} (hd : Sr L d) (he : Sr R e) (h1 : 0 < sgS (W + c) L d) (h2 : 0 < sgS (-c) R e) : F2 W L d R e = 1 := by
  -- W + L root d is above -c, and R root e above c
  have up : ∀ w : Int, W + c ≤ w → sgS w L d = 1 := fun w hw => sg_one (sg_mono hw h1)
  have ce : 0 ≤ c → 0 < R ∧ c * c < R * R * e := fun hc => by
    unfold sgS at h2
    rw [Int.neg_mul_neg] at h2
    by_cases w : R * R * e < c * c
    · rw [if_pos w] at h2
      have := isg_1 h2
      omega
    · rw [if_neg w] at h2
      have r0 := isg_1 h2
      refine ⟨r0, ?_⟩
      rcases he.2 with z | ⟨_, z⟩
      · omega
      · have : c * c ≠ R * R * e := fun y => by have := z _ _ y; omega
        omega
  have cn : R < 0 → c < 0 ∧ R * R * e < c * c := fun hr => by
    unfold sgS at h2
    rw [Int.neg_mul_neg] at h2
    by_cases w : R * R * e < c * c
    · rw [if_pos w] at h2
      have := isg_1 h2
      exact ⟨by omega, w⟩
    · rw [if_neg w, isg_neg hr] at h2
      omega
  unfold F2
  rcases Int.lt_trichotomy R 0 with r | r | r
  · obtain ⟨c0, cc⟩ := cn r
    have n1 := up W (by omega)
    rw [isg_neg r, n1, if_neg (by omega), if_neg (by omega), Int.one_mul]
    -- (A + c) (A - c) = A A - c c
    have a1 : sgS (W - c) L d = 1 := up _ (by omega)
    have sr : Sr (2 * W * L) d := ⟨hd.1, hd.2.elim (fun z => .inl (by rw [z]; simp)) .inr⟩
    have a3 : 0 ≤ sgS ((W + c) * (W - c) + L * L * d) ((W + c) * L + L * (W - c)) d := by
      rcases hd.2 with z | z
      · subst z
        rw [show (W + c) * 0 + 0 * (W - c) = 0 by simp, sg_rat]
        have : 0 < (W + c) * (W - c) + 0 * 0 * d := by
          rw [sg_rat] at h1 a1
          have k1 := isg_1 h1
          have k2 : 0 < W - c := isg_1 (by rw [a1]; decide)
          have := Int.mul_pos k1 k2
          simp
          exact this
        rw [isg_pos this]
        decide
      · rw [sg_mul z, a1, sg_one h1]
        decide
    rw [show (W + c) * L + L * (W - c) = 2 * W * L by grind] at a3
    exact sg_one (sg_more sr (by grind) a3)
  · rw [r, isg_zero, if_pos (.inr rfl)]
    refine up W ?_
    have : ¬ 0 < c := fun z => by have := (ce (by omega)).1; omega
    omega
  · rw [isg_pos r]
    by_cases n : sgS W L d = 1
    · rw [if_pos (.inl n), n]
    · rw [if_neg (by omega)]
      by_cases n0 : sgS W L d = 0
      · rw [if_pos n0]
      · rw [if_neg n0]
        have n1 : sgS W L d = -1 := by rcases sg_tri W L d with w | w | w <;> omega
        have c0 : 0 < c := Int.lt_of_not_ge fun z => n (up W (by omega))
        obtain ⟨_, cc⟩ := ce (by omega)
        rw [n1]
        have b1 : 0 < sgS (c - W) (-L) d := by
          have hl : Sr (-L) d := ⟨hd.1, hd.2.elim (fun z => .inl (by rw [z]; rfl)) .inr⟩
          refine sg_more (p := -W) hl (by omega) ?_
          rw [sg_negs, n1]
          decide
        have sr : Sr (-(2 * W * L)) d := ⟨hd.1, hd.2.elim (fun z => .inl (by rw [z]; simp)) .inr⟩
        have a3 : 0 ≤ sgS ((W + c) * (c - W) + L * -L * d) ((W + c) * -L + L * (c - W)) d := by
          rcases hd.2 with z | z
          · subst z
            rw [show (W + c) * -0 + 0 * (c - W) = 0 by simp, sg_rat]
            have : 0 < (W + c) * (c - W) + 0 * -0 * d := by
              rw [sg_rat] at h1
              rw [Int.neg_zero, sg_rat] at b1
              have := Int.mul_pos (isg_1 h1) (isg_1 b1)
              simp
              exact this
            rw [isg_pos this]
            decide
          · rw [sg_mul z, sg_one b1, sg_one h1]
            decide
        rw [show (W + c) * -L + L * (c - W) = -(2 * W * L) by grind] at a3
        have a4 := sg_one (sg_more (p' := -(W * W + L * L * d - R * R * e)) sr (by grind) a3)
        rw [sg_negs] at a4
        omega
theorem cmp_eq (x y : Num) : cmpN x y = if x.2.2.1 = y.2.2.1 then sgS (x.1 * y.2.2.2 - y.1 * x.2.2.2) (x.2.1 * y.2.2.2 + -y.2.1 * x.2.2.2) x.2.2.1
    else F2 (x.1 * y.2.2.2 - y.1 * x.2.2.2) (x.2.1 * y.2.2.2) x.2.2.1 (-y.2.1 * x.2.2.2) y.2.2.1 := rfl
theorem F2_scale {W L d R e T : Int} (hT : 0 < T) : F2 (W * T) (L * T) d (R * T) e = F2 W L d R e := by
  have TT := Int.mul_pos hT hT
  unfold F2
  rw [sg_scale (P := W * T) (Q := L * T) (P' := W) (Q' := L) (k := 1) (m := T) Int.one_pos hT (by grind) (by grind),
    isg_scale (P := R * T) (P' := R) (k := 1) (m := T) Int.one_pos hT (by grind),
    sg_scale (P := W * T * (W * T) + L * T * (L * T) * d - R * T * (R * T) * e) (Q := 2 * (W * T) * (L * T)) (P' := W * W + L * L * d - R * R * e) (Q' := 2 * W * L) (k := 1) (m := T * T) Int.one_pos TT (by grind) (by grind)]
/-- a number of the law's -/
structure Cn1 (x : Num) : Prop where
  s0 : 0 < x.2.2.2
  sr : Sr x.2.1 x.2.2.1
theorem cmp_by {x y : Num} (hx : Cn1 x) (hy : Cn1 y) {T f : Int} (hT : 0 < T) (h1 : 0 < sgS (x.1 * T - f * x.2.2.2) (x.2.1 * T) x.2.2.1) (h2 : sgS (y.1 * T - f * y.2.2.2) (y.2.1 * T) y.2.2.1 < 0) : cmpN x y = 1 ∧ cmpN y x = -1 := by
  obtain ⟨p, q, d, s⟩ := x
  obtain ⟨p', q', d', s'⟩ := y
  obtain ⟨s0, sr⟩ := hx
  obtain ⟨s0', sr'⟩ := hy
  rw [cmp_eq, cmp_eq]
  dsimp only at *
  have mz : ∀ {a b d : Int}, Sr a d → Sr (a * b) d := fun h => ⟨h.1, h.2.elim (fun z => .inl (by rw [z]; simp)) .inr⟩
  have ng : ∀ {a d : Int}, Sr a d → Sr (-a) d := fun h => ⟨h.1, h.2.elim (fun z => .inl (by rw [z]; rfl)) .inr⟩
  have k1 : 0 < sgS ((p * T - f * s) * s') (q * T * s') d := by rw [sg_scale (k := 1) (m := s') (P' := p * T - f * s) (Q' := q * T) Int.one_pos s0' (by grind) (by grind)]; exact h1
  have k2 : 0 < sgS (-((p' * T - f * s') * s)) (-(q' * T * s)) d' := by
    rw [sg_negs, sg_scale (k := 1) (m := s) Int.one_pos s0 (P' := p' * T - f * s') (Q' := q' * T) (by grind) (by grind)]
    omega
  by_cases hd : d = d'
  · subst hd
    rw [if_pos rfl, if_pos rfl]
    have k3 := sg_add (mz (mz sr)) (ng (mz (mz sr'))) (Int.le_of_lt k1) k2
    have k4 : sgS (p * s' - p' * s) (q * s' + -q' * s) d = 1 := by
      rw [← sg_one k3]
      exact sg_scale (k := T) (m := 1) hT Int.one_pos (by grind) (by grind)
    refine ⟨k4, ?_⟩
    rw [show p' * s - p * s' = -(p * s' - p' * s) by omega, show q' * s + -q * s' = -(q * s' + -q' * s) by grind, sg_negs, k4]
  · rw [if_neg hd, if_neg (fun z => hd z.symm)]
    constructor
    · rw [← F2_scale hT]
      refine F2_pos (c := (p' * T - f * s') * s) (mz (mz sr)) (mz (mz (ng sr'))) ?_ ?_
      · rw [show (p * s' - p' * s) * T + (p' * T - f * s') * s = (p * T - f * s) * s' by grind, show q * s' * T = q * T * s' by grind]
        exact k1
      · rw [show -q' * s * T = -(q' * T * s) by grind]
        exact k2
    · have := F2_pos (W := (p * s' - p' * s) * T) (L := -(q' * s) * T) (d := d') (R := q * s' * T) (e := d) (c := -((p * T - f * s) * s')) (mz (ng (mz sr'))) (mz (mz sr)) (by
        rw [show (p * s' - p' * s) * T + -((p * T - f * s) * s') = -((p' * T - f * s') * s) by grind, show -(q' * s) * T = -(q' * T * s) by grind]
        exact k2) (by
        rw [Int.neg_neg, show q * s' * T = q * T * s' by grind]
        exact k1)
      rw [F2_scale hT] at this
      rw [← this, ← F2_neg]
      rw [show -(p * s' - p' * s) = p' * s - p * s' by omega, Int.neg_neg, show -(q * s') = -q * s' by grind]
theorem cmp_self (x : Num) : cmpN x x = 0 := by
  rw [cmp_eq, if_pos rfl, Int.sub_self, show x.2.1 * x.2.2.2 + -x.2.1 * x.2.2.2 = 0 by grind, sg_zero]
/-- what the scaled values tell -/
theorem scl_flo {p q d s : Int} (n : Nat) (hs : 0 < s) (hd : 0 ≤ d) : scl p q d s n = flo (p * 10 ^ n) (q * 10 ^ n) d s ∨ scl p q d s n = flo (p * 10 ^ n) (q * 10 ^ n) d s + 1 := by
  have hT := ten_pos n
  have e : scl p q d s n = scl (p * 10 ^ n) (q * 10 ^ n) d s 0 := by
    unfold scl
    generalize (10 : Int) ^ n = T at *
    simp only [Int.pow_zero, Int.mul_one]
    rw [show q * T * (q * T) * d = q * q * d * T * T by grind]
    have : (0 < q * T) = (0 < q) := propext (pos_mul hT)
    simp only [this]
  rw [e]
  exact scl0 hs hd
theorem scl_tells {x y : Num} (hx : Cn1 x) (hy : Cn1 y) (n : Nat) (h : scl y.1 y.2.1 y.2.2.1 y.2.2.2 n + 4 < scl x.1 x.2.1 x.2.2.1 x.2.2.2 n) : cmpN x y = 1 ∧ cmpN y x = -1 := by
  have hT := ten_pos n
  have fx := scl_flo (p := x.1) (q := x.2.1) n hx.s0 hx.sr.1
  have fy := scl_flo (p := y.1) (q := y.2.1) n hy.s0 hy.sr.1
  have gy := (sg_flo (p := y.1 * 10 ^ n) (q := y.2.1 * 10 ^ n) (f := flo (y.1 * 10 ^ n) (y.2.1 * 10 ^ n) y.2.2.1 y.2.2.2 + 1) hy.s0 hy.sr.1).mpr (by omega)
  have gx := (sg_flo (p := x.1 * 10 ^ n) (q := x.2.1 * 10 ^ n) (f := flo (y.1 * 10 ^ n) (y.2.1 * 10 ^ n) y.2.2.1 y.2.2.2 + 2) hx.s0 hx.sr.1)
  refine cmp_by hx hy hT (sg_more (p := x.1 * 10 ^ n - (flo (y.1 * 10 ^ n) (y.2.1 * 10 ^ n) y.2.2.1 y.2.2.2 + 2) * x.2.2.2) ⟨hx.sr.1, hx.sr.2.elim (fun z => .inl (by rw [z]; simp)) .inr⟩ ?_ ?_) gy
  · have := hx.s0
    grind
  · refine Int.not_lt.mp fun w => ?_
    have := gx.mp w
    omega
end T4

set_option maxRecDepth 100000
set_option maxHeartbeats 4000000
set_option exponentiation.threshold 30000
namespace T4
open PySem L2 FD
/-! ## two numbers that differ are told apart at 2048 places -/
structure Nu (i : Nat) (x : Num) : Prop where
  s0 : 0 < x.2.2.2
  sr : Sr x.2.1 x.2.2.1
  q0 : x.2.1 = 0 → x.2.2.1 = 0
  gc1 : gc x.1 x.2.1 x.2.2.2 = 1
  zp : x.1.natAbs < 2 ^ 1100
  zq : x.2.1.natAbs < 2 ^ i
  zd : x.2.2.1.natAbs < 2 ^ 40
  zs : x.2.2.2.natAbs < 2 ^ i
theorem Nu.cn {i : Nat} {x : Num} (h : Nu i x) : Cn1 x := ⟨h.s0, h.sr⟩
theorem sq_of {a : Int} {b : Nat} (h0 : 0 ≤ a) (h : (a * a).natAbs < 2 ^ (b + b)) : a.natAbs < 2 ^ b := by
  refine Nat.lt_of_not_ge fun w => ?_
  have := Nat.mul_le_mul w w
  rw [← Nat.pow_add, ← Int.natAbs_mul] at this
  omega
theorem nle {a b : Int} {c : Nat} (h0 : 0 ≤ a) (h : a ≤ b) (hb : b.natAbs < 2 ^ c) : a.natAbs < 2 ^ c := by omega
theorem pow_ge {T : Int} {k : Nat} (h : 2 ^ k ≤ T.natAbs) : 2 ^ (k + k) ≤ (T * T).natAbs := by
  rw [Int.natAbs_mul, Nat.pow_add]
  exact Nat.mul_le_mul h h
theorem tooBig {N X : Int} {U : Int} {m n : Nat} (hN : N ≠ 0) (hU : 2 ^ m ≤ U.natAbs) (e : N * U = X) (hX : X.natAbs < 2 ^ n) (h : n ≤ m := by decide) : False := by
  have h1 : U.natAbs ≤ (N * U).natAbs := by
    rw [Int.natAbs_mul]
    exact Nat.le_mul_of_pos_left _ (by omega)
  rw [e] at h1
  have := Nat.pow_le_pow_right (show 0 < 2 by decide) h
  omega
theorem far4 {w a b ea eb N T : Int} (hN : N ≠ 0) (hT : 2 ^ 6800 ≤ T.natAbs) (e : N * ((T * T) * (T * T)) = (w * w + (a * a + ea) - (b * b + eb)) * (w * w + (a * a + ea) - (b * b + eb)) - 4 * (w * w) * (a * a + ea))
    (hE : (w + a + b).natAbs < 2 ^ 1206) (hw : w.natAbs < 2 ^ 8052) (ha : a.natAbs < 2 ^ 8050) (hb : b.natAbs < 2 ^ 8050) (za : ea.natAbs < 2 ^ 9300) (zb : eb.natAbs < 2 ^ 9300) : False := by
  have e' : N * ((T * T) * (T * T)) = (w + a + b) * (w + a - b) * ((w - a + b) * (w - a - b)) + (2 * (w * w + a * a - b * b) * (ea - eb) + ((ea - eb) * (ea - eb) - 4 * (w * w) * ea)) := by
    rw [e]; grind
  have a1 : a.natAbs < 2 ^ 8052 := lt_up ha
  have b1 : b.natAbs < 2 ^ 8053 := lt_up hb
  have f1 : (w + a - b).natAbs < 2 ^ 8054 := sub_lt (add_lt hw a1) b1
  have f2 : (w - a + b).natAbs < 2 ^ 8054 := add_lt (sub_lt hw a1) b1
  have f3 : (w - a - b).natAbs < 2 ^ 8054 := sub_lt (sub_lt hw a1) b1
  have g1 := mul_lt (mul_lt hE f1) (mul_lt f2 f3)
  have g2 : (w * w + a * a - b * b).natAbs < 2 ^ 16106 := sub_lt (a := 16105) (add_lt (a := 16104) (mul_lt hw hw) (mul_lt a1 a1)) (lt_up (mul_lt hb hb))
  have g3 : (ea - eb).natAbs < 2 ^ 9301 := sub_lt za zb
  have g4 : (2 * (w * w + a * a - b * b) * (ea - eb)).natAbs < 2 ^ (2 + 16106 + 9301) := mul_lt (mul_lt (by decide) g2) g3
  have g5 := mul_lt g3 g3
  have g6 : (4 * (w * w) * ea).natAbs < 2 ^ (3 + (8052 + 8052) + 9300) := mul_lt (mul_lt (by decide) (mul_lt hw hw)) za
  have g7 : ((ea - eb) * (ea - eb) - 4 * (w * w) * ea).natAbs < 2 ^ 25501 := sub_lt (a := 25500) (lt_up g5) (lt_up g6)
  have g8 : (2 * (w * w + a * a - b * b) * (ea - eb) + ((ea - eb) * (ea - eb) - 4 * (w * w) * ea)).natAbs < 2 ^ 25502 := add_lt (lt_up g4) g7
  have g9 := add_lt (a := 25600) (lt_up g1) (lt_up g8)
  exact tooBig hN (pow_ge (pow_ge hT)) e' g9
/-- the root of a part, at T -/
structure Ro (q d T r : Int) : Prop where
  r0 : 0 ≤ r
  lo : r * r ≤ q * q * d * T * T
  hi : q * q * d * T * T < (r + 1) * (r + 1)
theorem ro_at {q d T : Int} (hd : 0 ≤ d) (hT : 0 ≤ T) : Ro q d T (sq (q * q * d * T * T)) := by
  obtain ⟨a, b, c⟩ := sq_spec (Int.mul_nonneg (Int.mul_nonneg (Int.mul_nonneg (sq_nn q) hd) hT) hT)
  exact ⟨a, b, c⟩
theorem ro_sz {q d T r : Int} {i : Nat} (h : Ro q d T r) (hq : q.natAbs < 2 ^ i) (hd : d.natAbs < 2 ^ 40) (hT : T.natAbs < 2 ^ 6804) : r.natAbs < 2 ^ (i + 6824) := by
  refine sq_of h.r0 (nle (sq_nn r) h.lo ?_)
  have := mul_lt (mul_lt (mul_lt (mul_lt hq hq) hd) hT) hT
  rw [show i + 6824 + (i + 6824) = i + i + 40 + 6804 + 6804 by omega]
  exact this
def sgd (q r : Int) : Int := if 0 < q then r else 0 - r
theorem sgd_sq (q r : Int) : sgd q r * sgd q r = r * r := by
  unfold sgd
  split
  · rfl
  · grind
theorem sgd_sz {q r : Int} {b : Nat} (h : r.natAbs < 2 ^ b) : (sgd q r).natAbs < 2 ^ b := by
  unfold sgd
  split <;> omega
/-- what is left of two scaled values that are near -/
theorem near_E {p q s p' q' s' T r r' : Int} {i j : Nat} (s0 : 0 < s) (s0' : 0 < s') (zs : s.natAbs < 2 ^ i) (zs' : s'.natAbs < 2 ^ j)
    (h : ((p * T + sgd q r).fdiv s - (p' * T + sgd q' r').fdiv s').natAbs ≤ 4) :
    ((p * s' - p' * s) * T + s' * sgd q r + -(s * sgd q' r')).natAbs < 2 ^ (i + j + 5) := by
  obtain ⟨f1, f2⟩ := fdiv_spec (a := p * T + sgd q r) s0
  obtain ⟨g1, g2⟩ := fdiv_spec (a := p' * T + sgd q' r') s0'
  generalize hA : p * T + sgd q r = A at *
  generalize hB : p' * T + sgd q' r' = B at *
  generalize A.fdiv s = v at *
  generalize B.fdiv s' = v' at *
  have e : (p * s' - p' * s) * T + s' * sgd q r + -(s * sgd q' r') = s * s' * (v - v') + (s' * (A - v * s) - s * (B - v' * s')) := by
    rw [← hA, ← hB]; grind
  rw [e]
  have f3 : A < v * s + s := by rw [Int.add_mul] at f2; omega
  have g3 : B < v' * s' + s' := by rw [Int.add_mul] at g2; omega
  have h1 : (A - v * s).natAbs < 2 ^ i := by omega
  have h2 : (B - v' * s').natAbs < 2 ^ j := by omega
  have h3 : (v - v').natAbs < 2 ^ 3 := by omega
  have k1 := mul_lt (mul_lt zs zs') h3
  have k2 := mul_lt zs' h1
  have k3 := mul_lt zs h2
  have k4 := sub_lt (a := i + j) (lt_up k2 (by omega)) (lt_up k3 (by omega))
  exact lt_up (add_lt k1 (lt_up k4 (by omega))) (by omega)
theorem big10 : 2 ^ 6800 ≤ ((10 : Int) ^ 2048).natAbs := by
  rw [Int.natAbs_pow]
  decide +kernel
theorem big10' : ((10 : Int) ^ 2048).natAbs < 2 ^ 6804 := by
  rw [Int.natAbs_pow]
  decide +kernel
theorem apart4 {i j : Nat} {x y : Num} (hx : Nu i x) (hy : Nu j y) (hij : i + j ≤ 1200) (hd : x.2.2.1 ≠ y.2.2.1) (hirr : x.2.1 ≠ 0 → y.2.1 ≠ 0 → Irr (x.2.2.1 * y.2.2.1)) :
    4 < (scl x.1 x.2.1 x.2.2.1 x.2.2.2 2048 - scl y.1 y.2.1 y.2.2.1 y.2.2.2 2048).natAbs := by
  refine Nat.lt_of_not_ge fun h => ?_
  obtain ⟨p, q, d, s⟩ := x
  obtain ⟨p', q', d', s'⟩ := y
  obtain ⟨s0, sr, q0, -, -, zq, zd, zs⟩ := hx
  obtain ⟨s0', sr', q0', -, -, zq', zd', zs'⟩ := hy
  dsimp only at *
  have T0 := ten_pos 2048
  have R1 := ro_at (q := q) sr.1 (Int.le_of_lt T0)
  have R2 := ro_at (q := q') sr'.1 (Int.le_of_lt T0)
  have hT := big10
  have hT' := big10'
  unfold scl at h
  generalize (10 : Int) ^ 2048 = T at *
  generalize sq (q * q * d * T * T) = r at *
  generalize sq (q' * q' * d' * T * T) = r' at *
  have hE := near_E (q := q) (q' := q') s0 s0' zs zs' h
  have z1 := ro_sz R1 zq zd hT'
  have z2 := ro_sz R2 zq' zd' hT'
  have za := mul_lt zs' (sgd_sz (q := q) z1)
  have zb := mul_lt zs (sgd_sz (q := q') z2)
  have za' : (s' * sgd q r).natAbs < 2 ^ 8050 := lt_up za (by omega)
  have zb' : (-(s * sgd q' r')).natAbs < 2 ^ 8050 := neg_lt (lt_up zb (by omega))
  have hE' : ((p * s' - p' * s) * T + s' * sgd q r + -(s * sgd q' r')).natAbs < 2 ^ 1206 := lt_up hE (by omega)
  have zw : ((p * s' - p' * s) * T).natAbs < 2 ^ 8052 := by
    have := sub_lt (sub_lt (a := 8050) (lt_up hE') za') (lt_up zb')
    rw [show (p * s' - p' * s) * T + s' * sgd q r + -(s * sgd q' r') - s' * sgd q r - -(s * sgd q' r') = (p * s' - p' * s) * T by omega] at this
    exact this
  have ze : ∀ {u v z : Int} {k l : Nat}, z.natAbs < 2 ^ k → v.natAbs < 2 ^ l → 0 ≤ v → v * v ≤ u → u < (v + 1) * (v + 1) → (z * z * (u - v * v)).natAbs < 2 ^ (k + k + (l + 2)) := fun {u v z k l} hz hv v0 h1 h2 => by
    refine mul_lt (mul_lt hz hz) ?_
    have e : (v + 1) * (v + 1) = v * v + 2 * v + 1 := by grind
    have : (2 * v).natAbs < 2 ^ (2 + l) := mul_lt (by decide) hv
    rw [Nat.add_comm 2 l] at this
    omega
  have y1 := ze zs' z1 R1.r0 R1.lo R1.hi
  have y2 := ze zs z2 R2.r0 R2.lo R2.hi
  refine far4 (w := (p * s' - p' * s) * T) (a := s' * sgd q r) (b := -(s * sgd q' r')) (ea := s' * s' * (q * q * d * T * T - r * r)) (eb := s * s * (q' * q' * d' * T * T - r' * r'))
    (N := ((p * s' - p' * s) * (p * s' - p' * s) + (q * s') * (q * s') * d - (q' * s) * (q' * s) * d') * ((p * s' - p' * s) * (p * s' - p' * s) + (q * s') * (q * s') * d - (q' * s) * (q' * s) * d') - 4 * ((p * s' - p' * s) * (p * s' - p' * s)) * ((q * s') * (q * s') * d)) ?_ hT ?_ hE' zw za' zb' (lt_up y1 (by omega)) (lt_up y2 (by omega))
  · generalize p * s' - p' * s = W
    intro hN
    have l0 : q ≠ 0 → q * s' ≠ 0 := fun w z => (Int.mul_eq_zero.mp z).elim w (by omega)
    have l0' : q' ≠ 0 → q' * s ≠ 0 := fun w z => (Int.mul_eq_zero.mp z).elim w (by omega)
    generalize q * s' = L at *
    generalize hR : q' * s = R at *
    rcases sr.2 with z | ⟨d0, irr⟩
    · have d00 := q0 z
      rw [d00] at hd hN
      simp only [Int.mul_zero, Int.add_zero, Int.sub_zero] at hN
      have m0 : W * W - R * R * d' = 0 := (Int.mul_eq_zero.mp hN).elim id id
      have hq' : q' ≠ 0 := fun w => hd (q0' w).symm
      rcases sr'.2 with w | ⟨_, w⟩
      · exact hq' w
      · exact l0' hq' (w W R (by omega))
    · have hq : q ≠ 0 := fun w => by have := q0 w; omega
      have n0 := irr (W * W + L * L * d - R * R * d') (2 * W * L) (by grind)
      have w0 : W = 0 := by
        rcases Int.mul_eq_zero.mp n0 with u | u
        · omega
        · exact absurd u (l0 hq)
      subst w0
      have m0 : 0 * 0 + L * L * d - R * R * d' = 0 := by
        have : (0 * 0 + L * L * d - R * R * d') * (0 * 0 + L * L * d - R * R * d') = 0 := by
          simp only [Int.mul_zero, Int.zero_mul, Int.sub_zero, Int.zero_add] at hN ⊢
          exact hN
        exact (Int.mul_eq_zero.mp this).elim id id
      by_cases z : q' = 0
      · have d00 := q0' z
        rw [d00] at m0
        have : 0 < L * L * d := Int.mul_pos (sq_pos (l0 hq)) d0
        omega
      · exact l0' z (hirr hq z (L * d) R (by grind))
  · have k1 : s' * sgd q r * (s' * sgd q r) = s' * s' * (r * r) := by rw [← sgd_sq q r]; grind
    have k2 : -(s * sgd q' r') * -(s * sgd q' r') = s * s * (r' * r') := by rw [← sgd_sq q' r']; grind
    rw [k1, k2]
    grind
theorem near_tau {q d T r t : Int} (R : Ro q d T r) (R1 : Ro 1 d T t) : (sgd q r - q * t).natAbs ≤ q.natAbs := by
  obtain ⟨r0, lo, hi⟩ := R
  obtain ⟨t0, lo1, hi1⟩ := R1
  rw [show 1 * 1 * d * T * T = d * T * T by simp] at lo1 hi1
  have key : ∀ m : Int, 0 ≤ m → m * m = q * q → m * t ≤ r ∧ r ≤ m * t + m := fun m m0 e => by
    have e1 : q * q * d * T * T = m * m * (d * T * T) := by rw [e]; grind
    rw [e1] at lo hi
    have mm := Int.mul_nonneg m0 m0
    constructor
    · refine Int.le_of_lt_add_one (lt_of_sq (by omega) ?_)
      have := Int.mul_le_mul_of_nonneg_left lo1 mm
      have e2 : m * t * (m * t) = m * m * (t * t) := by grind
      omega
    · have e2 : (m * t + m) * (m * t + m) = m * m * ((t + 1) * (t + 1)) := by grind
      have := Int.mul_le_mul_of_nonneg_left (Int.le_of_lt hi1) mm
      have z := Int.mul_nonneg m0 t0
      refine Int.le_of_lt_add_one (lt_of_sq (by omega) ?_)
      have e3 : (m * t + m + 1) * (m * t + m + 1) = (m * t + m) * (m * t + m) + 2 * (m * t + m) + 1 := by grind
      omega
  unfold sgd
  by_cases a : 0 < q
  · rw [if_pos a]
    obtain ⟨k1, k2⟩ := key q (by omega) rfl
    omega
  · rw [if_neg a]
    obtain ⟨k1, k2⟩ := key (-q) (by omega) (Int.neg_mul_neg q q)
    rw [Int.neg_mul] at k1 k2
    omega
theorem gc_same {a b c a' b' c' : Int} (hg : gc a b c = 1) (e1 : a * c' = a' * c) (e2 : b * c' = b' * c) : c ∣ c' := by
  have d1 : c.natAbs ∣ c'.natAbs * a.natAbs := by
    rw [← Int.natAbs_mul, Int.natAbs_dvd_natAbs]
    exact ⟨a', by rw [Int.mul_comm c' a, e1, Int.mul_comm]⟩
  have d2 : c.natAbs ∣ c'.natAbs * b.natAbs := by
    rw [← Int.natAbs_mul, Int.natAbs_dvd_natAbs]
    exact ⟨b', by rw [Int.mul_comm c' b, e2, Int.mul_comm]⟩
  have d3 : c.natAbs ∣ c'.natAbs * c.natAbs := Nat.dvd_mul_left _ _
  have d4 := Nat.dvd_gcd (Nat.dvd_gcd d1 d2) d3
  rw [Nat.gcd_mul_left, Nat.gcd_mul_left] at d4
  have d5 : (a.natAbs.gcd b.natAbs).gcd c.natAbs = 1 := by unfold gc at hg; omega
  rw [d5, Nat.mul_one] at d4
  exact Int.natAbs_dvd_natAbs.mp d4
theorem same_of {i j : Nat} {x y : Num} (hx : Nu i x) (hy : Nu j y) (hd : x.2.2.1 = y.2.2.1) (h1 : x.1 * y.2.2.2 = y.1 * x.2.2.2) (h2 : x.2.1 * y.2.2.2 = y.2.1 * x.2.2.2) : x = y := by
  obtain ⟨a, b, d, c⟩ := x
  obtain ⟨a', b', d', c'⟩ := y
  have p1 := hx.s0
  have q1 := hy.s0
  have k1 := gc_same hx.gc1 h1 h2
  have k2 := gc_same hy.gc1 h1.symm h2.symm
  dsimp only at *
  have hc : c = c' := by
    have := Int.le_of_dvd q1 k1
    have := Int.le_of_dvd p1 k2
    omega
  subst hc
  have ha : a = a' := Int.eq_of_mul_eq_mul_right (by omega) h1
  have hb : b = b' := Int.eq_of_mul_eq_mul_right (by omega) h2
  rw [ha, hb, hd]
theorem apart1 {x y : Num} (hx : Nu 1100 x) (hy : Nu 1100 y) (hd : x.2.2.1 = y.2.2.1) (hne : x ≠ y) : 4 < (scl x.1 x.2.1 x.2.2.1 x.2.2.2 2048 - scl y.1 y.2.1 y.2.2.1 y.2.2.2 2048).natAbs := by
  refine Nat.lt_of_not_ge fun h => ?_
  have hsame := same_of hx hy hd
  obtain ⟨p, q, d, s⟩ := x
  obtain ⟨p', q', d', s'⟩ := y
  obtain ⟨s0, sr, q0, -, -, zq, zd, zs⟩ := hx
  obtain ⟨s0', sr', q0', -, -, zq', zd', zs'⟩ := hy
  dsimp only at *
  subst hd
  have T0 := ten_pos 2048
  have R1 := ro_at (q := q) sr.1 (Int.le_of_lt T0)
  have R2 := ro_at (q := q') sr'.1 (Int.le_of_lt T0)
  have Rt := ro_at (q := 1) sr.1 (Int.le_of_lt T0)
  have hT := big10
  have hT' := big10'
  unfold scl at h
  generalize (10 : Int) ^ 2048 = T at *
  generalize sq (q * q * d * T * T) = r at *
  generalize sq (q' * q' * d * T * T) = r' at *
  generalize sq (1 * 1 * d * T * T) = t at *
  have hE := near_E (q := q) (q' := q') s0 s0' zs zs' h
  have n1 := near_tau R1 Rt
  have n2 := near_tau R2 Rt
  have zt := ro_sz (i := 1) Rt (by decide) zd hT'
  have zM : (q * s' - q' * s).natAbs < 2 ^ 2201 := sub_lt (mul_lt zq zs') (mul_lt zq' zs)
  have x1 : (s' * (sgd q r - q * t)).natAbs < 2 ^ 2200 := mul_lt zs' (show (sgd q r - q * t).natAbs < 2 ^ 1100 by omega)
  have x2 : (s * (sgd q' r' - q' * t)).natAbs < 2 ^ 2201 := lt_up (mul_lt zs (show (sgd q' r' - q' * t).natAbs < 2 ^ 1100 by omega))
  have zE : ((p * s' - p' * s) * T + (q * s' - q' * s) * t).natAbs < 2 ^ 2207 := by
    have := add_lt (sub_lt (a := 2205) (lt_up hE) (lt_up x1)) (lt_up x2)
    rw [show (p * s' - p' * s) * T + s' * sgd q r + -(s * sgd q' r') - s' * (sgd q r - q * t) + s * (sgd q' r' - q' * t) = (p * s' - p' * s) * T + (q * s' - q' * s) * t by grind] at this
    exact this
  have hN : (p * s' - p' * s) * (p * s' - p' * s) - (q * s' - q' * s) * (q * s' - q' * s) * d ≠ 0 := fun w => by
    have m0 : q * s' - q' * s = 0 := by
      rcases sr.2 with z | ⟨_, z⟩
      · rcases sr'.2 with u | ⟨_, u⟩
        · rw [z, u]; simp
        · exact u _ _ (Int.eq_of_sub_eq_zero w)
      · exact z _ _ (Int.eq_of_sub_eq_zero w)
    rw [m0] at w
    simp only [Int.mul_zero, Int.zero_mul, Int.sub_zero] at w
    have w0 : p * s' - p' * s = 0 := (Int.mul_eq_zero.mp w).elim id id
    exact hne (hsame (Int.eq_of_sub_eq_zero w0) (Int.eq_of_sub_eq_zero m0))
  generalize p * s' - p' * s = W at *
  generalize q * s' - q' * s = M at *
  obtain ⟨t0, lo, hi⟩ := Rt
  rw [show 1 * 1 * d * T * T = d * T * T by simp] at lo hi
  have e3 : (t + 1) * (t + 1) = t * t + 2 * t + 1 := by grind
  have zMt : (2 * (M * t)).natAbs < 2 ^ (2 + (2201 + (1 + 6824))) := mul_lt (by decide) (mul_lt zM zt)
  have ze : (d * T * T - t * t).natAbs < 2 ^ 6828 := by
    have : (2 * t).natAbs < 2 ^ (2 + (1 + 6824)) := mul_lt (by decide) zt
    have := lt_up this (b := 6828)
    omega
  have e4 : (W * W - M * M * d) * (T * T) = (W * T + M * t) * (W * T + M * t - 2 * (M * t)) - M * M * (d * T * T - t * t) := by grind
  have g1 : (W * T + M * t - 2 * (M * t)).natAbs < 2 ^ 9031 := sub_lt (a := 9030) (lt_up zE) (lt_up zMt)
  have g2 := mul_lt zE g1
  have g3 := mul_lt (mul_lt zM zM) ze
  have g4 := sub_lt (a := 12000) (lt_up g2) (lt_up g3)
  exact tooBig hN (pow_ge hT) e4 g4
end T4

set_option maxRecDepth 100000
set_option maxHeartbeats 4000000
set_option exponentiation.threshold 13000
namespace FD
open PySem PySem.Spec PyProof.Rows L2
/-! ## the text of data: its size, its code points -/
mutual
def wid : PyData → Nat
  | .none => 4
  | .bool _ => 5
  | .int _ => 4302
  | .str x => (reprText x).length
  | .list xs => wids xs + 3
  | .tuple xs => wids xs + 3
  | .dict _ => 0
def wids : List PyData → Nat
  | [] => 0
  | x :: xs => wid x + 2 + wids xs
end
mutual
def okStr : PyData → Bool
  | .str x => PyData.strOk (reprText x)
  | .list xs => okStrs xs
  | .tuple xs => okStrs xs
  | .dict _ => false
  | _ => true
def okStrs : List PyData → Bool
  | [] => true
  | x :: xs => okStr x && okStrs xs
end
theorem ok_of (x : String) : PyData.strOk (Str.ofString x) = true := by
  unfold PyData.strOk
  rw [Str.ofString_eq_toList]
  simp only [List.all_toArray, List.all_map, List.all_eq_true, Function.comp_apply, decide_eq_true_eq]
  intro c _
  have := c.valid
  have h2 : c.val.toNat < 0x110000 := by
    rcases this with h | ⟨_, h⟩ <;> omega
  exact h2
theorem ok_app {x y : Str} (hx : PyData.strOk x = true) (hy : PyData.strOk y = true) : PyData.strOk (x ++ y) = true := by
  unfold PyData.strOk at *
  show (x.cps ++ y.cps).all _ = true
  rw [Array.all_append, hx, hy]
  rfl
theorem ok_join (sep : Str) (hs : PyData.strOk sep = true) : ∀ ts : List Str, (∀ t ∈ ts, PyData.strOk t = true) → PyData.strOk (Str.join sep ts) = true
  | [], _ => by show PyData.strOk Str.empty = true; simp [PyData.strOk, Str.empty]
  | [x], h => h x List.mem_cons_self
  | x :: y :: r, h => by
    show PyData.strOk (x ++ sep ++ Str.join sep (y :: r)) = true
    exact ok_app (ok_app (h x List.mem_cons_self) hs) (ok_join sep hs (y :: r) fun t ht => h t (List.mem_cons_of_mem _ ht))
mutual
theorem wid_le : ∀ (p : PyData), okW p = true → p.shown.length ≤ wid p
  | .none, _ => by rw [PyData.shown]; decide
  | .bool true, _ => by rw [PyData.shown]; decide
  | .bool false, _ => by rw [PyData.shown]; decide
  | .int i, h => by
    rw [PyData.shown, PySem.ofString_length]
    have h1 : i.natAbs.log2 < 12900 := by simpa [okW] using h
    have e := int_text_length_le10 (k := 4300) (by decide) (lt_pow h1)
    unfold wid
    omega
  | .str x, _ => by rw [PyData.shown]; unfold wid; exact Nat.le_refl _
  | .list xs, h => by
    rw [PyData.shown]
    have h1 := wids_le xs (by simpa [okW] using h)
    have h2 := listText_len_le (PyData.shownAll xs)
    unfold wid
    omega
  | .tuple xs, h => by
    rw [PyData.shown]
    have h1 := wids_le xs (by simpa [okW] using h)
    have h2 := tupleText_len_le (PyData.shownAll xs)
    unfold wid
    omega
  | .dict _, h => by simp [okW] at h
theorem wids_le : ∀ (xs : List PyData), okWs xs = true → ((PyData.shownAll xs).map (·.length)).sum + 2 * (PyData.shownAll xs).length ≤ wids xs
  | [], _ => by simp [PyData.shownAll, wids]
  | x :: xs, h => by
    have hs2 : okW x = true ∧ okWs xs = true := by simpa [okWs] using h
    have h1 := wid_le x hs2.1
    have h2 := wids_le xs hs2.2
    rw [PyData.shownAll, List.map_cons, List.sum_cons, List.length_cons]
    unfold wids
    omega
end
mutual
theorem shown_ok : ∀ (p : PyData), okStr p = true → PyData.strOk p.shown = true
  | .none, _ => by rw [PyData.shown]; exact ok_of _
  | .bool true, _ => by rw [PyData.shown]; exact ok_of _
  | .bool false, _ => by rw [PyData.shown]; exact ok_of _
  | .int i, h => by rw [PyData.shown]; exact ok_of _
  | .str x, h => by rw [PyData.shown]; exact h
  | .list xs, h => by
    rw [PyData.shown, listText_eq_join]
    exact ok_app (ok_app (ok_of _) (ok_join _ (ok_of _) _ (showns_ok xs (by simpa [okStr] using h)))) (ok_of _)
  | .tuple xs, h => by
    rw [PyData.shown]
    unfold tupleText
    exact ok_app (ok_app (ok_of _) (ok_join _ (ok_of _) _ (showns_ok xs (by simpa [okStr] using h)))) (ok_of _)
  | .dict _, h => by simp [okStr] at h
theorem showns_ok : ∀ (xs : List PyData), okStrs xs = true → ∀ t ∈ PyData.shownAll xs, PyData.strOk t = true
  | [], _, t, ht => by simp [PyData.shownAll] at ht
  | x :: xs, h, t, ht => by
    have hs2 : okStr x = true ∧ okStrs xs = true := by simpa [okStrs] using h
    rw [PyData.shownAll, List.mem_cons] at ht
    rcases ht with e | e
    · rw [e]; exact shown_ok x hs2.1
    · exact showns_ok xs hs2.2 t e
end
/-- the same data on both sides have the same text -/
theorem dEq_str {t : Str} (ht : PyData.strOk t = true) : dEq (.str t) (.str t) = some (.bl true) := by
  have h : toPy (.str t) = some (.str t) := rfl
  unfold dEq
  rw [h]
  have h2 : SeqAt.shaped (.str t) = true := by simp [SeqAt.shaped, PyData.canLay0, PyData.depth, ht]
  have h3 : PyData.eqv (.str t) (.str t) = true := by simp [PyData.eqv]
  simp only [h2, h3, Bool.and_self, if_true]
theorem reprD {d : DV} {p : PyData} (hp : toPy d = some p) (h1 : okW p = true) (h2 : okStr p = true) (h3 : p.depth ≤ 64) (h4 : wid p ≤ 16777216) : ∃ t, dReprW [d] = some (.str t) ∧ dEq (.str t) (.str t) = some (.bl true) := by
  have hw : okShowW p = true := by
    unfold okShowW
    have := wid_le p h1
    rw [h1, decide_eq_true h3, decide_eq_true (show p.shown.length ≤ sizeLine by rw [sizeLine_eq]; omega)]
    rfl
  refine ⟨p.shown, ?_, dEq_str (shown_ok p h2)⟩
  unfold dReprW
  simp only [hp, hw, if_true]
end FD

set_option maxRecDepth 100000
set_option maxHeartbeats 4000000
set_option exponentiation.threshold 30000
namespace T4
open PySem L2 FD
local macro_rules | `(tactic| walk_at "fd") => `(tactic| simp only [bodyP, bodyS, bodyR, sSeq, sIf, sNx, sRt, sRtX, sAsgX, sRs, eX, eJs, eJn, dFmt, sAsg, sDr, sPar, sAug, sSp, sOwn, sApp, lDs, eSp, eS, tBl, tTr, tAn, tOo, tNo, eC, eV, eA, eIf, eAn, eOo, eNo, e1, e2, eIxN, FD.peek, aCons, aNil, gNm, gTp, gLs, gCo, gNi, dI, dAddI, dMulI, dAdd, dSub, dMul, dFdiv, dMod, dNeg, dGcd, dMax, dMin, dAbs, dSq, dLen, dEq_int, dNe_int, dIx, oTup, oLst, truD, List.length_cons, List.length_nil, List.map_cons, List.map_nil, List.cons_append, List.nil_append, List.replicate_succ, List.replicate_zero, List.getElem?_cons_zero, List.getElem?_cons_succ, List.set_cons_succ, List.set_cons_zero, Nat.reduceAdd, Nat.reduceSub, Nat.sub_self, if_true, decide_true, decide_false, Bool.not_true, Bool.not_false, Bool.false_eq_true, if_false, reduceCtorEq, *])
/-! ## the law's roots -/
theorem irr_between {n k : Nat} (h1 : k * k < n) (h2 : n < (k + 1) * (k + 1)) : Irr (n : Int) := by
  intro p q e
  have e1 : p.natAbs * p.natAbs = q.natAbs * q.natAbs * n := by
    have := congrArg Int.natAbs e
    rw [Int.natAbs_mul, Int.natAbs_mul, Int.natAbs_mul] at this
    simpa using this
  have d1 : q.natAbs ^ 2 ∣ p.natAbs ^ 2 := ⟨n, by rw [Nat.pow_two, Nat.pow_two]; exact e1⟩
  have d2 : q.natAbs ∣ p.natAbs := (Nat.pow_dvd_pow_iff (by decide)).mp d1
  obtain ⟨m, hm⟩ := d2
  by_cases z : q = 0
  · exact z
  · exfalso
    have zp : 0 < q.natAbs * q.natAbs := Nat.mul_pos (by omega) (by omega)
    have e2 : m * m = n := by
      refine Nat.eq_of_mul_eq_mul_left zp ?_
      rw [hm] at e1
      rw [← e1]
      exact (Nat.mul_mul_mul_comm _ _ _ _).symm
    rcases Nat.lt_or_ge k m with w | w
    · have := Nat.mul_le_mul (show k + 1 ≤ m from w) (show k + 1 ≤ m from w)
      omega
    · have := Nat.mul_le_mul w w
      omega
def Rt (d : Int) : Prop := d = 2 ∨ d = 3 ∨ d = 5 ∨ d = 6 ∨ d = 7 ∨ d = 11 ∨ d = 13 ∨ d = 21 ∨ d = 9999999967
theorem Rt.pos {d : Int} (h : Rt d) : 0 < d := by unfold Rt at h; omega
theorem Rt.sz {d : Int} (h : Rt d) : d.natAbs < 2 ^ 40 := by unfold Rt at h; omega
theorem Rt.irr {d : Int} (h : Rt d) : Irr d := by
  unfold Rt at h
  rcases h with h | h | h | h | h | h | h | h | h <;> subst h
  · exact irr_between (n := 2) (k := 1) (by decide) (by decide)
  · exact irr_between (n := 3) (k := 1) (by decide) (by decide)
  · exact irr_between (n := 5) (k := 2) (by decide) (by decide)
  · exact irr_between (n := 6) (k := 2) (by decide) (by decide)
  · exact irr_between (n := 7) (k := 2) (by decide) (by decide)
  · exact irr_between (n := 11) (k := 3) (by decide) (by decide)
  · exact irr_between (n := 13) (k := 3) (by decide) (by decide)
  · exact irr_between (n := 21) (k := 4) (by decide) (by decide)
  · exact irr_between (n := 9999999967) (k := 99999) (by decide) (by decide)
theorem Rt.irr2 {d e : Int} (h : Rt d) (k : Rt e) (ne : d ≠ e) : Irr (d * e) := by
  unfold Rt at h k
  rcases h with h | h | h | h | h | h | h | h | h <;> subst h <;> rcases k with k | k | k | k | k | k | k | k | k <;> subst k
  · exact absurd rfl ne
  · exact irr_between (n := 6) (k := 2) (by decide) (by decide)
  · exact irr_between (n := 10) (k := 3) (by decide) (by decide)
  · exact irr_between (n := 12) (k := 3) (by decide) (by decide)
  · exact irr_between (n := 14) (k := 3) (by decide) (by decide)
  · exact irr_between (n := 22) (k := 4) (by decide) (by decide)
  · exact irr_between (n := 26) (k := 5) (by decide) (by decide)
  · exact irr_between (n := 42) (k := 6) (by decide) (by decide)
  · exact irr_between (n := 19999999934) (k := 141421) (by decide) (by decide)
  · exact irr_between (n := 6) (k := 2) (by decide) (by decide)
  · exact absurd rfl ne
  · exact irr_between (n := 15) (k := 3) (by decide) (by decide)
  · exact irr_between (n := 18) (k := 4) (by decide) (by decide)
  · exact irr_between (n := 21) (k := 4) (by decide) (by decide)
  · exact irr_between (n := 33) (k := 5) (by decide) (by decide)
  · exact irr_between (n := 39) (k := 6) (by decide) (by decide)
  · exact irr_between (n := 63) (k := 7) (by decide) (by decide)
  · exact irr_between (n := 29999999901) (k := 173205) (by decide) (by decide)
  · exact irr_between (n := 10) (k := 3) (by decide) (by decide)
  · exact irr_between (n := 15) (k := 3) (by decide) (by decide)
  · exact absurd rfl ne
  · exact irr_between (n := 30) (k := 5) (by decide) (by decide)
  · exact irr_between (n := 35) (k := 5) (by decide) (by decide)
  · exact irr_between (n := 55) (k := 7) (by decide) (by decide)
  · exact irr_between (n := 65) (k := 8) (by decide) (by decide)
  · exact irr_between (n := 105) (k := 10) (by decide) (by decide)
  · exact irr_between (n := 49999999835) (k := 223606) (by decide) (by decide)
  · exact irr_between (n := 12) (k := 3) (by decide) (by decide)
  · exact irr_between (n := 18) (k := 4) (by decide) (by decide)
  · exact irr_between (n := 30) (k := 5) (by decide) (by decide)
  · exact absurd rfl ne
  · exact irr_between (n := 42) (k := 6) (by decide) (by decide)
  · exact irr_between (n := 66) (k := 8) (by decide) (by decide)
  · exact irr_between (n := 78) (k := 8) (by decide) (by decide)
  · exact irr_between (n := 126) (k := 11) (by decide) (by decide)
  · exact irr_between (n := 59999999802) (k := 244948) (by decide) (by decide)
  · exact irr_between (n := 14) (k := 3) (by decide) (by decide)
  · exact irr_between (n := 21) (k := 4) (by decide) (by decide)
  · exact irr_between (n := 35) (k := 5) (by decide) (by decide)
  · exact irr_between (n := 42) (k := 6) (by decide) (by decide)
  · exact absurd rfl ne
  · exact irr_between (n := 77) (k := 8) (by decide) (by decide)
  · exact irr_between (n := 91) (k := 9) (by decide) (by decide)
  · exact irr_between (n := 147) (k := 12) (by decide) (by decide)
  · exact irr_between (n := 69999999769) (k := 264575) (by decide) (by decide)
  · exact irr_between (n := 22) (k := 4) (by decide) (by decide)
  · exact irr_between (n := 33) (k := 5) (by decide) (by decide)
  · exact irr_between (n := 55) (k := 7) (by decide) (by decide)
  · exact irr_between (n := 66) (k := 8) (by decide) (by decide)
  · exact irr_between (n := 77) (k := 8) (by decide) (by decide)
  · exact absurd rfl ne
  · exact irr_between (n := 143) (k := 11) (by decide) (by decide)
  · exact irr_between (n := 231) (k := 15) (by decide) (by decide)
  · exact irr_between (n := 109999999637) (k := 331662) (by decide) (by decide)
  · exact irr_between (n := 26) (k := 5) (by decide) (by decide)
  · exact irr_between (n := 39) (k := 6) (by decide) (by decide)
  · exact irr_between (n := 65) (k := 8) (by decide) (by decide)
  · exact irr_between (n := 78) (k := 8) (by decide) (by decide)
  · exact irr_between (n := 91) (k := 9) (by decide) (by decide)
  · exact irr_between (n := 143) (k := 11) (by decide) (by decide)
  · exact absurd rfl ne
  · exact irr_between (n := 273) (k := 16) (by decide) (by decide)
  · exact irr_between (n := 129999999571) (k := 360555) (by decide) (by decide)
  · exact irr_between (n := 42) (k := 6) (by decide) (by decide)
  · exact irr_between (n := 63) (k := 7) (by decide) (by decide)
  · exact irr_between (n := 105) (k := 10) (by decide) (by decide)
  · exact irr_between (n := 126) (k := 11) (by decide) (by decide)
  · exact irr_between (n := 147) (k := 12) (by decide) (by decide)
  · exact irr_between (n := 231) (k := 15) (by decide) (by decide)
  · exact irr_between (n := 273) (k := 16) (by decide) (by decide)
  · exact absurd rfl ne
  · exact irr_between (n := 209999999307) (k := 458257) (by decide) (by decide)
  · exact irr_between (n := 19999999934) (k := 141421) (by decide) (by decide)
  · exact irr_between (n := 29999999901) (k := 173205) (by decide) (by decide)
  · exact irr_between (n := 49999999835) (k := 223606) (by decide) (by decide)
  · exact irr_between (n := 59999999802) (k := 244948) (by decide) (by decide)
  · exact irr_between (n := 69999999769) (k := 264575) (by decide) (by decide)
  · exact irr_between (n := 109999999637) (k := 331662) (by decide) (by decide)
  · exact irr_between (n := 129999999571) (k := 360555) (by decide) (by decide)
  · exact irr_between (n := 209999999307) (k := 458257) (by decide) (by decide)
  · exact absurd rfl ne
theorem Good.nu {b c : Nat} {d : Int} {x : Num} (h : Good b c d x) (r : Rt d) (hb : b ≤ 1100) : Nu c x := by
  obtain ⟨s0, dd, g, zp, zq, zs⟩ := h
  refine ⟨s0, ?_, fun z => by rw [dd, if_pos z], g, lt_up zp hb, zq, ?_, zs⟩
  · rw [dd]
    by_cases z : x.2.1 = 0
    · rw [if_pos z]
      exact ⟨Int.le_refl 0, .inl z⟩
    · rw [if_neg z]
      exact ⟨Int.le_of_lt r.pos, .inr ⟨r.pos, r.irr⟩⟩
  · rw [dd]
    split
    · exact Nat.two_pow_pos _
    · exact r.sz
theorem Good.up {b c b' c' : Nat} {d : Int} {x : Num} (h : Good b c d x) (hb : b ≤ b') (hc : c ≤ c') : Good b' c' d x :=
  ⟨h.s0, h.dd, h.gc1, lt_up h.zp hb, lt_up h.zq hc, lt_up h.zs hc⟩
/-- two numbers that the law holds against each other -/
structure Pair (x y : Num) : Prop where
  nx : Nu 1100 x
  ny : Nu 1100 y
  far : x ≠ y → 4 < (scl x.1 x.2.1 x.2.2.1 x.2.2.2 2048 - scl y.1 y.2.1 y.2.2.1 y.2.2.2 2048).natAbs
theorem Nu.up {i j : Nat} {x : Num} (h : Nu i x) (hij : i ≤ j) : Nu j x := ⟨h.s0, h.sr, h.q0, h.gc1, h.zp, lt_up h.zq hij, h.zd, lt_up h.zs hij⟩
theorem Pair.symm {x y : Num} (h : Pair x y) : Pair y x := ⟨h.ny, h.nx, fun w => by have := h.far (fun z => w z.symm); omega⟩
theorem pair_of {i j : Nat} {b b' : Nat} {d e : Int} {x y : Num} (hx : Good b i d x) (hy : Good b' j e y) (rd : Rt d) (re : Rt e) (hb : b ≤ 1100) (hb' : b' ≤ 1100) (hi : i ≤ 1100) (hj : j ≤ 1100) (h : d = e ∨ i + j ≤ 1200) (hz : x.2.2.1 = y.2.2.1 ∨ i + j ≤ 1200) : Pair x y := by
  refine ⟨(hx.nu rd hb).up hi, (hy.nu re hb').up hj, fun ne => ?_⟩
  by_cases z : x.2.2.1 = y.2.2.1
  · exact apart1 ((hx.nu rd hb).up hi) ((hy.nu re hb').up hj) z ne
  · refine apart4 (hx.nu rd hb) (hy.nu re hb') (hz.resolve_left z) z fun q q' => ?_
    have e1 := hx.dd
    have e2 := hy.dd
    rw [if_neg q] at e1
    rw [if_neg q'] at e2
    rw [e1, e2] at z ⊢
    exact rd.irr2 re z
/-! ## the law's order is the order -/
theorem dNe_nm (x y : Num) : dNe (nm x) (nm y) = some (.bl (!decide (x = y))) := by
  obtain ⟨a, b, c, d⟩ := x
  obtain ⟨a', b', c', d'⟩ := y
  have h : toPy (nm (a, b, c, d)) = some (.tuple [.int a, .int b, .int c, .int d]) := rfl
  have h0 : toPy (nm (a', b', c', d')) = some (.tuple [.int a', .int b', .int c', .int d']) := rfl
  have h2 : SeqAt.shaped (.tuple [.int a, .int b, .int c, .int d]) = true := rfl
  have h3 : SeqAt.shaped (.tuple [.int a', .int b', .int c', .int d']) = true := rfl
  unfold dNe
  simp only [h, h0, h2, h3, Bool.and_self, if_true]
  congr 2
  simp only [PyData.eqv, PyData.eqvAll, Bool.and_true]
  by_cases z1 : a = a' <;> by_cases z2 : b = b' <;> by_cases z3 : c = c' <;> by_cases z4 : d = d' <;> simp [z1, z2, z3, z4]
theorem ten_small2 {n : Nat} (h : n ≤ 2048) : ((10 : Int) ^ n).natAbs < 2 ^ 6804 := by
  rw [Int.natAbs_pow]
  have h4 : (10 : Nat) ^ 2048 < 2 ^ 6804 := by decide +kernel
  have h5 : (10 : Nat) ^ n ≤ 10 ^ 2048 := Nat.pow_le_pow_right (by decide) h
  exact Nat.lt_of_le_of_lt h5 h4
theorem Nu.okS {x : Num} (h : Nu 1100 x) {n : Nat} (hn : n ≤ 2048) : okS x.1 x.2.1 x.2.2.1 x.2.2.2 (n : Int) := by
  have zt := ten_small2 hn
  have s0 := h.s0
  refine ⟨Int.natCast_nonneg _, by omega, Int.ne_of_gt s0, lt_up h.zs, h.sr.1, lt_up h.zp, lt_up h.zq, lt_up h.zd, ?_, ?_⟩
  · rw [Int.toNat_natCast]; exact lt_up zt
  · rw [Int.toNat_natCast]; exact lt_up (mul_lt (mul_lt (mul_lt (mul_lt h.zq h.zq) h.zd) zt) zt)
def sclN (x : Num) (n : Nat) : Int := scl x.1 x.2.1 x.2.2.1 x.2.2.2 n
theorem scaled_ok {x : Num} (h : Nu 1100 x) {n : Nat} (hn : n ≤ 2048) : m_law_scaled [nm x, .int (n : Int)] = some (.int (sclN x n)) := by
  unfold m_law_scaled nm
  dsimp only
  rw [if_pos (h.okS hn), Int.toNat_natCast]
  rfl
def cBody : SF := (sSeq (sPar 3 4 (aCons (eA (aCons (eV 0) (aCons (eV 2) (aNil))) m_law_scaled) (aCons (eA (aCons (eV 1) (aCons (eV 2) (aNil))) m_law_scaled) (aNil))))
  (sSeq (sIf (tBl (e2 (eA (aCons (e2 (eV 3) (eV 4) dSub) (aNil)) dAbs) (eC (.int 4)) dGt)) (sRt (eIf (tBl (e2 (eV 3) (eV 4) dGt)) (eC (.int 1)) (e2 (eC (.int 0)) (eC (.int 1)) dSub))) (sNx))
  (sAsg (e2 (eC (.int 2)) (eV 2) dMul) (gNm 2))))
theorem cmp_loop {x y : Num} (h : Pair x y) (ne : x ≠ y) : ∀ (m k : Nat) (x3 x4 : Option SV) (sp : Spl), 1 ≤ k → k ≤ 11 → 12 ≤ m + k →
    ∃ s', whN m (tBl (e2 (eV 0) (eV 1) dNe)) cBody ⟨[some (.dat (nm x)), some (.dat (nm y)), some (.dat (.int ((2 ^ k : Nat) : Int))), x3, x4], sp⟩ = some (.rt (.int (cmpN x y)) s') := by
  intro m
  induction m with
  | zero =>
    intro k x3 x4 sp k1 k2 k3
    omega
  | succ m ih =>
    intro k x3 x4 sp k1 k2 k3
    have hk : 2 ^ k ≤ 2048 := by
      have := Nat.pow_le_pow_right (show 0 < 2 by decide) k2
      exact this
    have c1 := scaled_ok h.nx hk
    have c2 := scaled_ok h.ny hk
    have cd : (tBl (e2 (eV 0) (eV 1) dNe)) ⟨[some (.dat (nm x)), some (.dat (nm y)), some (.dat (.int ((2 ^ k : Nat) : Int))), x3, x4], sp⟩ = some (true, ⟨[some (.dat (nm x)), some (.dat (nm y)), some (.dat (.int ((2 ^ k : Nat) : Int))), x3, x4], sp⟩) := by
      have e := dNe_nm x y
      rw [decide_eq_false ne, Bool.not_false] at e
      simp only [tBl, e2, eV, List.getElem?_cons_zero, List.getElem?_cons_succ, e]
    have t1 : sclN y (2 ^ k) + 4 < sclN x (2 ^ k) → cmpN x y = 1 := fun w => (scl_tells h.nx.cn h.ny.cn _ w).1
    have t2 : sclN x (2 ^ k) + 4 < sclN y (2 ^ k) → cmpN x y = -1 := fun w => (scl_tells h.ny.cn h.nx.cn _ w).2
    have far : k = 11 → 4 < (sclN x (2 ^ k) - sclN y (2 ^ k)).natAbs := fun z => by subst z; exact h.far ne
    clear h
    generalize sclN x (2 ^ k) = u at *
    generalize sclN y (2 ^ k) = v at *
    have pnt : ∀ {i j : Nat}, True := trivial
    unfold whN
    rw [cd]
    clear cd
    unfold cBody
    by_cases v1 : v + 4 < u
    · have a1 : (if u - v < 0 then -(u - v) else u - v) = u - v := if_neg (by omega)
      have a2 : decide (4 < u - v) = true := decide_eq_true (by omega)
      have a3 : decide (v < u) = true := decide_eq_true (by omega)
      rw [t1 v1]
      clear t1 t2 far ih v1
      exact ⟨_, by
        simp only [sSeq, sPar, sAsg, eA, aCons, aNil, eV, c1, c2, gNm, sIf, tBl, e2, eC, dAbs, a1, dI, a2, sRt, eIf, a3, dSub, List.getElem?_cons_zero, List.getElem?_cons_succ, List.set_cons_zero, List.set_cons_succ]
        rfl⟩
    · by_cases v2 : u + 4 < v
      · have a1 : (if u - v < 0 then -(u - v) else u - v) = -(u - v) := if_pos (by omega)
        have a2 : decide (4 < -(u - v)) = true := decide_eq_true (by omega)
        have a3 : decide (v < u) = false := decide_eq_false (by omega)
        rw [t2 v2]
        clear t1 t2 far ih v1 v2
        exact ⟨_, by
          simp only [sSeq, sPar, sAsg, eA, aCons, aNil, eV, c1, c2, gNm, sIf, tBl, e2, eC, dAbs, a1, dI, a2, sRt, eIf, a3, dSub, List.getElem?_cons_zero, List.getElem?_cons_succ, List.set_cons_zero, List.set_cons_succ]
          rfl⟩
      · have k10 : k ≠ 11 := fun z => by have := far z; omega
        have a2 : decide (4 < (if u - v < 0 then -(u - v) else u - v)) = false := decide_eq_false (by split <;> omega)
        have f1 : fitM 2 ((2 ^ k : Nat) : Int) = true := fit_of (a := 2) (b := 20) (by decide) (by rw [Int.natAbs_natCast]; exact Nat.lt_of_le_of_lt hk (by decide))
        have e2k : (2 : Int) * ((2 ^ k : Nat) : Int) = ((2 ^ (k + 1) : Nat) : Int) := by rw [Nat.pow_succ]; omega
        obtain ⟨s', e⟩ := ih (k + 1) (some (.dat (.int u))) (some (.dat (.int v))) sp (by omega) (by omega) (by omega)
        refine ⟨s', ?_⟩
        clear t1 t2 far ih v1 v2
        unfold cBody at e
        simp only [sSeq, sPar, sAsg, eA, aCons, aNil, eV, c1, c2, gNm, sIf, tBl, e2, eC, dAbs, dI, a2, sNx, dSub, dMul, f1, if_true, e2k, List.getElem?_cons_zero, List.getElem?_cons_succ, List.set_cons_zero, List.set_cons_succ]
        exact e
def b_law_compared : SF :=
  sSeq (sAsg (eC (.int 2)) (gNm 2))
  (sSeq (sWh (fun _ => 12) (tBl (e2 (eV 0) (eV 1) dNe)) (sSeq (sPar 3 4 (aCons (eA (aCons (eV 0) (aCons (eV 2) (aNil))) m_law_scaled) (aCons (eA (aCons (eV 1) (aCons (eV 2) (aNil))) m_law_scaled) (aNil))))
  (sSeq (sIf (tBl (e2 (eA (aCons (e2 (eV 3) (eV 4) dSub) (aNil)) dAbs) (eC (.int 4)) dGt)) (sRt (eIf (tBl (e2 (eV 3) (eV 4) dGt)) (eC (.int 1)) (e2 (eC (.int 0)) (eC (.int 1)) dSub))) (sNx))
  (sAsg (e2 (eC (.int 2)) (eV 2) dMul) (gNm 2)))))
  (sRt (eC (.int 0))))
def m_law_compared : List DV → Option DV := bodyP 2 5 b_law_compared
theorem t_law_compared : ∀ ds d, m_law_compared ds = some d → bodyP 2 5 b_law_compared ds = some d := fun _ _ h => h
theorem compared_ok {x y : Num} (h : Pair x y) : m_law_compared [nm x, nm y] = some (.int (cmpN x y)) := by
  have eb : b_law_compared = sSeq (sAsg (eC (.int 2)) (gNm 2)) (sSeq (sWh (fun _ => 12) (tBl (e2 (eV 0) (eV 1) dNe)) cBody) (sRt (eC (.int 0)))) := rfl
  unfold m_law_compared
  rw [eb]
  by_cases ne : x = y
  · subst ne
    have hw : whN 12 (tBl (e2 (eV 0) (eV 1) dNe)) cBody ⟨[some (.dat (nm x)), some (.dat (nm x)), some (.dat (.int 2)), none, none], spl0⟩ = some (.nx ⟨[some (.dat (nm x)), some (.dat (nm x)), some (.dat (.int 2)), none, none], spl0⟩) := by
      have e := dNe_nm x x
      rw [decide_eq_true rfl, Bool.not_true] at e
      unfold whN
      simp only [tBl, e2, eV, List.getElem?_cons_zero, List.getElem?_cons_succ, e]
    rw [cmp_self]
    simp only [bodyP, sSeq, sAsg, eC, gNm, sWh, hw, sRt, List.length_cons, List.length_nil, List.map_cons, List.map_nil, List.cons_append, List.nil_append, List.replicate_succ, List.replicate_zero, List.set_cons_zero, List.set_cons_succ, Nat.reduceAdd, Nat.reduceSub, if_true]
  · obtain ⟨s', hw⟩ := cmp_loop h ne 12 1 none none spl0 (by decide) (by decide) (by decide)
    have e2' : ((2 ^ 1 : Nat) : Int) = 2 := rfl
    rw [e2'] at hw
    simp only [bodyP, sSeq, sAsg, eC, gNm, sWh, List.length_cons, List.length_nil, List.map_cons, List.map_nil, List.cons_append, List.nil_append, List.replicate_succ, List.replicate_zero, List.set_cons_zero, List.set_cons_succ, Nat.reduceAdd, Nat.reduceSub, if_true]
    rw [hw]
theorem compare_ok {x y : Num} (h : Pair x y) : m_compare [nm x, nm y] = some (.int (cmpN x y)) :=
  if_pos ⟨⟨lt_up h.nx.zp, lt_up h.nx.zq, lt_up h.nx.zd, lt_up h.nx.zs⟩, ⟨lt_up h.ny.zp, lt_up h.ny.zq, lt_up h.ny.zd, lt_up h.ny.zs⟩⟩
/-! ## alike -/
def b_law_alike : SF :=
  sRt (e2 (eA (aCons (eV 0) (aNil)) dReprW) (eA (aCons (eV 1) (aNil)) dReprW) dEq)
def m_law_alike : List DV → Option DV := bodyP 2 2 b_law_alike
theorem t_law_alike : ∀ ds d, m_law_alike ds = some d → bodyP 2 2 b_law_alike ds = some d := fun _ _ h => h
theorem alike_of {d : DV} {p : PyData} (hp : toPy d = some p) (h1 : okW p = true) (h2 : okStr p = true) (h3 : p.depth ≤ 64) (h4 : wid p ≤ 16777216) : m_law_alike [d, d] = some (.bl true) := by
  obtain ⟨t, e, ht⟩ := reprD hp h1 h2 h3 h4
  clear hp h1 h2 h3 h4
  unfold m_law_alike b_law_alike
  walk_at "fd"
theorem log_sz {n : Int} {b : Nat} (h : n.natAbs < 2 ^ b) (hb : b < 12900 := by decide) : decide (n.natAbs.log2 < 12900) = true := decide_eq_true (by have := log2_lt_of h; omega)
theorem alike_int {n : Int} (h : n.natAbs < 2 ^ 2) : m_law_alike [.int n, .int n] = some (.bl true) := by
  refine alike_of (p := .int n) rfl ?_ rfl (by simp [PyData.depth]) (by simp [wid])
  simp only [okW, log_sz h]
theorem alike_two {m n : Int} (h : m.natAbs < 2 ^ 2) (k : n.natAbs < 2 ^ 1200) : m_law_alike [.lst [.int m, .int n], .lst [.int m, .int n]] = some (.bl true) := by
  refine alike_of (p := .list [.int m, .int n]) rfl ?_ rfl (by simp [PyData.depth, PyData.depthAll]) (by simp [wid, wids])
  simp only [okW, okWs, log_sz h, log_sz k, Bool.and_self]
end T4

set_option maxRecDepth 100000
set_option maxHeartbeats 4000000
set_option exponentiation.threshold 30000
namespace T4
open PySem L2 FD
/-! ## a number near another -/
theorem fdiv_le {A s : Int} (hs : 0 < s) : (A.fdiv s).natAbs ≤ A.natAbs := by
  obtain ⟨h1, h2⟩ := fdiv_spec (a := A) hs
  generalize A.fdiv s = v at *
  rcases Int.le_total 0 v with w | w
  · have := Int.mul_le_mul_of_nonneg_left (show (1 : Int) ≤ s by omega) w
    omega
  · by_cases z : v = 0
    · omega
    · have := Int.mul_le_mul_of_nonneg_left (show (1 : Int) ≤ s by omega) (show 0 ≤ -(v + 1) by omega)
      have e : -(v + 1) * s = -((v + 1) * s) := Int.neg_mul _ _
      omega
theorem sq_sz {n : Int} {b : Nat} (h0 : 0 ≤ n) (h : n.natAbs < 2 ^ (b + b)) : (sq n).natAbs < 2 ^ b := by
  obtain ⟨r0, r1, _⟩ := sq_spec h0
  exact sq_of r0 (nle (sq_nn _) r1 h)
theorem ten_11 {n : Nat} (h : n ≤ 11) : ((10 : Int) ^ n).natAbs < 2 ^ 40 := by
  rw [Int.natAbs_pow]
  have h5 : (10 : Nat) ^ n ≤ 10 ^ 11 := Nat.pow_le_pow_right (by decide) h
  exact Nat.lt_of_le_of_lt h5 (by decide)
theorem rr_sz {q d T : Int} (hq : q.natAbs < 2 ^ 1000) (hd : d.natAbs < 2 ^ 40) (d0 : 0 ≤ d) (hT : T.natAbs < 2 ^ 40) (T0 : 0 ≤ T) : (sq (q * q * d * T * T)).natAbs < 2 ^ 1060 :=
  sq_sz (Int.mul_nonneg (Int.mul_nonneg (Int.mul_nonneg (sq_nn q) d0) T0) T0) (lt_up (mul_lt (mul_lt (mul_lt (mul_lt hq hq) hd) hT) hT))
section
variable {x : Num} {d : Int}
theorem Good.d0 (h : Good 1000 1000 d x) (rd : Rt d) : 0 ≤ x.2.2.1 ∧ x.2.2.1.natAbs < 2 ^ 40 := by
  rw [h.dd]
  split
  · exact ⟨Int.le_refl 0, Nat.two_pow_pos _⟩
  · exact ⟨Int.le_of_lt rd.pos, rd.sz⟩
theorem scl_sz (h : Good 1000 1000 d x) (rd : Rt d) {n : Nat} (hn : n ≤ 11) : (sclN x n).natAbs < 2 ^ 1062 := by
  obtain ⟨d0, zd⟩ := h.d0 rd
  have zt := ten_11 hn
  have T0 := ten_pos n
  have zr := rr_sz h.zq zd d0 zt (Int.le_of_lt T0)
  unfold sclN scl
  refine Nat.lt_of_le_of_lt (fdiv_le h.s0) (add_lt (a := 1061) (lt_up (mul_lt h.zp zt)) ?_)
  have := sgd_sz (q := x.2.1) zr
  exact lt_up this
theorem flo_sz (h : Good 1000 1000 d x) (rd : Rt d) : (flo x.1 x.2.1 x.2.2.1 x.2.2.2).natAbs < 2 ^ 1070 := by
  obtain ⟨d0, zd⟩ := h.d0 rd
  have zr := rr_sz (T := 1) h.zq zd d0 (by decide) (by decide)
  rw [Int.mul_one, Int.mul_one] at zr
  have zp := h.zp
  have z1 : x.1.natAbs < 2 ^ 1060 := lt_up zp
  unfold flo
  have hs := h.s0
  split
  · refine Nat.lt_of_le_of_lt (fdiv_le hs) (lt_up (sub_lt (sub_lt z1 zr) (Nat.one_lt_two_pow (by decide))))
  · exact Nat.lt_of_le_of_lt (fdiv_le hs) (lt_up (add_lt z1 zr))
theorem Good.wp (h : Good 1000 1000 d x) (rd : Rt d) : WpOk x.1 x.2.1 x.2.2.1 x.2.2.2 := by
  obtain ⟨d0, zd⟩ := h.d0 rd
  refine ⟨h.s0, d0, fun w => ?_, fun w => ?_, h.zp, h.zq, zd, h.zs⟩
  · rw [h.dd, if_neg w]; exact rd.pos
  · have e := h.dd
    by_cases z : x.2.1 = 0
    · rw [if_pos z] at e; omega
    · rw [if_neg z] at e; rw [e]; exact rd.irr
theorem Good.sg (h : Good 1000 1000 d x) (rd : Rt d) : SgOk x.1 x.2.1 x.2.2.1 x.2.2.2 := by
  obtain ⟨d0, zd⟩ := h.d0 rd
  have wp := h.wp rd
  refine ⟨h.s0, d0, wp.qd, fun w z => ?_, lt_up h.zp, lt_up h.zq, zd, lt_up h.zs⟩
  by_cases q0 : x.2.1 = 0
  · rw [q0] at z
    simp only [Int.mul_zero, Int.zero_mul, Int.sub_zero] at z
    exact w ⟨(Int.mul_eq_zero.mp z).elim id id, q0⟩
  · exact q0 (wp.irr (wp.qd q0) _ _ (Int.eq_of_sub_eq_zero z))
theorem whole_at (h : Good 1000 1000 d x) (rd : Rt d) : m_law_whole_part [nm x] = some (.int (flo x.1 x.2.1 x.2.2.1 x.2.2.2)) := whole_ok (h.wp rd) (lt_up (flo_sz h rd))
theorem sign_law (h : Good 1000 1000 d x) (rd : Rt d) : m_law_sign_of [nm x] = some (.int (sgS x.1 x.2.1 x.2.2.1)) := sign_of_ok (h.sg rd)
theorem sign_prog (h : Good 1000 1000 d x) (rd : Rt d) : m_sign [nm x] = some (.int (sgS x.1 x.2.1 x.2.2.1)) := by
  have ok : Sz 1000000 x.1 ∧ Sz 1000000 x.2.1 ∧ Sz 1000000 x.2.2.1 := ⟨lt_up h.zp, lt_up h.zq, lt_up (h.d0 rd).2⟩
  unfold m_sign nm
  dsimp only
  rw [if_pos ok]
theorem floor_prog (h : Good 1000 1000 d x) (rd : Rt d) : m_floor [nm x] = some (.int (flo x.1 x.2.1 x.2.2.1 x.2.2.2)) := by
  have ok : okFl x.1 x.2.1 x.2.2.1 x.2.2.2 := ⟨Int.ne_of_gt h.s0, Int.mul_nonneg (sq_nn _) (h.d0 rd).1, lt_up h.zp, lt_up h.zq, lt_up (h.d0 rd).2, lt_up h.zs⟩
  unfold m_floor nm
  dsimp only
  rw [if_pos ok]
theorem neg_law (x : Num) : m_law_negative [nm x] = some (nm (0 - x.1, 0 - x.2.1, x.2.2.1, x.2.2.2)) := rfl
theorem neg_good {b c : Nat} (h : Good b c d x) : Good b c d (0 - x.1, 0 - x.2.1, x.2.2.1, x.2.2.2) := by
  have zp := h.zp
  have zq := h.zq
  refine ⟨h.s0, ?_, ?_, ?_, ?_, h.zs⟩
  · show x.2.2.1 = if 0 - x.2.1 = 0 then 0 else d
    rw [h.dd]
    by_cases z : x.2.1 = 0
    · rw [if_pos z, if_pos (by omega)]
    · rw [if_neg z, if_neg (by omega)]
  · have := h.gc1
    unfold gc at *
    show (((0 - x.1).natAbs.gcd (0 - x.2.1).natAbs).gcd x.2.2.2.natAbs : Int) = 1
    rw [show (0 - x.1).natAbs = x.1.natAbs by omega, show (0 - x.2.1).natAbs = x.2.1.natAbs by omega]
    exact this
  · show (0 - x.1).natAbs < _
    rw [show (0 - x.1).natAbs = x.1.natAbs by omega]
    exact zp
  · show (0 - x.2.1).natAbs < _
    rw [show (0 - x.2.1).natAbs = x.2.1.natAbs by omega]
    exact zq
end
theorem int_good {b : Nat} {F s : Int} (hF : F.natAbs < 2 ^ b) (hs : s ≠ 0) (zs : s.natAbs < 2 ^ 40) : Good b 40 2 (lowL F 0 0 s) :=
  low_good (d := 2) (q := 0) (b := b) (c := 40) hs (by decide) hF (Nat.two_pow_pos _) zs
theorem entire_eq (F : Int) : lowL F 0 0 1 = (F, 0, 0, 1) := by
  have e : gc F 0 1 = 1 := by unfold gc; simp
  have e2 : sgc F 0 1 = 1 := by unfold sgc; rw [if_neg (by decide), e]
  show low F 0 0 1 = _
  unfold low
  rw [if_pos rfl, e2, Int.fdiv_one, Int.fdiv_one]
theorem more_eq (F : Int) : addL (F, 0, 0, 1) (1, 0, 0, 1) = lowL (F + 1) 0 0 1 := by
  unfold addL rootOf
  simp
theorem tens4 : ∀ (ds : List DV) (j n : Nat) (x0 x1 x2 x3 x5 x6 x7 x8 : Option SV) (sp : Spl), j + ds.length ≤ n → ((10 : Int) ^ n).natAbs < 2 ^ 8500 →
    ∃ y, frN ds (gNm 5) (sAsg (e2 (eV 4) (eC (.int 10)) dMul) (gNm 4)) ⟨[x0, x1, x2, x3, some (.dat (.int (10 ^ j))), x5, x6, x7, x8], sp⟩ = some (.nx ⟨[x0, x1, x2, x3, some (.dat (.int (10 ^ (j + ds.length)))), y, x6, x7, x8], sp⟩)
  | [], j, n, x0, x1, x2, x3, x5, x6, x7, x8, sp, _, _ => ⟨x5, rfl⟩
  | d :: ds, j, n, x0, x1, x2, x3, x5, x6, x7, x8, sp, hl, hn => by
    rw [List.length_cons] at hl
    obtain ⟨y, e⟩ := tens4 ds (j + 1) n x0 x1 x2 x3 (some (.dat d)) x6 x7 x8 sp (by omega) hn
    have f1 : fitM (10 ^ j) 10 = true := fit_of (Nat.lt_of_le_of_lt (ten_mono (by omega)) hn) (b := 4) (by decide)
    have hp : (10 : Int) ^ j * 10 = 10 ^ (j + 1) := (Int.pow_succ 10 j).symm
    refine ⟨y, ?_⟩
    rw [List.length_cons, show j + (ds.length + 1) = j + 1 + ds.length by omega]
    simp only [frN, gNm, sAsg, e2, eV, eC, dMul, f1, if_true, hp, List.getElem?_cons_zero, List.getElem?_cons_succ, List.set_cons_zero, List.set_cons_succ, e]
def b_law_near : SF :=
  sSeq (sAsg (eS 0 (aCons (eC (.int 12)) (aNil)) m_law_upto) (gNm 2))
  (sSeq (sAsg (eA (aCons (eV 1) (aCons (eV 2) (aNil))) m_law_scaled) (gNm 3))
  (sSeq (sAsg (eC (.int 1)) (gNm 4))
  (sSeq (sFr (iRg1 (aCons (eV 2) (aNil))) (gNm 5) (sAsg (e2 (eV 4) (eC (.int 10)) dMul) (gNm 4)))
  (sSeq (sAsg (eS 0 (aCons (eA (aCons (eC (.int 2)) (aCons (eC (.int 3)) (aCons (eC (.int 7)) (aCons (eC (.int 11)) (aNil))))) oLst) (aNil)) m_law_choice) (gNm 6))
  (sSeq (sAsg (eA (aCons (e2 (e2 (eV 6) (eV 4) dMul) (eV 4) dMul) (aNil)) m_law_square_root) (gNm 7))
  (sSeq (sAsg (eA (aCons (eA (aCons (eV 3) (aCons (eC (.int 0)) (aCons (eC (.int 0)) (aCons (eV 4) (aNil))))) m_law_lowest) (aCons (eA (aCons (e2 (eV 3) (eV 7) dSub) (aCons (eV 4) (aCons (eV 6) (aCons (eV 4) (aNil))))) m_law_lowest) (aNil))) oLst) (gNm 8))
  (sRt (eS 0 (aCons (e2 (eV 8) (eA (aCons (eA (aCons (e2 (eV 3) (eV 7) dAdd) (aCons (e2 (eC (.int 0)) (eV 4) dSub) (aCons (eV 6) (aCons (eV 4) (aNil))))) m_law_lowest) (aNil)) oLst) dAdd) (aNil)) m_law_choice))))))))
def m_law_near : List DV → Spl → Option (DV × Spl) := bodyS 2 9 b_law_near
theorem t_law_near : ∀ ds s d, m_law_near ds s = some d → bodyS 2 9 b_law_near ds s = some d := fun _ _ _ h => h
theorem near_ok {x : Num} {d : Int} {n : Nat} {sp : Spl} (h : Good 1000 1000 d x) (rd : Rt d) (hp : Pl n sp) (hn : n ≤ 10000) : ∃ y e sp', m_law_near [nm x] sp = some (nm y, sp') ∧ Good 1100 40 e y ∧ Rt e ∧ Pl (n + 4) sp' := by
  have c1 : m_law_upto [.int 12] sp = _ := c_upto hp (by decide) (lt_up (a := 10) (by decide)) (by omega)
  have v1 := upV_lt (s := sp) (b := 12) (by decide)
  have p1 := pl_up (b := 12) hp
  generalize upS sp 12 = sp1 at *
  generalize upV sp 12 = P at *
  have hP : P = ((P.toNat : Nat) : Int) := by omega
  have c2 := scaled_ok ((h.nu rd (by decide)).up (by decide)) (n := P.toNat) (by omega)
  rw [← hP] at c2
  have zv := scl_sz h rd (n := P.toNat) (by omega)
  have zt := ten_11 (n := P.toNat) (by omega)
  have T0 := ten_pos P.toNat
  have hl : (rngD 0 P.toNat).length = P.toNat := by unfold rngD; simp
  have hr : inR P = true := decide_eq_true (by omega)
  have lp := fun x5 x6 x7 x8 => tens4 (rngD 0 P.toNat) 0 P.toNat (some .spl) (some (.dat (nm x))) (some (.dat (.int P))) (some (.dat (.int (sclN x P.toNat)))) x5 x6 x7 x8 sp1 (by omega) (lt_up zt)
  rw [hl, Nat.zero_add] at lp
  have hone : (10 : Int) ^ 0 = 1 := rfl
  rw [hone] at lp
  generalize (10 : Int) ^ P.toNat = T at *
  generalize sclN x P.toNat = V at *
  obtain ⟨v, c3, hv⟩ := choice_at [.int 2, .int 3, .int 7, .int 11] sp1 _ p1 (by omega) (by simp) (by simp)
  have c3' : m_law_choice [.lst [.int 2, .int 3, .int 7, .int 11]] sp1 = some (v, upS sp1 4) := c3
  clear c3
  obtain ⟨e, rfl, re⟩ : ∃ e : Int, v = .int e ∧ Rt e := by
    simp only [List.mem_cons, List.not_mem_nil, or_false] at hv
    rcases hv with h | h | h | h
    · exact ⟨2, h, by unfold Rt; omega⟩
    · exact ⟨3, h, by unfold Rt; omega⟩
    · exact ⟨7, h, by unfold Rt; omega⟩
    · exact ⟨11, h, by unfold Rt; omega⟩
  clear hv
  have p2 := pl_up (b := 4) p1
  generalize upS sp1 4 = sp2 at *
  have ze := re.sz
  have nn : 0 ≤ e * T * T := Int.mul_nonneg (Int.mul_nonneg (Int.le_of_lt re.pos) (Int.le_of_lt T0)) (Int.le_of_lt T0)
  have zz : (e * T * T).natAbs < 2 ^ (40 + 40 + 40) := mul_lt (mul_lt ze zt) zt
  have c4 : m_law_square_root [.int (e * T * T)] = some (.int (sq (e * T * T))) := if_pos ⟨nn, lt_up zz⟩
  have zq : (sq (e * T * T)).natAbs < 2 ^ 1062 := lt_up (sq_sz (b := 60) nn zz)
  generalize sq (e * T * T) = Q at *
  have f1 := fit_of ze zt
  have f2 := fit_of (mul_lt ze zt) zt
  have t0 : T ≠ 0 := by omega
  have k1 := low_ok (p := V) (q := 0) (d := 0) t0 (lt_up zt)
  have k2 := low_ok (p := V - Q) (q := T) (d := e) t0 (lt_up zt)
  have k3 := low_ok (p := V + Q) (q := 0 - T) (d := e) t0 (lt_up zt)
  have g1 : Good 1100 40 2 (lowL V 0 0 T) := int_good (lt_up zv) t0 zt
  have g2 : Good 1100 40 e (lowL (V - Q) T e T) := low_good t0 (by have := re.pos; omega) (lt_up (sub_lt zv zq)) zt zt
  have g3 : Good 1100 40 e (lowL (V + Q) (0 - T) e T) := low_good t0 (by have := re.pos; omega) (lt_up (add_lt zv zq)) (by omega) zt
  obtain ⟨v, c5, hv⟩ := choice_at [nm (lowL V 0 0 T), nm (lowL (V - Q) T e T), nm (lowL (V + Q) (0 - T) e T)] sp2 _ p2 (by omega) (by simp) (by simp)
  have c5' : m_law_choice [.lst [nm (lowL V 0 0 T), nm (lowL (V - Q) T e T), nm (lowL (V + Q) (0 - T) e T)]] sp2 = some (v, upS sp2 3) := c5
  clear c5
  obtain ⟨y, a, rfl, gy, ra⟩ : ∃ y a, v = nm y ∧ Good 1100 40 a y ∧ Rt a := by
    simp only [List.mem_cons, List.not_mem_nil, or_false] at hv
    rcases hv with h | h | h
    · exact ⟨_, 2, h, g1, by unfold Rt; omega⟩
    · exact ⟨_, e, h, g2, re⟩
    · exact ⟨_, e, h, g3, re⟩
  clear hv
  have p3 := pl_up (b := 3) p2
  refine ⟨y, a, upS sp2 3, ?_, gy, ra, by unfold Pl at *; omega⟩
  have k4 : (4 : Nat) ≤ sizeLine := by decide
  have z2 : (2 : Nat) ≤ sizeLine := by decide
  have z1 : (1 : Nat) ≤ sizeLine := by decide
  have z3 : (2 + 1 : Nat) ≤ sizeLine := by decide
  obtain ⟨w, lp'⟩ := lp none none none none
  clear h rd hp hn v1 p1 hP zv zt T0 hl lp re p2 ze nn zz zq t0 g1 g2 g3 gy ra p3
  unfold m_law_near b_law_near
  simp only [bodyP, bodyS, bodyR, sSeq, sIf, sNx, sRt, sRtX, sAsgX, sRs, eX, eJs, eJn, dFmt, sAsg, sDr, sPar, sAug, sSp, sOwn, sApp, lDs, eSp, eS, tBl, tTr, tAn, tOo, tNo, eC, eV, eA, eIf, eAn, eOo, eNo, e1, e2, eIxN, FD.peek, aCons, aNil, gNm, gTp, gLs, gCo, gNi, dI, dAddI, dMulI, dAdd, dSub, dMul, dFdiv, dMod, dNeg, dGcd, dMax, dMin, dAbs, dSq, dLen, dEq_int, dNe_int, dIx, oTup, oLst, truD, List.length_cons, List.length_nil, List.map_cons, List.map_nil, List.cons_append, List.nil_append, List.replicate_succ, List.replicate_zero, List.getElem?_cons_zero, List.getElem?_cons_succ, List.set_cons_succ, List.set_cons_zero, Nat.reduceAdd, Nat.reduceSub, Nat.sub_self, if_true, decide_true, decide_false, Bool.not_true, Bool.not_false, Bool.false_eq_true, if_false, reduceCtorEq, c1, c2, sFr, iRg1, hr]
  rw [lp']
  simp only [sSeq, sRt, sAsg, eS, eC, eV, eA, e1, e2, aCons, aNil, gNm, dAdd, dSub, dMul, oTup, oLst, List.length_cons, List.length_nil, List.cons_append, List.nil_append, List.getElem?_cons_zero, List.getElem?_cons_succ, List.set_cons_succ, List.set_cons_zero, Nat.reduceAdd, if_true, c3', c4, f1, f2, k1, k2, k3, k4, z2, z1, z3, c5']
end T4

set_option maxRecDepth 100000
set_option maxHeartbeats 4000000
set_option exponentiation.threshold 30000
namespace T4
open PySem L2 FD
local macro_rules | `(tactic| walk_at "fd") => `(tactic| simp only [bodyP, bodyS, sSeq, sIf, sNx, sRt, sAsg, sDr, sPar, sAug, tBl, tTr, tAn, tOo, tNo, eC, eV, eA, eIf, eAn, eOo, eNo, e1, e2, eIxN, FD.peek, aCons, aNil, gNm, gTp, gCo, gNi, dI, dAddI, dMulI, dAdd, dSub, dMul, dFdiv, dMod, dNeg, dGcd, dMax, dMin, dAbs, dSq, dEq_int, dNe_int, dIx, oTup, truD, List.length_cons, List.length_nil, List.map_cons, List.map_nil, List.cons_append, List.nil_append, List.replicate_succ, List.replicate_zero, List.getElem?_cons_zero, List.getElem?_cons_succ, List.set_cons_succ, List.set_cons_zero, Nat.reduceAdd, Nat.reduceSub, Nat.sub_self, if_true, decide_true, decide_false, Bool.not_true, Bool.not_false, Bool.false_eq_true, if_false, reduceCtorEq, *])
def b_lowest : SF :=
  sSeq (sAsg (eA (aCons (eV 0) (aCons (eV 1) (aCons (eV 3) (aNil)))) dGcd) (gNm 4))
  (sSeq (sIf (tBl (e2 (eV 3) (eC (.int 0)) dLt)) (sAsg (e1 (eV 4) dNeg) (gNm 4)) (sNx))
  (sSeq (sIf (tBl (e2 (eV 1) (eC (.int 0)) dEq)) (sRt (eA (aCons (e2 (eV 0) (eV 4) dFdiv) (aCons (eC (.int 0)) (aCons (eC (.int 0)) (aCons (e2 (eV 3) (eV 4) dFdiv) (aNil))))) oTup)) (sNx))
  (sRt (eA (aCons (e2 (eV 0) (eV 4) dFdiv) (aCons (e2 (eV 1) (eV 4) dFdiv) (aCons (eV 2) (aCons (e2 (eV 3) (eV 4) dFdiv) (aNil))))) oTup))))
def m_lowest : List DV → Option DV
  | [.int p, .int q, .int d, .int s] => if s ≠ 0 ∧ s.natAbs < 2 ^ 8999 then some (nm (low p q d s)) else none
  | _ => none
theorem t_lowest : ∀ ds d, m_lowest ds = some d → bodyP 4 5 b_lowest ds = some d := by
  intro ds d h
  unfold m_lowest at h
  split at h
  · rename_i p q e s
    split at h
    · rename_i hs
      obtain ⟨h1, h2⟩ := hs
      cases h
      have hc : decide (sgc p q s ≠ 0 ∧ (sgc p q s).natAbs.log2 < 9000) = true := decide_eq_true (div_ok (sgc_ne h1) (Nat.lt_of_le_of_lt (sgc_le h1) h2))
      have hl : (4 : Nat) ≤ sizeLine := by decide
      by_cases h3 : s < 0
      · have e1' : -((((p.natAbs.gcd q.natAbs).gcd s.natAbs : Nat)) : Int) = sgc p q s := by unfold sgc gc; rw [if_pos h3]
        by_cases h4 : q = 0
        · have h5 : (q == 0) = true := beq_iff_eq.mpr h4
          rw [show low p q e s = _ from if_pos h4]
          clear h4
          unfold nm b_lowest
          walk_at "fd"
        · have h5 : (q == 0) = false := beq_eq_false_iff_ne.mpr h4
          rw [show low p q e s = _ from if_neg h4]
          clear h4
          unfold nm b_lowest
          walk_at "fd"
      · have e1' : (((((p.natAbs.gcd q.natAbs).gcd s.natAbs : Nat)) : Int)) = sgc p q s := by unfold sgc gc; rw [if_neg h3]
        by_cases h4 : q = 0
        · have h5 : (q == 0) = true := beq_iff_eq.mpr h4
          rw [show low p q e s = _ from if_pos h4]
          clear h4
          unfold nm b_lowest
          walk_at "fd"
        · have h5 : (q == 0) = false := beq_eq_false_iff_ne.mpr h4
          rw [show low p q e s = _ from if_neg h4]
          clear h4
          unfold nm b_lowest
          walk_at "fd"
    · cases h
  · cases h
def b_opposite : SF :=
  sSeq (sAsg (eV 0) (gTp 4 (gCo (gNm 1) (gCo (gNm 2) (gCo (gNm 3) (gCo (gNm 4) (gNi)))))))
  (sRt (eA (aCons (e1 (eV 1) dNeg) (aCons (e1 (eV 2) dNeg) (aCons (eV 3) (aCons (eV 4) (aNil))))) oTup))
def m_opposite : List DV → Option DV
  | [.tup [.int p, .int q, .int d, .int s]] => some (nm (-p, -q, d, s))
  | _ => none
theorem t_opposite : ∀ ds d, m_opposite ds = some d → bodyP 1 5 b_opposite ds = some d := by
  intro ds d h
  unfold m_opposite at h
  split at h
  · cases h
    have h4 := four_le
    unfold b_opposite nm
    walk_at "fd"
  · cases h
def b_common_root : SF :=
  sSeq (sAsg (eIxN 0 (eC (.int 2))) (gNm 2))
  (sSeq (sAsg (eIxN 1 (eC (.int 2))) (gNm 3))
  (sSeq (sIf (tAn (tBl (e2 (eV 2) (eV 3) dNe)) (tAn (tBl (e2 (eV 2) (eC (.int 0)) dNe)) (tBl (e2 (eV 3) (eC (.int 0)) dNe)))) (sNo) (sNx))
  (sRt (eA (aCons (eV 2) (aCons (eV 3) (aNil))) dMax))))
def m_common_root : List DV → Option DV
  | [.tup [.int p, .int q, .int d, .int s], .tup [.int p', .int q', .int d', .int s']] => if d = d' ∨ d = 0 ∨ d' = 0 then some (.int (rootOf d d')) else none
  | _ => none
theorem t_common_root : ∀ ds d, m_common_root ds = some d → bodyP 2 4 b_common_root ds = some d := by
  intro ds d h
  unfold m_common_root at h
  split at h
  · rename_i p q e s p' q' e' s'
    split at h
    · rename_i hc
      cases h
      have i0 : atI [DV.int p, .int q, .int e, .int s] 2 = some (.int e) := rfl
      have i1 : atI [DV.int p', .int q', .int e', .int s'] 2 = some (.int e') := rfl
      unfold b_common_root rootOf
      by_cases h1 : e = e'
      · have h1' := beq_t h1
        clear h1 hc
        simp only [bodyP, sSeq, sIf, sNx, sRt, sAsg, tBl, tAn, eC, eV, eA, e2, eIxN, FD.peek, aCons, aNil, gNm, dMax, dIx, dNe_int, List.length_cons, List.length_nil, List.map_cons, List.map_nil, List.cons_append, List.nil_append, List.replicate_succ, List.replicate_zero, List.getElem?_cons_zero, List.getElem?_cons_succ, List.set_cons_succ, List.set_cons_zero, Nat.reduceAdd, Nat.reduceSub, if_true, Bool.not_true, Bool.not_false, i0, i1, h1']
      · have h1' := beq_f h1
        by_cases h2 : e = 0
        · have h2' := beq_t h2
          clear h1 hc h2
          simp only [bodyP, sSeq, sIf, sNx, sRt, sAsg, tBl, tAn, eC, eV, eA, e2, eIxN, FD.peek, aCons, aNil, gNm, dMax, dIx, dNe_int, List.length_cons, List.length_nil, List.map_cons, List.map_nil, List.cons_append, List.nil_append, List.replicate_succ, List.replicate_zero, List.getElem?_cons_zero, List.getElem?_cons_succ, List.set_cons_succ, List.set_cons_zero, Nat.reduceAdd, Nat.reduceSub, if_true, Bool.not_true, Bool.not_false, i0, i1, h1', h2']
        · have h3 : e' = 0 := by rcases hc with h | h | h <;> first | exact absurd h h1 | exact absurd h h2 | exact h
          have h2' := beq_f h2
          have h3' := beq_t h3
          clear h1 hc h2 h3
          simp only [bodyP, sSeq, sIf, sNx, sRt, sAsg, tBl, tAn, eC, eV, eA, e2, eIxN, FD.peek, aCons, aNil, gNm, dMax, dIx, dNe_int, List.length_cons, List.length_nil, List.map_cons, List.map_nil, List.cons_append, List.nil_append, List.replicate_succ, List.replicate_zero, List.getElem?_cons_zero, List.getElem?_cons_succ, List.set_cons_succ, List.set_cons_zero, Nat.reduceAdd, Nat.reduceSub, if_true, Bool.not_true, Bool.not_false, i0, i1, h1', h2', h3']
    · cases h
  · cases h
/-- the sum and the product, as the text reckons them -/
def addN (x y : Num) : Num := low (x.1 * y.2.2.2 + y.1 * x.2.2.2) (x.2.1 * y.2.2.2 + y.2.1 * x.2.2.2) (rootOf x.2.2.1 y.2.2.1) (x.2.2.2 * y.2.2.2)
def mulN (x y : Num) : Num := low (x.1 * y.1 + x.2.1 * y.2.1 * rootOf x.2.2.1 y.2.2.1) (x.1 * y.2.1 + x.2.1 * y.1) (rootOf x.2.2.1 y.2.2.1) (x.2.2.2 * y.2.2.2)
def negN (x : Num) : Num := (-x.1, -x.2.1, x.2.2.1, x.2.2.2)
def okPair (x y : Num) : Prop := (x.2.2.1 = y.2.2.1 ∨ x.2.2.1 = 0 ∨ y.2.2.1 = 0) ∧ x.2.2.2 ≠ 0 ∧ y.2.2.2 ≠ 0 ∧ SzN 4000 x ∧ SzN 4000 y
instance (x y : Num) : Decidable (okPair x y) := by unfold okPair SzN; exact inferInstance
theorem root_sz {x y : Num} {b : Nat} (h1 : SzN b x) (h2 : SzN b y) : (rootOf x.2.2.1 y.2.2.1).natAbs < 2 ^ b := by
  unfold rootOf
  split
  · exact h2.2.2.1
  · exact h1.2.2.1
def b_plus : SF :=
  sSeq (sAsg (eA (aCons (eV 0) (aCons (eV 1) (aNil))) m_common_root) (gNm 2))
  (sSeq (sAsg (eV 0) (gTp 4 (gCo (gNm 3) (gCo (gNm 4) (gCo (gNm 5) (gCo (gNm 6) (gNi)))))))
  (sSeq (sAsg (eV 1) (gTp 4 (gCo (gNm 7) (gCo (gNm 8) (gCo (gNm 5) (gCo (gNm 9) (gNi)))))))
  (sRt (eA (aCons (e2 (e2 (eV 3) (eV 9) dMul) (e2 (eV 7) (eV 6) dMul) dAdd) (aCons (e2 (e2 (eV 4) (eV 9) dMul) (e2 (eV 8) (eV 6) dMul) dAdd) (aCons (eV 2) (aCons (e2 (eV 6) (eV 9) dMul) (aNil))))) m_lowest))))
def m_plus : List DV → Option DV
  | [.tup [.int p, .int q, .int d, .int s], .tup [.int p', .int q', .int d', .int s']] => if okPair (p, q, d, s) (p', q', d', s') then some (nm (addN (p, q, d, s) (p', q', d', s'))) else none
  | _ => none
theorem t_plus : ∀ ds d, m_plus ds = some d → bodyP 2 10 b_plus ds = some d := by
  intro ds d h
  unfold m_plus at h
  split at h
  · rename_i p q e s p' q' e' s'
    split at h
    · rename_i ok
      obtain ⟨hc, hs, hs', ⟨z1, z2, z3, z4⟩, z5, z6, z7, z8⟩ := ok
      cases h
      have c1 : m_common_root [.tup [.int p, .int q, .int e, .int s], .tup [.int p', .int q', .int e', .int s']] = some (.int (rootOf e e')) := if_pos hc
      have f1 := fit_of z1 z8
      have f2 := fit_of z5 z4
      have f3 := fit_of z2 z8
      have f4 := fit_of z6 z4
      have f5 := fit_of z4 z8
      have c2 : m_lowest [.int (p * s' + p' * s), .int (q * s' + q' * s), .int (rootOf e e'), .int (s * s')] = some (nm (low (p * s' + p' * s) (q * s' + q' * s) (rootOf e e') (s * s'))) :=
        if_pos ⟨Int.mul_ne_zero hs hs', lt_up (mul_lt z4 z8)⟩
      clear hc hs hs' z1 z2 z3 z4 z5 z6 z7 z8
      unfold b_plus addN
      walk_at "fd"
    · cases h
  · cases h
def b_times : SF :=
  sSeq (sAsg (eA (aCons (eV 0) (aCons (eV 1) (aNil))) m_common_root) (gNm 2))
  (sSeq (sAsg (eV 0) (gTp 4 (gCo (gNm 3) (gCo (gNm 4) (gCo (gNm 5) (gCo (gNm 6) (gNi)))))))
  (sSeq (sAsg (eV 1) (gTp 4 (gCo (gNm 7) (gCo (gNm 8) (gCo (gNm 5) (gCo (gNm 9) (gNi)))))))
  (sRt (eA (aCons (e2 (e2 (eV 3) (eV 7) dMul) (e2 (e2 (eV 4) (eV 8) dMul) (eV 2) dMul) dAdd) (aCons (e2 (e2 (eV 3) (eV 8) dMul) (e2 (eV 4) (eV 7) dMul) dAdd) (aCons (eV 2) (aCons (e2 (eV 6) (eV 9) dMul) (aNil))))) m_lowest))))
def m_times : List DV → Option DV
  | [.tup [.int p, .int q, .int d, .int s], .tup [.int p', .int q', .int d', .int s']] => if okPair (p, q, d, s) (p', q', d', s') then some (nm (mulN (p, q, d, s) (p', q', d', s'))) else none
  | _ => none
theorem t_times : ∀ ds d, m_times ds = some d → bodyP 2 10 b_times ds = some d := by
  intro ds d h
  unfold m_times at h
  split at h
  · rename_i p q e s p' q' e' s'
    split at h
    · rename_i ok
      have hr := root_sz ok.2.2.2.1 ok.2.2.2.2
      obtain ⟨hc, hs, hs', ⟨z1, z2, z3, z4⟩, z5, z6, z7, z8⟩ := ok
      cases h
      have c1 : m_common_root [.tup [.int p, .int q, .int e, .int s], .tup [.int p', .int q', .int e', .int s']] = some (.int (rootOf e e')) := if_pos hc
      have f1 := fit_of z1 z5
      have f2 := fit_of z2 z6
      have f3 := fit_of (mul_lt z2 z6) hr
      have f4 := fit_of z1 z6
      have f5 := fit_of z2 z5
      have f6 := fit_of z4 z8
      have c2 : m_lowest [.int (p * p' + q * q' * rootOf e e'), .int (p * q' + q * p'), .int (rootOf e e'), .int (s * s')] = some (nm (low (p * p' + q * q' * rootOf e e') (p * q' + q * p') (rootOf e e') (s * s'))) :=
        if_pos ⟨Int.mul_ne_zero hs hs', lt_up (mul_lt z4 z8)⟩
      clear hc hs hs' z1 z2 z3 z4 z5 z6 z7 z8 hr
      unfold b_times mulN
      walk_at "fd"
    · cases h
  · cases h
def invN (x : Num) : Num := low (x.1 * x.2.2.2) (-x.2.1 * x.2.2.2) x.2.2.1 (x.1 * x.1 - x.2.1 * x.2.1 * x.2.2.1)
def b_over : SF :=
  sSeq (sAsg (eV 1) (gTp 4 (gCo (gNm 2) (gCo (gNm 3) (gCo (gNm 4) (gCo (gNm 5) (gNi)))))))
  (sSeq (sIf (tAn (tBl (e2 (eV 2) (eC (.int 0)) dEq)) (tBl (e2 (eV 3) (eC (.int 0)) dEq))) (sNo) (sNx))
  (sRt (eA (aCons (eV 0) (aCons (eA (aCons (e2 (eV 2) (eV 5) dMul) (aCons (e2 (e1 (eV 3) dNeg) (eV 5) dMul) (aCons (eV 4) (aCons (e2 (e2 (eV 2) (eV 2) dMul) (e2 (e2 (eV 3) (eV 3) dMul) (eV 4) dMul) dSub) (aNil))))) m_lowest) (aNil))) m_times)))
def m_over : List DV → Option DV
  | [.tup [.int p, .int q, .int d, .int s], .tup [.int p', .int q', .int d', .int s']] => if (p' ≠ 0 ∨ q' ≠ 0) ∧ p' * p' - q' * q' * d' ≠ 0 ∧ SzN 1200 (p', q', d', s') ∧ okPair (p, q, d, s) (invN (p', q', d', s')) then some (nm (mulN (p, q, d, s) (invN (p', q', d', s')))) else none
  | _ => none
theorem t_over : ∀ ds d, m_over ds = some d → bodyP 2 6 b_over ds = some d := by
  intro ds d h
  unfold m_over at h
  split at h
  · rename_i p q e s p' q' e' s'
    split at h
    · rename_i ok
      obtain ⟨hz, hn, ⟨z1, z2, z3, z4⟩, ok⟩ := ok
      cases h
      have hnz : (p' * p' - q' * q' * e').natAbs < 2 ^ 8999 := lt_up (sub_lt (lt_up (mul_lt z1 z1) (b := 3600)) (mul_lt (mul_lt z2 z2) z3))
      have c2 : m_lowest [.int (p' * s'), .int (-q' * s'), .int e', .int (p' * p' - q' * q' * e')] = some (nm (invN (p', q', e', s'))) := if_pos ⟨hn, hnz⟩
      have c3 : m_times [.tup [.int p, .int q, .int e, .int s], nm (invN (p', q', e', s'))] = some (nm (mulN (p, q, e, s) (invN (p', q', e', s')))) := if_pos ok
      have f1 := fit_of z1 z4
      have f2 := fit_of (neg_lt z2) z4
      have f3 := fit_of z1 z1
      have f4 := fit_of z2 z2
      have f5 := fit_of (mul_lt z2 z2) z3
      unfold b_over
      by_cases h1 : p' = 0
      · have h2 : q' ≠ 0 := by rcases hz with h | h; exact absurd h1 h; exact h
        have h1' := beq_t h1
        have h2' := beq_f h2
        clear hz hn z1 z2 z3 z4 ok hnz h1 h2
        walk_at "fd"
      · have h1' := beq_f h1
        clear hz hn z1 z2 z3 z4 ok hnz h1
        walk_at "fd"
    · cases h
  · cases h
end T4

set_option maxRecDepth 100000
set_option maxHeartbeats 4000000
set_option exponentiation.threshold 30000
namespace T4
open PySem L2 FD
local macro_rules | `(tactic| walk_at "fd") => `(tactic| simp only [bodyP, bodyS, sSeq, sIf, sNx, sRt, sAsg, sDr, sPar, sAug, tBl, tTr, tAn, tOo, tNo, eC, eV, eA, eIf, eAn, eOo, eNo, e1, e2, eIxN, FD.peek, aCons, aNil, gNm, gTp, gCo, gNi, dI, dAddI, dMulI, dAdd, dSub, dMul, dFdiv, dMod, dNeg, dGcd, dMax, dMin, dAbs, dSq, dEq_int, dNe_int, dIx, oTup, truD, List.length_cons, List.length_nil, List.map_cons, List.map_nil, List.cons_append, List.nil_append, List.replicate_succ, List.replicate_zero, List.getElem?_cons_zero, List.getElem?_cons_succ, List.set_cons_succ, List.set_cons_zero, Nat.reduceAdd, Nat.reduceSub, Nat.sub_self, if_true, decide_true, decide_false, Bool.not_true, Bool.not_false, Bool.false_eq_true, if_false, reduceCtorEq, *])
def b_law_multiply : SF :=
  sSeq (sAsg (eA (aCons (eIxN 0 (eC (.int 2))) (aCons (eIxN 1 (eC (.int 2))) (aNil))) dMax) (gNm 2))
  (sSeq (sAsg (e2 (e2 (eIxN 0 (eC (.int 0))) (eIxN 1 (eC (.int 0))) dMul) (e2 (e2 (eIxN 0 (eC (.int 1))) (eIxN 1 (eC (.int 1))) dMul) (eV 2) dMul) dAdd) (gNm 3))
  (sRt (eA (aCons (eV 3) (aCons (e2 (e2 (eIxN 0 (eC (.int 0))) (eIxN 1 (eC (.int 1))) dMul) (e2 (eIxN 0 (eC (.int 1))) (eIxN 1 (eC (.int 0))) dMul) dAdd) (aCons (eV 2) (aCons (e2 (eIxN 0 (eC (.int 3))) (eIxN 1 (eC (.int 3))) dMul) (aNil))))) m_law_lowest)))
def m_law_multiply : List DV → Option DV
  | [.tup [.int p, .int q, .int d, .int s], .tup [.int p', .int q', .int d', .int s']] => if okQ (p, q, d, s) (p', q', d', s') then some (nm (mulL (p, q, d, s) (p', q', d', s'))) else none
  | _ => none
theorem t_law_multiply : ∀ ds d, m_law_multiply ds = some d → bodyP 2 4 b_law_multiply ds = some d := by
  intro ds d h
  unfold m_law_multiply at h
  split at h
  · rename_i p q e s p' q' e' s'
    split at h
    · rename_i ok
      obtain ⟨hd, hd', hs, hs', ⟨z1, z2, z3, z4⟩, z5, z6, z7, z8⟩ := ok
      cases h
      have i0 : atI [DV.int p, .int q, .int e, .int s] 0 = some (.int p) := rfl
      have i1 : atI [DV.int p, .int q, .int e, .int s] 1 = some (.int q) := rfl
      have i2 : atI [DV.int p, .int q, .int e, .int s] 2 = some (.int e) := rfl
      have i3 : atI [DV.int p, .int q, .int e, .int s] 3 = some (.int s) := rfl
      have j0 : atI [DV.int p', .int q', .int e', .int s'] 0 = some (.int p') := rfl
      have j1 : atI [DV.int p', .int q', .int e', .int s'] 1 = some (.int q') := rfl
      have j2 : atI [DV.int p', .int q', .int e', .int s'] 2 = some (.int e') := rfl
      have j3 : atI [DV.int p', .int q', .int e', .int s'] 3 = some (.int s') := rfl
      have hr : (rootOf e e').natAbs < 2 ^ 40 := by unfold rootOf; split <;> assumption
      have f1 := fit_of z1 z5
      have f2 := fit_of z2 z6
      have f3 := fit_of (mul_lt z2 z6) hr
      have f4 := fit_of z1 z6
      have f5 := fit_of z2 z5
      have f6 := fit_of z4 z8
      have c2 := low_ok (p := p * p' + q * q' * rootOf e e') (q := p * q' + q * p') (d := rootOf e e') (Int.mul_ne_zero hs hs') (lt_up (mul_lt z4 z8))
      clear hd hd' hs hs' z1 z2 z3 z4 z5 z6 z7 z8 hr
      unfold rootOf at c2 f3
      unfold b_law_multiply mulL rootOf
      walk_at "fd"
    · cases h
  · cases h
def b_law_inverse : SF :=
  sSeq (sAsg (eV 0) (gTp 4 (gCo (gNm 1) (gCo (gNm 2) (gCo (gNm 3) (gCo (gNm 4) (gNi)))))))
  (sRt (eA (aCons (e2 (eV 1) (eV 4) dMul) (aCons (e2 (eC (.int 0)) (e2 (eV 2) (eV 4) dMul) dSub) (aCons (eV 3) (aCons (e2 (e2 (eV 1) (eV 1) dMul) (e2 (e2 (eV 2) (eV 2) dMul) (eV 3) dMul) dSub) (aNil))))) m_law_lowest))
def m_law_inverse : List DV → Option DV
  | [.tup [.int p, .int q, .int d, .int s]] => if p * p - q * q * d ≠ 0 ∧ SzN 1900 (p, q, d, s) ∧ d.natAbs < 2 ^ 40 then some (nm (invL (p, q, d, s))) else none
  | _ => none
theorem t_law_inverse : ∀ ds d, m_law_inverse ds = some d → bodyP 1 5 b_law_inverse ds = some d := by
  intro ds d h
  unfold m_law_inverse at h
  split at h
  · rename_i p q e s
    split at h
    · rename_i ok
      obtain ⟨hn, ⟨z1, z2, z3, z4⟩, hd⟩ := ok
      cases h
      have c2 := low_ok (p := p * s) (q := 0 - q * s) (d := e) hn (lt_up (sub_lt (lt_up (mul_lt z1 z1) (b := 3840)) (mul_lt (mul_lt z2 z2) hd)))
      have f1 := fit_of z1 z4
      have f2 := fit_of z2 z4
      have f3 := fit_of z1 z1
      have f4 := fit_of z2 z2
      have f5 := fit_of (mul_lt z2 z2) hd
      clear hn z1 z2 z3 z4 hd
      unfold b_law_inverse invL
      walk_at "fd"
    · cases h
  · cases h
/-! ## what a number stands for -/
def Can (e : Int) (x : Num) : Prop := 0 < x.2.2.2 ∧ gc x.1 x.2.1 x.2.2.2 = 1 ∧ x.2.2.1 = if x.2.1 = 0 then 0 else e
theorem can_eq {e : Int} {x y : Num} (hx : Can e x) (hy : Can e y) (h1 : x.1 * y.2.2.2 = y.1 * x.2.2.2) (h2 : x.2.1 * y.2.2.2 = y.2.1 * x.2.2.2) : x = y := by
  have key : ∀ a b c a' b' c' : Int, gc a b c = 1 → a * c' = a' * c → b * c' = b' * c → c ∣ c' := by
    intro a b c a' b' c' hg e1 e2
    have d1 : c.natAbs ∣ c'.natAbs * a.natAbs := by
      rw [← Int.natAbs_mul, Int.natAbs_dvd_natAbs]
      exact ⟨a', by rw [Int.mul_comm c' a, e1, Int.mul_comm]⟩
    have d2 : c.natAbs ∣ c'.natAbs * b.natAbs := by
      rw [← Int.natAbs_mul, Int.natAbs_dvd_natAbs]
      exact ⟨b', by rw [Int.mul_comm c' b, e2, Int.mul_comm]⟩
    have d3 : c.natAbs ∣ c'.natAbs * c.natAbs := Nat.dvd_mul_left _ _
    have d4 := Nat.dvd_gcd (Nat.dvd_gcd d1 d2) d3
    rw [Nat.gcd_mul_left, Nat.gcd_mul_left] at d4
    have d5 : (a.natAbs.gcd b.natAbs).gcd c.natAbs = 1 := by unfold gc at hg; omega
    rw [d5, Nat.mul_one] at d4
    exact Int.natAbs_dvd_natAbs.mp d4
  obtain ⟨a, b, d, c⟩ := x
  obtain ⟨a', b', d', c'⟩ := y
  obtain ⟨p1, p2, p3⟩ := hx
  obtain ⟨q1, q2, q3⟩ := hy
  dsimp only at *
  have k1 := key a b c a' b' c' p2 h1 h2
  have k2 := key a' b' c' a b c q2 h1.symm h2.symm
  have hc : c = c' := by
    have := Int.le_of_dvd q1 k1
    have := Int.le_of_dvd p1 k2
    omega
  subst hc
  have ha : a = a' := Int.eq_of_mul_eq_mul_right (by omega) h1
  have hb : b = b' := Int.eq_of_mul_eq_mul_right (by omega) h2
  subst ha
  subst hb
  rw [p3, q3]
/-- what a number stands for: (P + Q root e) / S -/
def Rep (e : Int) (x : Num) (P Q S : Int) : Prop := Can e x ∧ S ≠ 0 ∧ x.1 * S = P * x.2.2.2 ∧ x.2.1 * S = Q * x.2.2.2
theorem rep_self {e : Int} {x : Num} (h : Can e x) : Rep e x x.1 x.2.1 x.2.2.2 := ⟨h, by have := h.1; omega, rfl, rfl⟩
theorem rep_low {e p q s : Int} (hs : s ≠ 0) : Rep e (low p q e s) p q s := by
  obtain ⟨g, a, b, c, hg, ha, hb, hc, hp, h1, hl⟩ := low_form (p := p) (q := q) (e := e) hs
  rw [hl]
  refine ⟨⟨hp, h1, rfl⟩, hs, ?_, ?_⟩
  · show a * s = p * c
    grind
  · show b * s = q * c
    grind
theorem low_d {p q d e s : Int} (h : q = 0 ∨ d = e) : low p q d s = low p q e s := by
  unfold low
  rcases h with h | h
  · rw [if_pos h, if_pos h]
  · rw [h]
theorem root_can {e : Int} {x y : Num} (he : 0 < e) (hx : Can e x) (hy : Can e y) : rootOf x.2.2.1 y.2.2.1 = e ∨ (x.2.1 = 0 ∧ y.2.1 = 0) := by
  obtain ⟨_, _, h1⟩ := hx
  obtain ⟨_, _, h2⟩ := hy
  unfold rootOf
  rw [h1, h2]
  by_cases a : x.2.1 = 0
  · by_cases b : y.2.1 = 0
    · exact .inr ⟨a, b⟩
    · rw [if_pos a, if_neg b, if_pos (by omega)]; exact .inl rfl
  · by_cases b : y.2.1 = 0
    · rw [if_neg a, if_pos b, if_neg (by omega)]; exact .inl rfl
    · rw [if_neg a, if_neg b, if_neg (by omega)]; exact .inl rfl
theorem rep_add {e : Int} {x y : Num} {P Q S P' Q' S' : Int} (he : 0 < e) (hx : Rep e x P Q S) (hy : Rep e y P' Q' S') : Rep e (addN x y) (P * S' + P' * S) (Q * S' + Q' * S) (S * S') := by
  obtain ⟨cx, s1, a1, b1⟩ := hx
  obtain ⟨cy, s2, a2, b2⟩ := hy
  have n1 : x.2.2.2 ≠ 0 := by have := cx.1; omega
  have n2 : y.2.2.2 ≠ 0 := by have := cy.1; omega
  have n3 := Int.mul_ne_zero n1 n2
  have e1 : addN x y = low (x.1 * y.2.2.2 + y.1 * x.2.2.2) (x.2.1 * y.2.2.2 + y.2.1 * x.2.2.2) e (x.2.2.2 * y.2.2.2) := by
    refine low_d ?_
    rcases root_can he cx cy with h | ⟨h, h'⟩
    · exact .inr h
    · exact .inl (by rw [h, h']; simp)
  obtain ⟨c, _, u, v⟩ := rep_low (e := e) (p := x.1 * y.2.2.2 + y.1 * x.2.2.2) (q := x.2.1 * y.2.2.2 + y.2.1 * x.2.2.2) n3
  rw [← e1] at c u v
  generalize addN x y = z at *
  refine ⟨c, Int.mul_ne_zero s1 s2, Int.eq_of_mul_eq_mul_left n3 ?_, Int.eq_of_mul_eq_mul_left n3 ?_⟩
  · grind
  · grind
theorem rep_mul {e : Int} {x y : Num} {P Q S P' Q' S' : Int} (he : 0 < e) (hx : Rep e x P Q S) (hy : Rep e y P' Q' S') : Rep e (mulN x y) (P * P' + Q * Q' * e) (P * Q' + Q * P') (S * S') := by
  obtain ⟨cx, s1, a1, b1⟩ := hx
  obtain ⟨cy, s2, a2, b2⟩ := hy
  have n1 : x.2.2.2 ≠ 0 := by have := cx.1; omega
  have n2 : y.2.2.2 ≠ 0 := by have := cy.1; omega
  have n3 := Int.mul_ne_zero n1 n2
  have e1 : mulN x y = low (x.1 * y.1 + x.2.1 * y.2.1 * e) (x.1 * y.2.1 + x.2.1 * y.1) e (x.2.2.2 * y.2.2.2) := by
    unfold mulN
    rcases root_can he cx cy with h | ⟨h, h'⟩
    · rw [h]
    · rw [h, h']
      simp only [Int.zero_mul, Int.mul_zero, Int.add_zero]
      exact low_d (.inl rfl)
  obtain ⟨c, _, u, v⟩ := rep_low (e := e) (p := x.1 * y.1 + x.2.1 * y.2.1 * e) (q := x.1 * y.2.1 + x.2.1 * y.1) n3
  rw [← e1] at c u v
  generalize mulN x y = z at *
  refine ⟨c, Int.mul_ne_zero s1 s2, Int.eq_of_mul_eq_mul_left n3 ?_, Int.eq_of_mul_eq_mul_left n3 ?_⟩
  · grind
  · grind
theorem can_neg {e : Int} {x : Num} (h : Can e x) : Can e (negN x) := by
  obtain ⟨h1, h2, h3⟩ := h
  refine ⟨h1, ?_, ?_⟩
  · show gc (-x.1) (-x.2.1) x.2.2.2 = 1
    unfold gc at *
    rw [Int.natAbs_neg, Int.natAbs_neg]
    exact h2
  · show x.2.2.1 = if -x.2.1 = 0 then 0 else e
    rw [h3]
    by_cases z : x.2.1 = 0
    · rw [if_pos z, if_pos (by omega)]
    · rw [if_neg z, if_neg (by omega)]
theorem rep_neg {e : Int} {x : Num} {P Q S : Int} (hx : Rep e x P Q S) : Rep e (negN x) (-P) (-Q) S := by
  obtain ⟨cx, s1, a1, b1⟩ := hx
  refine ⟨can_neg cx, s1, ?_, ?_⟩
  · show -x.1 * S = -P * x.2.2.2
    grind
  · show -x.2.1 * S = -Q * x.2.2.2
    grind
theorem rep_inv {e : Int} {x : Num} (cx : Can e x) (hn : x.1 * x.1 - x.2.1 * x.2.1 * e ≠ 0) : Rep e (invN x) (x.1 * x.2.2.2) (-x.2.1 * x.2.2.2) (x.1 * x.1 - x.2.1 * x.2.1 * e) := by
  have e1 : invN x = low (x.1 * x.2.2.2) (-x.2.1 * x.2.2.2) e (x.1 * x.1 - x.2.1 * x.2.1 * e) := by
    unfold invN
    by_cases z : x.2.1 = 0
    · rw [z]
      simp only [Int.zero_mul, Int.neg_zero]
      exact low_d (.inl rfl)
    · rw [cx.2.2, if_neg z]
  rw [e1]
  exact rep_low hn
theorem rep_eq {e : Int} {x y : Num} {P Q S P' Q' S' : Int} (hx : Rep e x P Q S) (hy : Rep e y P' Q' S') (h1 : P * S' = P' * S) (h2 : Q * S' = Q' * S) : x = y := by
  obtain ⟨cx, s1, a1, b1⟩ := hx
  obtain ⟨cy, s2, a2, b2⟩ := hy
  have n3 := Int.mul_ne_zero s1 s2
  refine can_eq cx cy (Int.eq_of_mul_eq_mul_left n3 ?_) (Int.eq_of_mul_eq_mul_left n3 ?_)
  · grind
  · grind
theorem sg_can {e : Int} {x : Num} (h : Can e x) : sgS x.1 x.2.1 x.2.2.1 = sgS x.1 x.2.1 e := by
  unfold sgS
  by_cases z : x.2.1 = 0
  · rw [z]; simp
  · rw [h.2.2, if_neg z]
theorem rep_sg {e : Int} {x : Num} {P Q S : Int} (hx : Rep e x P Q S) (hS : 0 < S) : sgS x.1 x.2.1 x.2.2.1 = sgS P Q e := by
  rw [sg_can hx.1]
  exact sg_scale hS hx.1.1 hx.2.2.1 hx.2.2.2

theorem Good.can {b c : Nat} {e : Int} {x : Num} (h : Good b c e x) : Can e x := ⟨h.s0, h.gc1, h.dd⟩
theorem low_sz {b c : Nat} {p q e s : Int} (hs : s ≠ 0) (h1 : p.natAbs < 2 ^ b) (h2 : q.natAbs < 2 ^ c) (h3 : s.natAbs < 2 ^ c) : Good b c e (low p q e s) := by
  obtain ⟨g, x, y, z, hg, e1, e2, e3, hz, h4, h5⟩ := low_form (p := p) (q := q) (e := e) hs
  rw [h5]
  exact ⟨hz, rfl, h4, part_sz hg e1 h1, part_sz hg e2 h2, part_sz hg e3 h3⟩
theorem flo_scale {P Q S P' Q' S' e : Int} (hS : 0 < S) (hS' : 0 < S') (he : 0 ≤ e) (h1 : P * S' = P' * S) (h2 : Q * S' = Q' * S) : flo P Q e S = flo P' Q' e S' := by
  have key : ∀ f : Int, flo P Q e S < f ↔ flo P' Q' e S' < f := fun f => by
    rw [← sg_flo hS he, ← sg_flo hS' he, sg_scale (P := P - f * S) (Q := Q) (P' := P' - f * S') (Q' := Q') (k := S') (m := S) hS' hS (by grind) h2]
  have k1 := (key (flo P Q e S + 1)).mp (by omega)
  have k2 := (key (flo P' Q' e S' + 1)).mpr (by omega)
  omega
theorem flo_can {e : Int} {x : Num} (h : Can e x) : flo x.1 x.2.1 x.2.2.1 x.2.2.2 = flo x.1 x.2.1 e x.2.2.2 := by
  unfold flo
  by_cases z : x.2.1 = 0
  · rw [z]; simp
  · rw [h.2.2, if_neg z]
theorem rep_flo {e P Q S : Int} {x : Num} (h : Rep e x P Q S) (hS : 0 < S) (he : 0 ≤ e) : flo x.1 x.2.1 x.2.2.1 x.2.2.2 = flo P Q e S := by
  rw [flo_can h.1]
  exact flo_scale h.1.1 hS he h.2.2.1 h.2.2.2
/-- a ratio of the law's -/
structure Ra (e : Int) (x : Num) : Prop where
  g : Good 80 80 e x
  rt : Rt e
  pos : 0 < sgS x.1 x.2.1 e
def GB (e : Int) (x : Num) (j : Int) : Int := j + flo (j * x.1) (j * x.2.1) e x.2.2.2
theorem can_int (e i : Int) : Can e (i, 0, 0, 1) := by
  refine ⟨Int.one_pos, ?_, rfl⟩
  show gc i 0 1 = 1
  unfold gc
  simp
section
variable {e : Int} {x : Num}
/-- the number whose floor tells the number of b's -/
def shareN (x : Num) (n : Int) : Num := mulN (n + 1, 0, 0, 1) (invN (addN x (1, 0, 0, 1)))
def doneN (x : Num) (n : Int) : Int := -flo (-(shareN x n).1) (-(shareN x n).2.1) (shareN x n).2.2.1 (shareN x n).2.2.2 - 1
theorem Ra.more (h : Ra e x) : Rep e (addN x (1, 0, 0, 1)) (x.1 + x.2.2.2) x.2.1 x.2.2.2 := by
  have := rep_add h.rt.pos (rep_self h.g.can) (rep_self (can_int e 1))
  simp only [Int.mul_one, Int.one_mul, Int.zero_mul, Int.add_zero] at this
  exact this
theorem Ra.more_sg (h : Ra e x) : sgS (addN x (1, 0, 0, 1)).1 (addN x (1, 0, 0, 1)).2.1 e = 1 := by
  rw [← sg_can h.more.1, rep_sg h.more h.g.s0]
  exact sg_one (sg_mono (by have := h.g.s0; omega) h.pos)
theorem norm_ne {y : Num} (he : 0 < e ∧ Irr e) (hs : sgS y.1 y.2.1 e = 1) : y.1 * y.1 - y.2.1 * y.2.1 * e ≠ 0 := fun w => by
  have q0 := he.2 _ _ (Int.eq_of_sub_eq_zero w)
  rw [q0] at w hs
  simp only [Int.mul_zero, Int.zero_mul, Int.sub_zero] at w
  have p0 : y.1 = 0 := (Int.mul_eq_zero.mp w).elim id id
  rw [p0, sg_zero] at hs
  omega
theorem Ra.irr (h : Ra e x) : 0 < e ∧ Irr e := ⟨h.rt.pos, h.rt.irr⟩
/-- how many b's stand among the first n acts -/
theorem done_spec (h : Ra e x) (n j : Int) : j ≤ doneN x n ↔ GB e x j ≤ n := by
  have he := h.irr
  have my := h.more
  have sy := h.more_sg
  have ny := norm_ne he sy
  have ry := rep_inv my.1 ny
  have rz := rep_mul he.1 (rep_self (can_int e (n + 1))) ry
  have y0 := my.1.1
  have x0 := h.g.s0
  obtain ⟨_, _, m1, m2⟩ := my
  generalize hN : (addN x (1, 0, 0, 1)).1 * (addN x (1, 0, 0, 1)).1 - (addN x (1, 0, 0, 1)).2.1 * (addN x (1, 0, 0, 1)).2.1 * e = N at *
  have hz : mulN (n + 1, 0, 0, 1) (invN (addN x (1, 0, 0, 1))) = shareN x n := rfl
  rw [hz] at rz
  unfold doneN GB
  generalize shareN x n = z at *
  obtain ⟨cz, _, z1, z2⟩ := rz
  dsimp only at z1 z2
  generalize addN x (1, 0, 0, 1) = y at *
  have z0 := cz.1
  have k1 := sg_flo (p := -z.1) (q := -z.2.1) (d := z.2.2.1) (f := -j) z0 (by rw [cz.2.2]; split <;> omega)
  have k2 := sg_flo (p := j * x.1) (q := j * x.2.1) (d := e) (f := n + 1 - j) x0 (Int.le_of_lt he.1)
  have e0 : sgS (-z.1 - -j * z.2.2.2) (-z.2.1) z.2.2.1 = sgS (-z.1 - -j * z.2.2.2) (-z.2.1) e := by
    unfold sgS
    by_cases w : z.2.1 = 0
    · rw [w]; simp
    · rw [cz.2.2, if_neg w]
  have e1 := sg_mul (P := -z.1 - -j * z.2.2.2) (Q := -z.2.1) (P' := y.1) (Q' := y.2.1) he
  rw [sy, Int.mul_one] at e1
  have i1 : N * ((-z.1 - -j * z.2.2.2) * y.1 + -z.2.1 * y.2.1 * e) = N * (z.2.2.2 * (j * y.1 - (n + 1) * y.2.2.2)) := by
    rw [← hN] at *
    grind
  have i2 : N * ((-z.1 - -j * z.2.2.2) * y.2.1 + -z.2.1 * y.1) = N * (z.2.2.2 * (j * y.2.1)) := by
    rw [← hN] at *
    grind
  have j1 := Int.eq_of_mul_eq_mul_left ny i1
  have j2 := Int.eq_of_mul_eq_mul_left ny i2
  rw [j1, j2] at e1
  have e2 : sgS (z.2.2.2 * (j * y.1 - (n + 1) * y.2.2.2)) (z.2.2.2 * (j * y.2.1)) e = sgS (j * x.1 - (n + 1 - j) * x.2.2.2) (j * x.2.1) e :=
    sg_scale (k := x.2.2.2) (m := z.2.2.2 * y.2.2.2) x0 (Int.mul_pos z0 y0) (by grind) (by grind)
  rw [e0, ← e1, e2] at k1
  rw [k2] at k1
  omega
theorem GB_zero (x0 : 0 < x.2.2.2) : GB e x 0 = 0 := by
  have h0 : sq 0 = 0 := rfl
  unfold GB flo
  simp [h0]
theorem GB_big (h : Ra e x) {j : Int} (hj : 0 ≤ j) : j ≤ GB e x j := by
  have he := h.irr
  unfold GB
  have : ¬ flo (j * x.1) (j * x.2.1) e x.2.2.2 < 0 := fun w => by
    have := (sg_flo (p := j * x.1) (q := j * x.2.1) (f := 0) h.g.s0 (Int.le_of_lt he.1)).mpr w
    rw [Int.zero_mul, Int.sub_zero] at this
    rcases Int.lt_or_eq_of_le hj with z | z
    · rw [sg_scale (k := 1) (m := j) Int.one_pos z (P' := x.1) (Q' := x.2.1) (by grind) (by grind)] at this
      have := h.pos
      omega
    · rw [← z] at this
      simp [sg_zero] at this
  omega
end
end T4

set_option maxRecDepth 100000
set_option maxHeartbeats 4000000
set_option exponentiation.threshold 30000
namespace T4
open PySem L2 FD
local macro_rules | `(tactic| walk_at "fd") => `(tactic| simp only [bodyP, bodyS, sSeq, sIf, sNx, sRt, sAsg, sDr, sPar, sAug, tBl, tTr, tAn, tOo, tNo, eC, eV, eA, eIf, eAn, eOo, eNo, e1, e2, eIxN, FD.peek, aCons, aNil, gNm, gTp, gCo, gNi, dI, dAddI, dMulI, dAdd, dSub, dMul, dFdiv, dMod, dNeg, dGcd, dMax, dMin, dAbs, dSq, dEq_int, dNe_int, dIx, oTup, truD, List.length_cons, List.length_nil, List.map_cons, List.map_nil, List.cons_append, List.nil_append, List.replicate_succ, List.replicate_zero, List.getElem?_cons_zero, List.getElem?_cons_succ, List.set_cons_succ, List.set_cons_zero, Nat.reduceAdd, Nat.reduceSub, Nat.sub_self, if_true, decide_true, decide_false, Bool.not_true, Bool.not_false, Bool.false_eq_true, if_false, reduceCtorEq, *])

/-! ## the program's counts -/
theorem low_szN {b : Nat} {p q d s : Int} (hs : s ≠ 0) (h1 : p.natAbs < 2 ^ b) (h2 : q.natAbs < 2 ^ b) (h3 : d.natAbs < 2 ^ b) (h4 : s.natAbs < 2 ^ b) : SzN b (low p q d s) := by
  have g := low_sz (e := d) hs h1 h2 h4
  refine ⟨g.zp, g.zq, ?_, g.zs⟩
  show (low p q d s).2.2.1.natAbs < 2 ^ b
  rw [g.dd]
  split
  · exact Nat.two_pow_pos _
  · exact h3
theorem SzN.up {b c : Nat} {x : Num} (h : SzN b x) (hbc : b ≤ c) : SzN c x := ⟨lt_up h.1 hbc, lt_up h.2.1 hbc, lt_up h.2.2.1 hbc, lt_up h.2.2.2 hbc⟩
theorem addN_sz {b : Nat} {x y : Num} (hx : SzN b x) (hy : SzN b y) (x0 : x.2.2.2 ≠ 0) (y0 : y.2.2.2 ≠ 0) : SzN (b + b + 1) (addN x y) := by
  have hr := root_sz hx hy
  obtain ⟨a1, a2, a3, a4⟩ := hx
  obtain ⟨c1, c2, c3, c4⟩ := hy
  exact low_szN (Int.mul_ne_zero x0 y0) (add_lt (mul_lt a1 c4) (mul_lt c1 a4)) (add_lt (mul_lt a2 c4) (mul_lt c2 a4)) (lt_up hr (by omega)) (lt_up (mul_lt a4 c4) (by omega))
theorem mulN_sz {b : Nat} {x y : Num} (hx : SzN b x) (hy : SzN b y) (x0 : x.2.2.2 ≠ 0) (y0 : y.2.2.2 ≠ 0) : SzN (b + b + b + 1) (mulN x y) := by
  have hr := root_sz hx hy
  obtain ⟨a1, a2, a3, a4⟩ := hx
  obtain ⟨c1, c2, c3, c4⟩ := hy
  exact low_szN (Int.mul_ne_zero x0 y0) (add_lt (lt_up (mul_lt a1 c1) (by omega)) (mul_lt (mul_lt a2 c2) hr)) (lt_up (add_lt (mul_lt a1 c2) (mul_lt a2 c1)) (by omega)) (lt_up hr (by omega)) (lt_up (mul_lt a4 c4) (by omega))
theorem invN_sz {b : Nat} {x : Num} (hx : SzN b x) (hn : x.1 * x.1 - x.2.1 * x.2.1 * x.2.2.1 ≠ 0) : SzN (b + b + b + 1) (invN x) := by
  obtain ⟨a1, a2, a3, a4⟩ := hx
  exact low_szN hn (lt_up (mul_lt a1 a4) (by omega)) (lt_up (mul_lt (neg_lt a2) a4) (by omega)) (lt_up a3 (by omega)) (sub_lt (lt_up (mul_lt a1 a1) (by omega)) (mul_lt (mul_lt a2 a2) a3))
theorem norm_can {e : Int} {y : Num} (h : Can e y) (hn : y.1 * y.1 - y.2.1 * y.2.1 * e ≠ 0) : y.1 * y.1 - y.2.1 * y.2.1 * y.2.2.1 ≠ 0 := by
  by_cases z : y.2.1 = 0
  · rw [z] at hn ⊢
    simpa using hn
  · rw [h.2.2, if_neg z]
    exact hn
theorem one_sz {i : Int} {b : Nat} (h : i.natAbs < 2 ^ b) (hb : 1 ≤ b) : SzN b (i, 0, 0, 1) := ⟨h, Nat.two_pow_pos _, Nat.two_pow_pos _, Nat.one_lt_two_pow (by omega)⟩
theorem root_of_can {e : Int} {x y : Num} (hx : Can e x) (hy : Can e y) : x.2.2.1 = y.2.2.1 ∨ x.2.2.1 = 0 ∨ y.2.2.1 = 0 := by
  rw [hx.2.2, hy.2.2]
  by_cases a : x.2.1 = 0
  · rw [if_pos a]; exact .inr (.inl rfl)
  · by_cases b : y.2.1 = 0
    · rw [if_pos b]; exact .inr (.inr rfl)
    · rw [if_neg a, if_neg b]; exact .inl rfl
theorem Ra.sz {e : Int} {x : Num} (h : Ra e x) : SzN 80 x := by
  refine ⟨h.g.zp, h.g.zq, ?_, h.g.zs⟩
  show x.2.2.1.natAbs < _
  rw [h.g.dd]
  split
  · exact Nat.two_pow_pos _
  · exact lt_up h.rt.sz
theorem Ra.s0 {e : Int} {x : Num} (h : Ra e x) : x.2.2.2 ≠ 0 := by have := h.g.s0; omega
def b_whole : SF :=
  sRt (eA (aCons (eV 0) (aCons (eC (.int 0)) (aCons (eC (.int 0)) (aCons (eC (.int 1)) (aNil))))) oTup)
def m_whole : List DV → Option DV
  | [.int n] => some (.tup [.int n, .int 0, .int 0, .int 1])
  | _ => none
theorem t_whole : ∀ ds d, m_whole ds = some d → bodyP 1 1 b_whole ds = some d := by
  intro ds d h
  unfold m_whole at h
  split at h
  · cases h
    have h4 := four_le
    unfold b_whole
    walk_at "fd"
  · cases h
def ceilN (x : Num) : Int := -flo (-x.1) (-x.2.1) x.2.2.1 x.2.2.2
def b_ceiling : SF :=
  sRt (e1 (eA (aCons (eA (aCons (eV 0) (aNil)) m_opposite) (aNil)) m_floor) dNeg)
def m_ceiling : List DV → Option DV
  | [.tup [.int p, .int q, .int d, .int s]] => if okFl (-p) (-q) d s then some (.int (ceilN (p, q, d, s))) else none
  | _ => none
theorem t_ceiling : ∀ ds d, m_ceiling ds = some d → bodyP 1 1 b_ceiling ds = some d := by
  intro ds d h
  unfold m_ceiling at h
  split at h
  · rename_i p q e s
    split at h
    · rename_i ok
      cases h
      have c1 : m_opposite [.tup [.int p, .int q, .int e, .int s]] = some (nm (-p, -q, e, s)) := rfl
      have c2 : m_floor [nm (-p, -q, e, s)] = some (.int (flo (-p) (-q) e s)) := if_pos ok
      clear ok
      unfold b_ceiling ceilN
      walk_at "fd"
    · cases h
  · cases h
theorem ceil_ok {x : Num} {b : Nat} (h : SzN b x) (hb : b ≤ 4000) (s0 : x.2.2.2 ≠ 0) (d0 : 0 ≤ x.2.2.1) : m_ceiling [nm x] = some (.int (ceilN x)) := by
  obtain ⟨a1, a2, a3, a4⟩ := h
  have ok : okFl (-x.1) (-x.2.1) x.2.2.1 x.2.2.2 := ⟨s0, Int.mul_nonneg (sq_nn _) d0, lt_up (neg_lt a1) hb, lt_up (neg_lt a2) hb, lt_up a3 hb, lt_up a4 hb⟩
  unfold m_ceiling nm
  dsimp only
  rw [if_pos ok]
theorem can_d {e : Int} {x : Num} (h : Can e x) (he : 0 < e) : 0 ≤ x.2.2.1 := by
  rw [h.2.2]
  split <;> omega
section
variable {e : Int} {x : Num}
def b_counts : SF :=
  sSeq (sAsg (eA (aCons (eA (aCons (e2 (eV 1) (eC (.int 1)) dAdd) (aNil)) m_whole) (aCons (eA (aCons (eV 0) (aCons (eA (aCons (eC (.int 1)) (aNil)) m_whole) (aNil))) m_plus) (aNil))) m_over) (gNm 2))
  (sSeq (sAsg (e2 (eA (aCons (eV 2) (aNil)) m_ceiling) (eC (.int 1)) dSub) (gNm 3))
  (sRt (eA (aCons (e2 (eV 1) (eV 3) dSub) (aCons (eV 3) (aNil))) oTup)))
def m_counts : List DV → Option DV := bodyP 2 4 b_counts
theorem t_counts : ∀ ds d, m_counts ds = some d → bodyP 2 4 b_counts ds = some d := fun _ _ h => h
theorem counts_ok (h : Ra e x) {n : Int} (hn : n.natAbs < 2 ^ 140) : m_counts [nm x, .int n] = some (.tup [.int (n - doneN x n), .int (doneN x n)]) := by
  have he := h.irr
  have my := h.more
  have ny := norm_ne he h.more_sg
  have hn1 : (n + 1).natAbs < 2 ^ 160 := lt_up (a := 141) (by omega)
  have zx : SzN 80 x := h.sz
  have zy := addN_sz zx (one_sz (i := 1) (b := 80) (by decide) (by decide)) h.s0 Int.one_ne_zero
  have y0 : (addN x (1, 0, 0, 1)).2.2.2 ≠ 0 := by have := my.1.1; omega
  have ny' := norm_can my.1 ny
  have zi := invN_sz zy ny'
  have ri := rep_inv my.1 ny
  have i0 : (invN (addN x (1, 0, 0, 1))).2.2.2 ≠ 0 := by have := ri.1.1; omega
  have rz := rep_mul he.1 (rep_self (can_int e (n + 1))) ri
  have zz := mulN_sz (one_sz (lt_up hn1 (b := 80 + 80 + 1 + (80 + 80 + 1) + (80 + 80 + 1) + 1)) (by decide)) zi Int.one_ne_zero i0
  have hs : mulN (n + 1, 0, 0, 1) (invN (addN x (1, 0, 0, 1))) = shareN x n := rfl
  rw [hs] at rz zz
  have z0 : (shareN x n).2.2.2 ≠ 0 := by have := rz.1.1; omega
  have c1 : m_whole [.int (n + 1)] = some (nm (n + 1, 0, 0, 1)) := rfl
  have c2 : m_whole [.int 1] = some (nm (1, 0, 0, 1)) := rfl
  have c3 : m_plus [nm x, nm (1, 0, 0, 1)] = some (nm (addN x (1, 0, 0, 1))) := if_pos ⟨.inr (.inr rfl), h.s0, Int.one_ne_zero, zx.up (by decide), (one_sz (i := 1) (b := 80) (by decide) (by decide)).up (by decide)⟩
  have c4 : m_over [nm (n + 1, 0, 0, 1), nm (addN x (1, 0, 0, 1))] = some (nm (shareN x n)) := by
    refine if_pos ⟨?_, ny', zy.up (by decide), .inr (.inl rfl), Int.one_ne_zero, i0, (one_sz (lt_up hn1) (by decide) : SzN 4000 _), zi.up (by decide)⟩
    refine Classical.byContradiction fun w => ?_
    rw [not_or] at w
    have p0 := Classical.not_not.mp w.1
    have q0 := Classical.not_not.mp w.2
    exact ny (by rw [p0, q0]; simp)
  have c5 := ceil_ok zz (by decide) z0 (can_d rz.1 he.1)
  have e5 : ceilN (shareN x n) - 1 = doneN x n := rfl
  have k2 := two_le
  clear h he my ny hn1 zx zy y0 ny' zi ri i0 rz zz hs z0 hn
  unfold m_counts b_counts
  walk_at "fd"
def b_act_at : SF :=
  sSeq (sIf (tBl (e2 (e2 (eA (aCons (eV 0) (aCons (eV 1) (aNil))) m_counts) (eC (.int 0)) dIx) (e2 (eA (aCons (eV 0) (aCons (e2 (eV 1) (eC (.int 1)) dSub) (aNil))) m_counts) (eC (.int 0)) dIx) dGt)) (sRt (eC (.str "a"))) (sNx))
  (sRt (eC (.str "b")))
def m_act_at : List DV → Option DV := bodyP 2 2 b_act_at
theorem t_act_at : ∀ ds d, m_act_at ds = some d → bodyP 2 2 b_act_at ds = some d := fun _ _ h => h
theorem act_at_ok (h : Ra e x) {n : Int} (hn : n.natAbs < 2 ^ 139) : m_act_at [nm x, .int n] = some (.str (if GB e x (doneN x n) = n then "b" else "a")) := by
  have c1 := counts_ok h (n := n) (lt_up hn)
  have c2 := counts_ok h (n := n - 1) (lt_up (a := 140) (by omega))
  have k1 := (done_spec h n (doneN x n)).mp (Int.le_refl _)
  have k2 := done_spec h (n - 1) (doneN x n)
  have i0 : ∀ a b : Int, dIx (.tup [.int a, .int b]) (.int 0) = some (.int a) := fun _ _ => rfl
  by_cases z : GB e x (doneN x n) = n
  · have k3 : decide (n - 1 - doneN x (n - 1) < n - doneN x n) = false := decide_eq_false (by omega)
    rw [if_pos z]
    clear h hn k1 k2 z
    unfold m_act_at b_act_at
    simp only [bodyP, sSeq, sIf, sNx, sRt, tBl, e2, eA, aCons, aNil, eV, eC, c1, c2, dI, dSub, i0, k3, List.length_cons, List.length_nil, List.map_cons, List.map_nil, List.cons_append, List.nil_append, List.replicate_succ, List.replicate_zero, List.getElem?_cons_zero, List.getElem?_cons_succ, Nat.reduceAdd, Nat.reduceSub, Nat.sub_self, if_true]
  · have k3 : decide (n - 1 - doneN x (n - 1) < n - doneN x n) = true := decide_eq_true (by omega)
    rw [if_neg z]
    clear h hn k1 k2 z
    unfold m_act_at b_act_at
    simp only [bodyP, sSeq, sIf, sNx, sRt, tBl, e2, eA, aCons, aNil, eV, eC, c1, c2, dI, dSub, i0, k3, List.length_cons, List.length_nil, List.map_cons, List.map_nil, List.cons_append, List.nil_append, List.replicate_succ, List.replicate_zero, List.getElem?_cons_zero, List.getElem?_cons_succ, Nat.reduceAdd, Nat.reduceSub, Nat.sub_self, if_true]
end
end T4

set_option maxRecDepth 100000
set_option maxHeartbeats 4000000
namespace FD
open PySem PySem.Spec PyProof.Rows L2
/-! ## isinstance of built-in types -/
def tyD : DV → Option String
  | .non => some "NoneType"
  | .bl _ => some "bool"
  | .int _ => some "int"
  | .str _ => some "str"
  | .tup _ => some "tuple"
  | .lst _ => some "list"
  | _ => none
def isTyD (T : String) (d : DV) : Option Bool := match tyD d with
  | some t => some (decide (t = T ∨ (t = "bool" ∧ T = "int")))
  | none => none
def dIsTy (T : String) : DV → Option DV := fun d => (isTyD T d).map DV.bl
def tyOk (T : String) : Bool := ["NoneType", "bool", "int", "str", "tuple", "list"].all fun t => kitB t T == some (decide (t = T ∨ (t = "bool" ∧ T = "int")))
section
variable {K : PySem.W.Frag} {G H : Hp}
theorem tyD_ok {v : V} {d : DV} {t : String} (g : Same G H) (r : Rp K G v d) (e : tyD d = some t) : TyX K H v (.type t) := by
  unfold tyD at e
  split at e
  · have e2 := (Option.some.inj e).symm
    subst e2
    have r' : v = .non := r
    subst r'
    exact .base .non
  · rename_i b
    have e2 := (Option.some.inj e).symm
    subst e2
    have r' : v = .bl b := r
    subst r'
    exact .base (.bl b)
  · rename_i i
    have e2 := (Option.some.inj e).symm
    subst e2
    have r' : v = .int i := r
    subst r'
    exact .base (.int i)
  · rename_i x
    have e2 := (Option.some.inj e).symm
    subst e2
    have r' : v = .str x := r
    subst r'
    exact .base (.str x)
  · rename_i ds
    have e2 := (Option.some.inj e).symm
    subst e2
    obtain ⟨a, vs, r1, h, _⟩ := r
    subst r1
    rcases Same.tup g h with (h | ⟨o, h⟩) | ⟨o, its, n, hk, hc, _⟩
    · exact .base (.tup h)
    · exact .fTuple h
    · exact .kTuple hk hc
  · rename_i ds
    have e2 := (Option.some.inj e).symm
    subst e2
    obtain ⟨a, vs, r1, h, _⟩ := r
    subst r1
    exact .base (.lst (g _ _ h))
  · cases e
end
section
variable {X : Cx} {C : Cn} {e : Expr} {f : EF} {x : Str} {p pos pc : Pos}
theorem ev_isTy {te : TE} {T : String} (hT : tyOk T = true) (q1 : EvE X.K C te f) : EvE X.K C (tCB (rIsi X.K) (tCons te (tCons (tC (.ty T)) tNil))) (FD.e1 f (dIsTy T)) := by
  intro G H σ s d s' A e1 Q k
  unfold FD.e1 at e1
  split at e1
  · rename_i d0 s1 e2
    split at e1
    · rename_i z e3
      cases e1
      refine q1 G H σ s _ _ A e2 _ fun v H1 G1 g1 A1 r => ?_
      unfold dIsTy isTyD at e3
      split at e3
      · rename_i t e4
        cases e3
        have hm : t ∈ ["NoneType", "bool", "int", "str", "tuple", "list"] := by
          clear hT e2 r
          cases d0 <;> cases e4 <;> simp
        have hk := List.all_eq_true.mp hT t hm
        have hk2 : kitB t T = some (decide (t = T ∨ (t = "bool" ∧ T = "int"))) := by simpa using hk
        have hk3 := kit_ty (K := X.K) hk2
        have hx := tyD_ok (K := X.K) A1.gh r e4
        have kk := k _ H1 G1 g1 A1 (rfl : Rp X.K G1 (.bl (decide (t = T ∨ (t = "bool" ∧ T = "int")))) (.bl (decide (t = T ∨ (t = "bool" ∧ T = "int")))))
        exact ⟨v, .ty T, .type t, .type T, _, rfl, .ty T, hx, hk3, kk⟩
      · cases e3
    · cases e1
  · cases e1
theorem fe_isTy {T : String} (hm : X.mg "isinstance" = none) (gl : X.mg x = none) (hb : bootBuiltins x = some (.type T)) (hT : tyOk T = true) (h : FE X C e f) (hg : Gl X "isinstance" := by rfl) (hx : Gl X x := by rfl) (hd : (x == ("__debug__" : Str)) = false := by decide)
    (hn : x ≠ "__name__" := by decide) (hs : starEach [e, .Name x pc] X.env = (false, eval e X.env) :: starEach [.Name x pc] X.env := by rfl) (hs2 : starEach [.Name x pc] X.env = (false, eval (.Name x pc) X.env) :: starEach [] X.env := by rfl) (hpl : (backTo pos (starEach [.Name x pc] X.env)).any (·.1) = false := by rfl) :
    FE X C (.Call (.Name "isinstance" p) [e, .Name x pc] [] pos) (FD.e1 f (dIsTy T)) := by
  obtain ⟨te, p1, q1⟩ := h
  refine ⟨_, pe_callB call_isi hg hm (by decide +kernel) (pa_cons p1 (pa_cons (pe_bltn (v := .ty T) hx gl hb rfl hn hd) pa_nil hs2) hs) (he := hs) (hpl := hpl), ?_⟩
  exact ev_isTy hT q1
end
/-! ## sum, min, max of a tuple or a list of ints -/
def intsD : List DV → Option (List Int)
  | [] => some []
  | .int i :: ds => (intsD ds).map (i :: ·)
  | _ => none
theorem intsD_map : ∀ {ds : List DV} {ns : List Int}, intsD ds = some ns → ds = ns.map DV.int
  | [], ns, e => by cases e; rfl
  | .int i :: ds, ns, e => by
    unfold intsD at e
    obtain ⟨ns', e1, rfl⟩ := Option.map_eq_some_iff.mp e
    rw [intsD_map e1]
    rfl
  | .non :: _, _, e | .bl _ :: _, _, e | .str _ :: _, _, e | .tup _ :: _, _, e | .lst _ :: _, _, e | .scr _ :: _, _, e | .raw _ :: _, _, e | .exc _ :: _, _, e => by cases e
def dSum : List DV → Option DV
  | [.tup ds] => (intsD ds).map fun ns => .int ns.sum
  | _ => none
def minI : List Int → Int
  | [] => 0
  | [i] => i
  | i :: j :: r => let m := minI (j :: r); if i ≤ m then i else m
theorem minI_spec : ∀ {ns : List Int}, ns ≠ [] → minI ns ∈ ns ∧ ∀ y ∈ ns, minI ns ≤ y
  | [], h => absurd rfl h
  | [i], _ => by
    refine ⟨List.mem_singleton.mpr rfl, fun y hy => ?_⟩
    rw [List.mem_singleton.mp hy]
    exact Int.le_refl _
  | i :: j :: r, _ => by
    obtain ⟨h1, h2⟩ := minI_spec (ns := j :: r) (by simp)
    show (if i ≤ minI (j :: r) then i else minI (j :: r)) ∈ _ ∧ ∀ y ∈ _, (if i ≤ minI (j :: r) then i else minI (j :: r)) ≤ y
    by_cases z : i ≤ minI (j :: r)
    · rw [if_pos z]
      refine ⟨List.mem_cons_self, fun y hy => ?_⟩
      rcases List.mem_cons.mp hy with w | w
      · omega
      · have := h2 y w
        omega
    · rw [if_neg z]
      refine ⟨List.mem_cons_of_mem _ h1, fun y hy => ?_⟩
      rcases List.mem_cons.mp hy with w | w
      · omega
      · exact h2 y w
def dMin1 : List DV → Option DV
  | [.tup ds] => match intsD ds with
    | some ns => if ns = [] then none else some (.int (minI ns))
    | none => none
  | _ => none
section
variable {prog : Program} {w : World} {A : Around} {E : Value → Shared → Prop} {s : Shared} {l : Addr} {its : List Value} {ns : List Int} {Q : Value → Shared → Prop}
theorem sum_tup (hh : A.handled = none) (hl : s.heap.IsTuple l its.toArray) (hi : IntsAre its ns)
    (h : ∀ h' tk t', (∀ b o, s.heap.get? b = some o → h'.get? b = some o) → Q (.int ns.sum t') { s with heap := h', toks := tk }) : wpAny (model prog w) A (call (.builtin "sum") [.ref l]) Q E s := by
  obtain ⟨xs, e⟩ := hi.allInts.items
  have hn : numsOf (intItems xs).toList = ns := by rw [← e]; exact hi.numsOf
  rw [nums_intItems] at hn
  rw [e] at hl
  refine PySem.W.ktm_sumG hh hl fun h' tk t' hk => ?_
  have := h h' tk t' hk
  rw [preSum_eq, List.take_of_length_le (by simp), hn]; exact this
theorem min_tup (hh : A.handled = none) (hl : s.heap.IsTuple l its.toArray) (hi : IntsAre its ns) (hne : 0 < ns.length)
    (h : ∀ h' tk M t', (∀ b o, s.heap.get? b = some o → h'.get? b = some o) → M ∈ ns → (∀ a, a ∈ ns → M ≤ a) → Q (.int M t') { s with heap := h', toks := tk }) : wpAny (model prog w) A (call (.builtin "min") [.ref l]) Q E s := by
  obtain ⟨xs, e⟩ := hi.allInts.items
  have hn : numsOf (intItems xs).toList = ns := by rw [← e]; exact hi.numsOf
  rw [nums_intItems] at hn
  subst hn
  rw [e] at hl
  have hsz : 0 < xs.size := by simpa using hne
  obtain ⟨o, ho, hc, n, hd⟩ := id hl
  have hlt : l < s.heap.objs.size := Heap.lt_size ho
  have hlI : l ≠ s.heap.objs.size := Nat.ne_of_lt hlt
  refine call_min_walk (wpAny_pyIter_tuple hl ?_)
  refine ⟨_, [_, l], [_], _, _, _, _, rfl, Walks.tuple (A := A.in1) hh _ l hlI (intItems xs), ⟨⟨_, Heap.get?_push_size _ rfl, rfl, rfl⟩, hl.at fun o e => Heap.get?_push_of_some _ e⟩, fun c hc => ?_, by simpa [intItems] using hsz, CmpOf.ints_lt (numAt xs) (fun _ _ => intItems_at), fun v h' tk hP hk => ?_⟩
  · rcases List.mem_cons.mp hc with rfl | hc
    · exact Heap.lt_size (Heap.get?_push_size _ rfl)
    · obtain rfl := List.mem_singleton.mp hc
      exact Heap.lt_size (Heap.get?_push_of_some _ ho)
  · have hold : ∀ c o, s.heap.get? c = some o → h'.get? c = some o := fun c o e => hk c o (fun hm => absurd (Heap.lt_size e) ((List.mem_singleton.mp hm) ▸ Nat.lt_irrefl _)) (Heap.get?_push_of_some _ e)
    have hP' : (intItems xs)[argBest (fun i j => decide (numAt xs i < numAt xs j)) (xs.size - 1)]? = some v := by simpa [intItems] using hP
    obtain ⟨t, rfl⟩ := intItems_at hP'
    obtain ⟨h1, h2⟩ := argBest_lt (numAt xs) (xs.size - 1)
    refine h h' tk _ t hold ?_ fun a ha => ?_
    · rw [numAt_eq]; exact PySem.getD_mem (by rw [List.length_map, Array.length_toList]; omega)
    · obtain ⟨j, hj, rfl⟩ := mem_getD ha
      rw [List.length_map, Array.length_toList] at hj
      rw [← numAt_eq]; exact h2 j (by omega)
end
def rSumT (K : PySem.W.Frag) : List V → Hp → VK → Prop := fun vs H Q => ∃ (a : Addr) (ns : List Int), vs = [V.ref a] ∧ SqT K H a (ns.map V.int) ∧ Q (.int ns.sum) H
def rMinT (K : PySem.W.Frag) : List V → Hp → VK → Prop := fun vs H Q => ∃ (a : Addr) (ns : List Int), vs = [V.ref a] ∧ SqT K H a (ns.map V.int) ∧ ns ≠ [] ∧ Q (.int (minI ns)) H
section
variable {X : Cx} {C : Cn} {e : Expr} {ff : AF} {p pos : Pos}
theorem cr_sumT (hc : X.calm = true) : CallR X (.builtin "sum") (rSumT X.K) := by
  intro pins s σ H vs us Q I r h
  obtain ⟨a, ns, rfl, hs, q⟩ := h
  obtain ⟨its, rv, hl, _⟩ := I.tuple hs
  rw [Vals.ref1 r]
  exact sum_tup (I.ok.hd hc) hl rv.ints fun h' tk t' hk => ⟨.int _, H, I.kept hk, ⟨_, rfl⟩, q⟩
theorem cr_minT (hc : X.calm = true) : CallR X (.builtin "min") (rMinT X.K) := by
  intro pins s σ H vs us Q I r h
  obtain ⟨a, ns, rfl, hs, hne, q⟩ := h
  obtain ⟨its, rv, hl, _⟩ := I.tuple hs
  rw [Vals.ref1 r]
  obtain ⟨k1, k2⟩ := minI_spec hne
  refine min_tup (I.ok.hd hc) hl rv.ints (List.length_pos_iff.mpr hne) fun h' tk m t' hk h1 h2 => ?_
  have e : m = minI ns := Int.le_antisymm (h2 _ k1) (k2 _ h1)
  subst e
  exact ⟨.int _, H, I.kept hk, ⟨_, rfl⟩, q⟩
theorem o_sumT {K : PySem.W.Frag} : OpA K (rSumT K) dSum := by
  intro C G H σ s vs ds d A r ho Q q
  unfold dSum at ho
  split at ho
  · rename_i ds
    obtain ⟨ns, e, rfl⟩ := Option.map_eq_some_iff.mp ho
    obtain ⟨v, rfl, rv⟩ := r.single
    obtain ⟨a, us, rfl, h1, h2⟩ := rv
    rw [intsD_map e] at h2
    have := h2.ints'
    subst this
    exact ⟨a, ns, rfl, Same.tup A.gh h1, q _ H G (Fw.refl A.gh) rfl⟩
  · cases ho
theorem o_minT {K : PySem.W.Frag} : OpA K (rMinT K) dMin1 := by
  intro C G H σ s vs ds d A r ho Q q
  unfold dMin1 at ho
  split at ho
  · rename_i ds
    split at ho
    · rename_i ns e
      split at ho
      · cases ho
      · rename_i hne
        cases ho
        obtain ⟨v, rfl, rv⟩ := r.single
        obtain ⟨a, us, rfl, h1, h2⟩ := rv
        rw [intsD_map e] at h2
        have := h2.ints'
        subst this
        exact ⟨a, ns, rfl, Same.tup A.gh h1, hne, q _ H G (Fw.refl A.gh) rfl⟩
    · cases ho
  · cases ho
theorem fe_sum (hc : X.calm = true) (hm : X.mg "sum" = none) (ha : FA X C [e] ff) (hg : Gl X "sum" := by rfl) (he : starEach [e] X.env = (false, eval e X.env) :: starEach [] X.env := by rfl) : FE X C (.Call (.Name "sum" p) [e] [] pos) (eA ff dSum) := fe_callB (cr_sumT hc) o_sumT hm (by decide +kernel) ha hg (he := he)
theorem fe_min1 (hc : X.calm = true) (hm : X.mg "min" = none) (ha : FA X C [e] ff) (hg : Gl X "min" := by rfl) (he : starEach [e] X.env = (false, eval e X.env) :: starEach [] X.env := by rfl) : FE X C (.Call (.Name "min" p) [e] [] pos) (eA ff dMin1) := fe_callB (cr_minT hc) o_minT hm (by decide +kernel) ha hg (he := he)
end
end FD
namespace FD
theorem ok_tuple : tyOk "tuple" = true := by decide +kernel
theorem ok_list : tyOk "list" = true := by decide +kernel
theorem ok_int : tyOk "int" = true := by decide +kernel
theorem ok_bool : tyOk "bool" = true := by decide +kernel
theorem ok_str : tyOk "str" = true := by decide +kernel
end FD

set_option maxRecDepth 100000
set_option maxHeartbeats 4000000
set_option exponentiation.threshold 30000
namespace T4
open PySem L2 FD
local macro_rules | `(tactic| walk_at "fd") => `(tactic| simp only [bodyP, bodyS, sSeq, sIf, sNx, sRt, sAsg, sDr, sPar, sAug, tBl, tTr, tAn, tOo, tNo, eC, eV, eA, eIf, eAn, eOo, eNo, e1, e2, eIxN, FD.peek, aCons, aNil, gNm, gTp, gCo, gNi, dI, dAddI, dMulI, dAdd, dSub, dMul, dFdiv, dMod, dNeg, dGcd, dMax, dMin, dAbs, dSq, dEq_int, dNe_int, dIx, oTup, truD, List.length_cons, List.length_nil, List.map_cons, List.map_nil, List.cons_append, List.nil_append, List.replicate_succ, List.replicate_zero, List.getElem?_cons_zero, List.getElem?_cons_succ, List.set_cons_succ, List.set_cons_zero, Nat.reduceAdd, Nat.reduceSub, Nat.sub_self, if_true, decide_true, decide_false, Bool.not_true, Bool.not_false, Bool.false_eq_true, if_false, reduceCtorEq, *])

/-! ## texts of one letter -/
theorem dEq_txt {a b : Str} {r : Bool} (h1 : SeqAt.shaped (.str a) = true) (h2 : SeqAt.shaped (.str b) = true) (h3 : (PyData.str a).eqv (.str b) = r) : dEq (.str a) (.str b) = some (.bl r) := by
  have e1 : toPy (.str a) = some (.str a) := rfl
  have e2 : toPy (.str b) = some (.str b) := rfl
  unfold dEq
  simp only [e1, e2, h1, h2, h3, Bool.and_self, if_true]
theorem dNe_txt {a b : Str} {r : Bool} (h1 : SeqAt.shaped (.str a) = true) (h2 : SeqAt.shaped (.str b) = true) (h3 : (PyData.str a).eqv (.str b) = r) : dNe (.str a) (.str b) = some (.bl (!r)) := by
  have e1 : toPy (.str a) = some (.str a) := rfl
  have e2 : toPy (.str b) = some (.str b) := rfl
  unfold dNe
  simp only [e1, e2, h1, h2, h3, Bool.and_self, if_true]
theorem sh_a : SeqAt.shaped (.str "a") = true := by decide +kernel
theorem sh_b : SeqAt.shaped (.str "b") = true := by decide +kernel
theorem eq_bb : dEq (.str "b") (.str "b") = some (.bl true) := dEq_txt sh_b sh_b (by decide +kernel)
theorem eq_ab : dEq (.str "a") (.str "b") = some (.bl false) := dEq_txt sh_a sh_b (by decide +kernel)
theorem ne_bb : dNe (.str "b") (.str "b") = some (.bl false) := dNe_txt (r := true) sh_b sh_b (by decide +kernel)
theorem ne_aa : dNe (.str "a") (.str "a") = some (.bl false) := dNe_txt (r := true) sh_a sh_a (by decide +kernel)
section
variable {e : Int} {x : Num}
theorem Good.of {b : Nat} (h : Can e x) (hs : SzN b x) : Good b b e x := ⟨h.1, h.2.2, h.2.1, hs.1, hs.2.1, hs.2.2.2⟩
theorem mulL_can {y : Num} (he : 0 < e) (hx : Can e x) (hy : Can e y) : mulL x y = mulN x y := by
  unfold mulL mulN
  refine lowL_eq ?_
  rcases root_can he hx hy with h | ⟨h, h'⟩
  · exact .inr (by omega)
  · exact .inl (by rw [h, h']; simp)
theorem invL_can (he : 0 < e) (hx : Can e x) : invL x = invN x := by
  unfold invL invN
  have e1 : (0 : Int) - x.2.1 * x.2.2.2 = -x.2.1 * x.2.2.2 := by rw [Int.neg_mul]; omega
  rw [e1]
  refine lowL_eq ?_
  by_cases z : x.2.1 = 0
  · exact .inl (by rw [z]; simp)
  · exact .inr (by rw [hx.2.2, if_neg z]; omega)
theorem mul_law {y : Num} (he : 0 < e) (hx : Can e x) (hy : Can e y) (sx : SzN 4000 x) (sy : SzN 4000 y) (dx : x.2.2.1.natAbs < 2 ^ 40) (dy : y.2.2.1.natAbs < 2 ^ 40) : m_law_multiply [nm x, nm y] = some (nm (mulN x y)) := by
  have ok : okQ x y := ⟨dx, dy, by have := hx.1; omega, by have := hy.1; omega, sx, sy⟩
  rw [← mulL_can he hx hy]
  exact if_pos ok
theorem Ra.d40 (h : Ra e x) : x.2.2.1.natAbs < 2 ^ 40 := by
  rw [h.g.dd]
  split
  · exact Nat.two_pow_pos _
  · exact h.rt.sz
theorem can_d40 (h : Can e x) (rt : Rt e) : x.2.2.1.natAbs < 2 ^ 40 := by
  rw [h.2.2]
  split
  · exact Nat.two_pow_pos _
  · exact rt.sz
/-- the number of the index, times the ratio -/
theorem Ra.timesRep (h : Ra e x) (j : Int) : Rep e (mulN x (j, 0, 0, 1)) (j * x.1) (j * x.2.1) x.2.2.2 := by
  have := rep_mul h.rt.pos (rep_self h.g.can) (rep_self (can_int e j))
  simp only [Int.mul_one, Int.mul_zero, Int.zero_mul, Int.add_zero, Int.zero_add] at this
  rw [Int.mul_comm j x.1, Int.mul_comm j x.2.1]
  exact this
theorem Ra.timesRep' (h : Ra e x) (j : Int) : Rep e (mulN (j, 0, 0, 1) x) (j * x.1) (j * x.2.1) x.2.2.2 := by
  have := rep_mul h.rt.pos (rep_self (can_int e j)) (rep_self h.g.can)
  simp only [Int.one_mul, Int.zero_mul, Int.add_zero] at this
  exact this
theorem Ra.timesSz (h : Ra e x) {j : Int} (hj : j.natAbs < 2 ^ 150) : SzN 451 (mulN x (j, 0, 0, 1)) ∧ SzN 451 (mulN (j, 0, 0, 1) x) :=
  ⟨mulN_sz (b := 150) (h.sz.up (by decide)) (one_sz hj (by decide)) h.s0 Int.one_ne_zero, mulN_sz (b := 150) (one_sz hj (by decide)) (h.sz.up (by decide)) Int.one_ne_zero h.s0⟩
def b_law_times_of : SF :=
  sRt (eA (aCons (eA (aCons (eV 0) (aCons (eA (aCons (eV 1) (aCons (eC (.int 0)) (aCons (eC (.int 0)) (aCons (eC (.int 1)) (aNil))))) oTup) (aNil))) m_law_multiply) (aNil)) m_law_whole_part)
def m_law_times_of : List DV → Option DV := bodyP 2 2 b_law_times_of
theorem t_law_times_of : ∀ ds d, m_law_times_of ds = some d → bodyP 2 2 b_law_times_of ds = some d := fun _ _ h => h
theorem times_of_ok (h : Ra e x) {j : Int} (hj : j.natAbs < 2 ^ 150) : m_law_times_of [nm x, .int j] = some (.int (flo (j * x.1) (j * x.2.1) e x.2.2.2)) := by
  have c1 : m_law_multiply [nm x, nm (j, 0, 0, 1)] = _ := mul_law h.rt.pos h.g.can (can_int e j) (h.sz.up (by decide)) ((one_sz hj (by decide)).up (by decide)) h.d40 (Nat.two_pow_pos _)
  have r := h.timesRep j
  have g : Good 1000 1000 e (mulN x (j, 0, 0, 1)) := Good.of r.1 ((h.timesSz hj).1.up (by decide))
  have c2 := whole_at g h.rt
  rw [rep_flo r h.g.s0 (Int.le_of_lt h.rt.pos)] at c2
  have k4 := four_le
  have c1' : m_law_multiply [nm x, .tup [.int j, .int 0, .int 0, .int 1]] = _ := c1
  clear h hj c1 r g
  unfold m_law_times_of b_law_times_of
  walk_at "fd"
def b_law_place_of_b : SF :=
  sRt (e2 (eV 1) (eA (aCons (eV 0) (aCons (eV 1) (aNil))) m_law_times_of) dAdd)
def m_law_place_of_b : List DV → Option DV := bodyP 2 2 b_law_place_of_b
theorem t_law_place_of_b : ∀ ds d, m_law_place_of_b ds = some d → bodyP 2 2 b_law_place_of_b ds = some d := fun _ _ h => h
theorem place_b_law (h : Ra e x) {j : Int} (hj : j.natAbs < 2 ^ 150) : m_law_place_of_b [nm x, .int j] = some (.int (GB e x j)) := by
  have c1 := times_of_ok h hj
  unfold GB
  clear h hj
  unfold m_law_place_of_b b_law_place_of_b
  walk_at "fd"
theorem Ra.norm (h : Ra e x) : x.1 * x.1 - x.2.1 * x.2.1 * e ≠ 0 := norm_ne h.irr (sg_one h.pos)
def GA (x : Num) (i : Int) : Int := i + ceilN (mulN (i, 0, 0, 1) (invN x)) - 1
theorem inv_two (h : Ra e x) (i : Int) : mulN (invN x) (i, 0, 0, 1) = mulN (i, 0, 0, 1) (invN x) := by
  have ri := rep_inv h.g.can h.norm
  refine rep_eq (rep_mul h.rt.pos (rep_self ri.1) (rep_self (can_int e i))) (rep_mul h.rt.pos (rep_self (can_int e i)) (rep_self ri.1)) ?_ ?_ <;> dsimp only <;> grind
theorem Ra.invSz (h : Ra e x) : SzN 241 (invN x) := invN_sz h.sz (norm_can h.g.can h.norm)
theorem Ra.invMul (h : Ra e x) {i : Int} (hi : i.natAbs < 2 ^ 150) : Good 1000 1000 e (mulN (i, 0, 0, 1) (invN x)) ∧ SzN 724 (mulN (i, 0, 0, 1) (invN x)) := by
  have ri := rep_inv h.g.can h.norm
  have i0 : (invN x).2.2.2 ≠ 0 := by have := ri.1.1; omega
  have z := mulN_sz (b := 241) (one_sz (lt_up hi) (by decide)) h.invSz Int.one_ne_zero i0
  exact ⟨Good.of (rep_mul h.rt.pos (rep_self (can_int e i)) (rep_self ri.1)).1 (z.up (by decide)), z⟩
def b_law_place_of_a : SF :=
  sSeq (sAsg (eA (aCons (eA (aCons (eA (aCons (eV 0) (aNil)) m_law_inverse) (aCons (eA (aCons (eV 1) (aCons (eC (.int 0)) (aCons (eC (.int 0)) (aCons (eC (.int 1)) (aNil))))) oTup) (aNil))) m_law_multiply) (aNil)) m_law_negative) (gNm 2))
  (sRt (e2 (e2 (eV 1) (eA (aCons (eV 2) (aNil)) m_law_whole_part) dSub) (eC (.int 1)) dSub))
def m_law_place_of_a : List DV → Option DV := bodyP 2 3 b_law_place_of_a
theorem t_law_place_of_a : ∀ ds d, m_law_place_of_a ds = some d → bodyP 2 3 b_law_place_of_a ds = some d := fun _ _ h => h
theorem place_a_law (h : Ra e x) {i : Int} (hi : i.natAbs < 2 ^ 150) : m_law_place_of_a [nm x, .int i] = some (.int (GA x i)) := by
  have ri := rep_inv h.g.can h.norm
  have c1 : m_law_inverse [nm x] = some (nm (invN x)) := by
    rw [← invL_can h.rt.pos h.g.can]
    exact if_pos ⟨norm_can h.g.can h.norm, h.sz.up (by decide), h.d40⟩
  have c2 : m_law_multiply [nm (invN x), nm (i, 0, 0, 1)] = _ := mul_law h.rt.pos ri.1 (can_int e i) (h.invSz.up (by decide)) ((one_sz hi (by decide)).up (by decide)) (can_d40 ri.1 h.rt) (Nat.two_pow_pos _)
  rw [inv_two h] at c2
  obtain ⟨g, _⟩ := h.invMul hi
  have c3 := neg_law (mulN (i, 0, 0, 1) (invN x))
  have c4 := whole_at (neg_good g) h.rt
  have e5 : GA x i = i - flo (0 - (mulN (i, 0, 0, 1) (invN x)).1) (0 - (mulN (i, 0, 0, 1) (invN x)).2.1) (mulN (i, 0, 0, 1) (invN x)).2.2.1 (mulN (i, 0, 0, 1) (invN x)).2.2.2 - 1 := by
    unfold GA ceilN
    rw [Int.zero_sub, Int.zero_sub]
    omega
  have k4 := four_le
  have c2' : m_law_multiply [nm (invN x), .tup [.int i, .int 0, .int 0, .int 1]] = _ := c2
  rw [e5]
  clear h hi g ri c2 e5
  generalize mulN (i, 0, 0, 1) (invN x) = z at *
  unfold m_law_place_of_a b_law_place_of_a
  walk_at "fd"
def b_place_of : SF :=
  sSeq (sIf (tBl (e2 (eV 1) (eC (.str "b")) dEq)) (sRt (e2 (eV 2) (eA (aCons (eA (aCons (eA (aCons (eV 2) (aNil)) m_whole) (aCons (eV 0) (aNil))) m_times) (aNil)) m_floor) dAdd)) (sNx))
  (sRt (e2 (e2 (eV 2) (eA (aCons (eA (aCons (eA (aCons (eV 2) (aNil)) m_whole) (aCons (eV 0) (aNil))) m_over) (aNil)) m_ceiling) dAdd) (eC (.int 1)) dSub))
def m_place_of : List DV → Option DV := bodyP 3 3 b_place_of
theorem t_place_of : ∀ ds d, m_place_of ds = some d → bodyP 3 3 b_place_of ds = some d := fun _ _ h => h
theorem place_b_prog (h : Ra e x) {i : Int} (hi : i.natAbs < 2 ^ 150) : m_place_of [nm x, .str "b", .int i] = some (.int (GB e x i)) := by
  have r := h.timesRep' i
  have z := (h.timesSz hi).2
  have c0 : m_whole [.int i] = some (nm (i, 0, 0, 1)) := rfl
  have c1 : m_times [nm (i, 0, 0, 1), nm x] = some (nm (mulN (i, 0, 0, 1) x)) := if_pos ⟨.inr (.inl rfl), Int.one_ne_zero, h.s0, (one_sz hi (by decide)).up (by decide), h.sz.up (by decide)⟩
  have c2 : m_floor [nm (mulN (i, 0, 0, 1) x)] = some (.int (flo (i * x.1) (i * x.2.1) e x.2.2.2)) := by
    rw [← rep_flo r h.g.s0 (Int.le_of_lt h.rt.pos)]
    have ok : okFl (mulN (i, 0, 0, 1) x).1 (mulN (i, 0, 0, 1) x).2.1 (mulN (i, 0, 0, 1) x).2.2.1 (mulN (i, 0, 0, 1) x).2.2.2 :=
      ⟨by have := r.1.1; omega, Int.mul_nonneg (sq_nn _) (can_d r.1 h.rt.pos), lt_up z.1, lt_up z.2.1, lt_up z.2.2.1, lt_up z.2.2.2⟩
    unfold m_floor nm
    dsimp only
    rw [if_pos ok]
  have k := eq_bb
  unfold GB
  clear h hi r z
  unfold m_place_of b_place_of
  walk_at "fd"
theorem place_a_prog (h : Ra e x) {i : Int} (hi : i.natAbs < 2 ^ 150) : m_place_of [nm x, .str "a", .int i] = some (.int (GA x i)) := by
  have ri := rep_inv h.g.can h.norm
  have i0 : (invN x).2.2.2 ≠ 0 := by have := ri.1.1; omega
  obtain ⟨g, z⟩ := h.invMul hi
  have c0 : m_whole [.int i] = some (nm (i, 0, 0, 1)) := rfl
  have c1 : m_over [nm (i, 0, 0, 1), nm x] = some (nm (mulN (i, 0, 0, 1) (invN x))) := by
    refine if_pos ⟨?_, norm_can h.g.can h.norm, h.sz.up (by decide), .inr (.inl rfl), Int.one_ne_zero, i0, (one_sz (lt_up hi) (by decide) : SzN 4000 _), h.invSz.up (by decide)⟩
    refine Classical.byContradiction fun w => ?_
    rw [not_or] at w
    have p0 := Classical.not_not.mp w.1
    have q0 := Classical.not_not.mp w.2
    exact h.norm (by rw [p0, q0]; simp)
  have c2 := ceil_ok z (by decide) (by have := g.s0; omega) (can_d g.can h.rt.pos)
  have k := eq_ab
  unfold GA
  clear h hi ri i0 g z
  unfold m_place_of b_place_of
  walk_at "fd"
end
end T4

set_option maxRecDepth 100000
set_option maxHeartbeats 4000000
set_option exponentiation.threshold 30000
namespace T4
open PySem L2 FD
local macro_rules | `(tactic| walk_at "fd") => `(tactic| simp only [bodyP, bodyS, sSeq, sIf, sNx, sRt, sAsg, sDr, sPar, sAug, tBl, tTr, tAn, tOo, tNo, eC, eV, eA, eIf, eAn, eOo, eNo, e1, e2, eIxN, FD.peek, aCons, aNil, gNm, gTp, gCo, gNi, dI, dAddI, dMulI, dAdd, dSub, dMul, dFdiv, dMod, dNeg, dGcd, dMax, dMin, dAbs, dSq, dEq_int, dNe_int, dIx, oTup, truD, List.length_cons, List.length_nil, List.map_cons, List.map_nil, List.cons_append, List.nil_append, List.replicate_succ, List.replicate_zero, List.getElem?_cons_zero, List.getElem?_cons_succ, List.set_cons_succ, List.set_cons_zero, Nat.reduceAdd, Nat.reduceSub, Nat.sub_self, if_true, decide_true, decide_false, Bool.not_true, Bool.not_false, Bool.false_eq_true, if_false, reduceCtorEq, *])

/-! ## drawn ratios -/
theorem dNe_two' (p q d s : Int) : dSl (.tup [.int p, .int q, .int d, .int s]) none (some 2) = some (.tup [.int p, .int q]) := rfl
theorem ra_default : Ra 5 (1, 1, 5, 2) where
  g := ⟨by decide, rfl, by decide, by decide, by decide, by decide⟩
  rt := by unfold Rt; omega
  pos := by decide
theorem Ra.small {e : Int} {x : Num} {b : Nat} (g : Good b b e x) (rt : Rt e) (pos : 0 < sgS x.1 x.2.1 e) (hb : b ≤ 80) : Ra e x := ⟨g.up hb hb, rt, pos⟩
def b_law_drawn_ratio : SF :=
  sSeq (sAsg (eS 0 (aCons (eA (aCons (eC (.int 2)) (aCons (eC (.int 3)) (aCons (eC (.int 5)) (aCons (eC (.int 5)) (aCons (eC (.int 6)) (aCons (eC (.int 7)) (aCons (eC (.int 13)) (aCons (eC (.int 21)) (aNil))))))))) oLst) (aNil)) m_law_choice) (gNm 1))
  (sSeq (sAsg (eS 0 (aCons (eV 1) (aCons (eS 0 (aCons (eA (aCons (eC (.int 1)) (aCons (eC (.int 2)) (aCons (eC (.int 3)) (aCons (eC (.int 5)) (aNil))))) oLst) (aNil)) m_law_choice) (aNil))) m_law_drawn) (gNm 2))
  (sSeq (sIf (tBl (e2 (eA (aCons (eV 2) (aNil)) m_law_sign_of) (eC (.int 0)) dLt)) (sAsg (eA (aCons (eV 2) (aNil)) m_law_negative) (gNm 2)) (sNx))
  (sRt (eIf (tBl (e2 (eSlN 2 (oNo) (oSo (eC (.int 2)))) (eA (aCons (eC (.int 0)) (aCons (eC (.int 0)) (aNil))) oTup) dNe)) (eV 2) (eA (aCons (eC (.int 1)) (aCons (eC (.int 1)) (aCons (eC (.int 5)) (aCons (eC (.int 2)) (aNil))))) oTup)))))
def m_law_drawn_ratio : List DV → Spl → Option (DV × Spl) := bodyS 1 3 b_law_drawn_ratio
theorem t_law_drawn_ratio : ∀ ds s d, m_law_drawn_ratio ds s = some d → bodyS 1 3 b_law_drawn_ratio ds s = some d := fun _ _ _ h => h
theorem drawn_ratio_ok {n : Nat} {sp : Spl} (hp : Pl n sp) (hn : n ≤ 50000) : ∃ x e sp', m_law_drawn_ratio [] sp = some (nm x, sp') ∧ Good 40 40 e x ∧ Rt e ∧ 0 < sgS x.1 x.2.1 e ∧ Pl (n + 10) sp' := by
  obtain ⟨v, c1, hv⟩ := choice_at [.int 2, .int 3, .int 5, .int 5, .int 6, .int 7, .int 13, .int 21] sp n hp (by omega) (by simp) (by simp)
  have c1' : m_law_choice [.lst [.int 2, .int 3, .int 5, .int 5, .int 6, .int 7, .int 13, .int 21]] sp = some (v, upS sp 8) := c1
  clear c1
  obtain ⟨d, rfl, rd⟩ : ∃ d : Int, v = .int d ∧ Rt d := by
    simp only [List.mem_cons, List.not_mem_nil, or_false] at hv
    rcases hv with h | h | h | h | h | h | h | h <;> exact ⟨_, h, by unfold Rt; omega⟩
  clear hv
  have p1 := pl_up (b := 8) hp
  generalize upS sp 8 = sp1 at *
  obtain ⟨v, c2, hv⟩ := choice_at [.int 1, .int 2, .int 3, .int 5] sp1 _ p1 (by omega) (by simp) (by simp)
  have c2' : m_law_choice [.lst [.int 1, .int 2, .int 3, .int 5]] sp1 = some (v, upS sp1 4) := c2
  clear c2
  obtain ⟨size, rfl, z1, z2⟩ : ∃ z : Int, v = .int z ∧ 0 < z ∧ z ≤ 5 := by
    simp only [List.mem_cons, List.not_mem_nil, or_false] at hv
    rcases hv with h | h | h | h <;> exact ⟨_, h, by decide, by decide⟩
  clear hv
  have p2 := pl_up (b := 4) p1
  generalize upS sp1 4 = sp2 at *
  obtain ⟨x, sp3, c3, g0, p3⟩ := drawn_ok (c := 40) (d := d) (size := size) p2 (by omega) (by have := rd.pos; omega) z1 (by omega) (by omega)
  have c4 := sign_law (g0.up (by decide) (by decide) : Good 1000 1000 d x) rd
  rw [sg_can g0.can] at c4
  have k8 : (8 : Nat) ≤ sizeLine := by decide
  have k4 : (4 : Nat) ≤ sizeLine := by decide
  have k2 : (2 : Nat) ≤ sizeLine := by decide
  by_cases neg : sgS x.1 x.2.1 d < 0
  · have d1 : decide (sgS x.1 x.2.1 d < 0) = true := decide_eq_true neg
    have c5 := neg_law x
    have g1 := neg_good g0
    have s1 : 0 < sgS (0 - x.1) (0 - x.2.1) d := by rw [Int.zero_sub, Int.zero_sub, sg_negs]; omega
    have nz : ¬ ((0 - x.1) = 0 ∧ (0 - x.2.1) = 0) := fun w => by rw [w.1, w.2, sg_zero] at s1; omega
    have c6 := dNe_two (0 - x.1) (0 - x.2.1)
    rw [decide_eq_false nz] at c6
    have c7 := dNe_two' (0 - x.1) (0 - x.2.1) x.2.2.1 x.2.2.2
    have en : nm (0 - x.1, 0 - x.2.1, x.2.2.1, x.2.2.2) = .tup [.int (0 - x.1), .int (0 - x.2.1), .int x.2.2.1, .int x.2.2.2] := rfl
    refine ⟨(0 - x.1, 0 - x.2.1, x.2.2.1, x.2.2.2), d, sp3, ?_, g1, rd, s1, by unfold Pl at *; omega⟩
    rw [en] at c5 ⊢
    clear hp hn p1 p2 p3 z1 z2 g0 neg g1 s1 nz rd en
    unfold m_law_drawn_ratio b_law_drawn_ratio
    simp only [bodyS, sSeq, sIf, sNx, sRt, sAsg, eS, tBl, eC, eV, eA, eIf, e2, eSlN, FD.peek, oNo, oSo, aCons, aNil, gNm, dI, oTup, oLst, List.length_cons, List.length_nil, List.map_cons, List.map_nil, List.cons_append, List.nil_append, List.replicate_succ, List.replicate_zero, List.getElem?_cons_zero, List.getElem?_cons_succ, List.set_cons_succ, List.set_cons_zero, Nat.reduceAdd, Nat.reduceSub, Nat.sub_self, if_true, c1', c2', c3, c4, c5, c6, c7, d1, k8, k4, k2, Bool.not_false, Bool.not_true]
  · have d1 : decide (sgS x.1 x.2.1 d < 0) = false := decide_eq_false neg
    have c6 := dNe_two x.1 x.2.1
    have c7 := dNe_two' x.1 x.2.1 x.2.2.1 x.2.2.2
    have en : nm x = .tup [.int x.1, .int x.2.1, .int x.2.2.1, .int x.2.2.2] := rfl
    by_cases z : x.1 = 0 ∧ x.2.1 = 0
    · rw [decide_eq_true z] at c6
      refine ⟨(1, 1, 5, 2), 5, sp3, ?_, ⟨by decide, rfl, by decide, by decide, by decide, by decide⟩, ra_default.rt, ra_default.pos, by unfold Pl at *; omega⟩
      have e2' : nm (1, 1, 5, 2) = .tup [.int 1, .int 1, .int 5, .int 2] := rfl
      rw [e2']
      rw [en] at c3 c4
      clear hp hn p1 p2 p3 z1 z2 g0 neg z rd en e2'
      unfold m_law_drawn_ratio b_law_drawn_ratio
      simp only [bodyS, sSeq, sIf, sNx, sRt, sAsg, eS, tBl, eC, eV, eA, eIf, e2, eSlN, FD.peek, oNo, oSo, aCons, aNil, gNm, dI, oTup, oLst, List.length_cons, List.length_nil, List.map_cons, List.map_nil, List.cons_append, List.nil_append, List.replicate_succ, List.replicate_zero, List.getElem?_cons_zero, List.getElem?_cons_succ, List.set_cons_succ, List.set_cons_zero, Nat.reduceAdd, Nat.reduceSub, Nat.sub_self, if_true, c1', c2', c3, c4, c6, c7, d1, k8, k4, k2, Bool.not_false, Bool.not_true]
    · rw [decide_eq_false z] at c6
      have s1 : 0 < sgS x.1 x.2.1 d := by
        rcases sg_tri x.1 x.2.1 d with w | w | w
        · omega
        · exact absurd (sg_0 ⟨Int.le_of_lt rd.pos, .inr ⟨rd.pos, rd.irr⟩⟩ w) z
        · omega
      refine ⟨x, d, sp3, ?_, g0, rd, s1, by unfold Pl at *; omega⟩
      rw [en] at c3 c4 ⊢
      clear hp hn p1 p2 p3 z1 z2 g0 neg z rd en s1
      unfold m_law_drawn_ratio b_law_drawn_ratio
      simp only [bodyS, sSeq, sIf, sNx, sRt, sAsg, eS, tBl, eC, eV, eA, eIf, e2, eSlN, FD.peek, oNo, oSo, aCons, aNil, gNm, dI, oTup, oLst, List.length_cons, List.length_nil, List.map_cons, List.map_nil, List.cons_append, List.nil_append, List.replicate_succ, List.replicate_zero, List.getElem?_cons_zero, List.getElem?_cons_succ, List.set_cons_succ, List.set_cons_zero, Nat.reduceAdd, Nat.reduceSub, Nat.sub_self, if_true, c1', c2', c3, c4, c6, c7, d1, k8, k4, k2, Bool.not_false, Bool.not_true]
/-- a ratio times a fraction -/
theorem scaled_ratio {e : Int} {x : Num} (g : Good 40 40 e x) (rt : Rt e) (pos : 0 < sgS x.1 x.2.1 e) {a b : Int} (ha : 0 < a) (hb : 0 < b) (za : a.natAbs < 2 ^ 38) (zb : b.natAbs < 2 ^ 38) (hg : gc a 0 b = 1) :
    m_law_multiply [nm x, nm (a, 0, 0, b)] = some (nm (mulN x (a, 0, 0, b))) ∧ Ra e (mulN x (a, 0, 0, b)) := by
  have cy : Can e (a, 0, 0, b) := ⟨hb, hg, rfl⟩
  have sx : SzN 40 x := ⟨g.zp, g.zq, can_d40 g.can rt, g.zs⟩
  have sy : SzN 38 (a, 0, 0, b) := ⟨za, Nat.two_pow_pos _, Nat.two_pow_pos _, zb⟩
  have r := rep_mul rt.pos (rep_self g.can) (rep_self cy)
  simp only [Int.mul_zero, Int.zero_mul, Int.add_zero, Int.zero_add] at r
  refine ⟨mul_law rt.pos g.can cy (sx.up (by decide)) (sy.up (by decide)) (can_d40 g.can rt) (Nat.two_pow_pos _), ⟨?_, rt, ?_⟩⟩
  · have e1 : mulN x (a, 0, 0, b) = low (x.1 * a) (x.2.1 * a) (rootOf x.2.2.1 0) (x.2.2.2 * b) := by
      unfold mulN
      simp only [Int.mul_zero, Int.zero_mul, Int.add_zero, Int.zero_add]
    have z := low_sz (b := 80) (c := 80) (e := rootOf x.2.2.1 0) (p := x.1 * a) (q := x.2.1 * a) (s := x.2.2.2 * b) (Int.mul_ne_zero (by have := g.s0; omega) (by omega)) (lt_up (mul_lt g.zp za)) (lt_up (mul_lt g.zq za)) (lt_up (mul_lt g.zs zb))
    rw [← e1] at z
    exact ⟨r.1.1, r.1.2.2, r.1.2.1, z.zp, z.zq, z.zs⟩
  · rw [← sg_can r.1, rep_sg r (Int.mul_pos g.s0 hb), sg_scale (k := 1) (m := a) Int.one_pos ha (P' := x.1) (Q' := x.2.1) (by grind) (by grind)]
    exact pos
theorem seq_nx {a b : SF} {s s1 : S} (h : a s = some (.nx s1)) : sSeq a b s = b s1 := by
  unfold sSeq
  rw [h]
theorem pl_le {m n : Nat} {s : Spl} (h : Pl m s) (hm : m ≤ n) : Pl n s := by unfold Pl at *; omega
theorem alike_pair {m n : Int} (h : m.natAbs < 2 ^ 4000) (k : n.natAbs < 2 ^ 4000) : m_law_alike [.lst [.int m, .int n], .lst [.int m, .int n]] = some (.bl true) := by
  refine alike_of (p := .list [.int m, .int n]) rfl ?_ rfl (by simp [PyData.depth, PyData.depthAll]) (by simp [wid, wids])
  simp only [okW, okWs, log_sz h, log_sz k, Bool.and_self]
end T4

set_option maxRecDepth 100000
set_option maxHeartbeats 4000000
namespace FD
open PySem PySem.Spec PyProof.Rows L2
/-! ## enumerate of a text -/
def IteS (x : Str) : It :=
  ⟨fun i _ => i < x.cps.size, fun i H v H' => ∃ T c, v = .ref T ∧ H T = none ∧ H' = upd H T (.tup [.int (i : Nat), .str ⟨#[c]⟩]) ∧ x.cps[i]? = some c, fun i _ => x.cps.size ≤ i⟩
theorem draws_str {P : Program} {w : World} {A : Around} (hh : A.handled = none) (it : Addr) (x : Str) (t : Tok) : Draws P w A it [it] x.cps.size (fun i v => ∃ c u, x.cps[i]? = some c ∧ v = .str ⟨#[c]⟩ u) (fun i h => h.IsStrIter it (strIterType x) x t i) := by
  unfold strIterType
  cases x.cps.all (· < 128)
  · exact Draws.strWide hh it x t
  · exact Draws.strAscii hh it x t
theorem enum_endS {prog : Program} {w : World} {A : Around} {E : Value → Shared → Prop} {s : Shared} {e it : Addr} {i : Nat} {x : Str} {t : Tok} {old : Value} {Q : Option Value → Shared → Prop} (hh : A.handled = none)
    (he : IsEnum s.heap e it i old) (hit : s.heap.IsStrIter it (strIterType x) x t i) (hx : x.cps[i]? = none)
    (hQ : ∀ h', Heap.ExtBut it s.heap h' → Q none { s with heap := h' }) : wpAny (model prog w) A (pyNext (.ref e)) Q E s := by
  have hT : s.TypeIs (.ref e) "enumerate" := ⟨_, he, rfl⟩
  unfold pyNext
  refine wpAny_bind (wpAny_attempt (wpAny_callSpecial?_slot (name := Str.ofString "__next__") hT F.slot_enumerate_next
    (wpAny_call_entry F.slot_enumerate_next hT F.entry_enumerate_next ?_ (F.args_enumerate_next_1 _))))
  show wpAny _ _ (field (.ref e) 2 >>= _) _ _ _
  refine wpAny_bind (wpAny_field he rfl (x := .ref it) rfl ?_)
  unfold strIterType at hit
  cases ha : x.cps.all (· < 128)
  · rw [ha] at hit
    refine wpAny_bind (wpAny_nextOf_wide_end hh hit hx fun h' y he' hx' => ?_)
    obtain ⟨o, ho, hc⟩ := hx'
    refine wpAny_bind (wpAny_isInstance (T := "StopIteration") (b := true) ⟨o, ho, hc⟩ isSubtype_stop ?_)
    exact wpAny_pure (hQ _ he')
  · rw [ha] at hit
    refine wpAny_bind (wpAny_nextOf_ascii_end hh hit hx fun h' y he' hx' => ?_)
    obtain ⟨o, ho, hc⟩ := hx'
    refine wpAny_bind (wpAny_isInstance (T := "StopIteration") (b := true) ⟨o, ho, hc⟩ isSubtype_stop ?_)
    exact wpAny_pure (hQ _ he')
theorem turn_enumS {P : Program} {w : World} {K : PySem.W.Frag} {elts : List Expr} {kk : Nat} {tpos : Pos} (x : Str) (t : Tok) (e it : Addr) :
    Turn P w K (.Tuple elts kk tpos) (IteS x) [e, it] e (fun i h => (∃ old, IsEnum h e it ((i : Nat) : Int) old) ∧ h.IsStrIter it (strIterType x) x t i ∧ e ≠ it) where
  mem := by simp
  obj := fun i h st b hb => by
    obtain ⟨⟨old, he⟩, ⟨o, ho, hc, hd⟩, _⟩ := st
    have e' : b = e ∨ b = it := by simpa using hb
    rcases e' with z | z
    · rw [z]; exact ⟨_, he, fun v q => nomatch q⟩
    · rw [z]; exact ⟨o, ho, fun v q => by rw [hd] at q; cases q⟩
  keep := fun i h h' st k => let ⟨⟨old, he⟩, ⟨o, ho, r⟩, hne⟩ := st; ⟨⟨old, k e (by simp) _ he⟩, ⟨o, k it (by simp) o ho, r⟩, hne⟩
  item := by
    intro X hP hw hK hc i pins s σ H E I hf st hg
    subst hP hw hK
    obtain ⟨⟨old, he⟩, hit, hne⟩ := st
    have hel : e < s.heap.objs.size := Heap.lt_size he
    have hil : it < s.heap.objs.size := by obtain ⟨_, q, _⟩ := hit; exact Heap.lt_size q
    refine wpAny_pyNext_enum_itemD (draws_str (A := X.A.in1) (I.ok.hd hc) it x t) he hit hg hne (by simpa using hne) fun y h' tk hy ho hit' hT hsz hk => ?_
    obtain ⟨c, u, hcx, rfl⟩ := hy
    refine ⟨_, rfl, wpAny_letOwnedTupleGo_enum (s := { s with heap := h', toks := tk + 1 }) ho fun h'' he' sb => ?_⟩
    have hT2 : h''.get? s.heap.objs.size = some { cls := .type "tuple", data := .seq #[.int i tk, .str ⟨#[c]⟩ u] } := (sb.2 _ (Nat.ne_of_gt hel)).trans hT
    have new : ObjOk X.prog X.w (upd H s.heap.objs.size (.tup [.int (i : Nat), .str ⟨#[c]⟩])) h'' s.heap.objs.size (.tup [.int (i : Nat), .str ⟨#[c]⟩]) :=
      ⟨by show 2 ≤ sizeLine; decide, [.int i tk, .str ⟨#[c]⟩ u], .cons ⟨_, rfl⟩ (.cons ⟨_, rfl⟩ .nil), ⟨_, hT2, rfl, _, rfl⟩⟩
    have I1 : Inv X pins σ (upd H s.heap.objs.size (.tup [.int (i : Nat), .str ⟨#[c]⟩])) { s with heap := h'', toks := tk + 1 } :=
      I.turnedNew (ch := [e, it]) (fun b ob hb q => (sb.2 b (fun z => hb (by simp [z]))).trans (hk b ob (fun z => hb (by simp [z])) (fun z => hb (by simp [z])) q)) hf (Nat.le_refl _) new
    refine ⟨.ref s.heap.objs.size, _, I1, rfl, ⟨_, c, rfl, I.hok.fresh (Nat.le_refl _), rfl, hcx⟩, ⟨⟨.str ⟨#[c]⟩ u, ?_⟩, ?_, hne⟩, fun b hb => ?_⟩
    · have e1 : ((i + 1 : Nat) : Int) = (i : Int) + 1 := by omega
      rw [e1]; exact he'
    · obtain ⟨o, q, r⟩ := hit'
      exact ⟨o, (sb.2 it (Ne.symm hne)).trans q, r⟩
    · have hb' : b < s.heap.objs.size := by
        have e' : b = e ∨ b = it := by simpa using hb
        rcases e' with z | z
        · rw [z]; exact hel
        · rw [z]; exact hil
      rw [upd_ne (Nat.ne_of_lt hb')]
      exact (hf b hb).1
  done := by
    intro X hP hw hK hc i pins s σ H E I hf st hg
    subst hP hw hK
    obtain ⟨⟨old, he⟩, hit, hne⟩ := st
    obtain ⟨f0, f1, f2, f3, f4, f5⟩ := hf it (by simp)
    exact enum_endS (I.ok.hd hc) he hit (Array.getElem?_eq_none hg) fun h' eb => ⟨rfl, I.turned (t' := s.toks) (fun b o hb q => eb b o hb q) f0 f1 f3 f4 f5⟩
  self := fun A i s Q E st h => let ⟨⟨_, he⟩, _⟩ := st; wpAny_pyIter_enum he h
def iEnumS (ta : TA) : TI := fun σ H R => ta σ H fun vs H1 => ∃ x, vs = [.str x] ∧ R (IteS x) H1
theorem pi_enumS {X : Cx} {e : Expr} {ta : TA} {p pos tpos : Pos} {elts : List Expr} {kk : Nat} (hg : Gl X "enumerate") (hm : X.mg "enumerate" = none) (ha : PA X [e] ta) (hs : starEach [e] X.env = [(false, eval e X.env)] := by rfl) :
    PI X (.Tuple elts kk tpos) (.Call (.Name "enumerate" p) [e] [] pos) (iEnumS ta) := by
  refine ⟨fun pins s σ H R I h => ?_⟩
  refine Call_ (ld_blt I hg hm boot_enumerate (PyProof.Rows.callWith_type1 (thn (ha.run pos pins s σ H _ I h) fun us s1 ⟨vs, H1, I1, r1, q1⟩ => ?_) hs rfl))
  obtain ⟨x, ex, q⟩ := q1
  subst ex
  cases r1 with
  | cons r rr =>
    cases rr
    obtain ⟨t, rfl⟩ := r
    refine call_enumerate_str fun h' he hit hsz hk => wpAny_pyIter_enum he ?_
    have I2 : Inv X pins σ H1 { s1 with heap := h' } := I1.kept (t' := s1.toks) hk
    refine ⟨s1.heap.objs.size + 1, [s1.heap.objs.size + 1, s1.heap.objs.size], _, _, H1, rfl, I2, turn_enumS x t (s1.heap.objs.size + 1) s1.heap.objs.size, ⟨⟨.none, he⟩, hit, Nat.succ_ne_self _⟩, fun b hb => ?_, q⟩
    have e' : b = s1.heap.objs.size + 1 ∨ b = s1.heap.objs.size := by simpa using hb
    have hle : s1.heap.objs.size ≤ b := by
      rcases e' with z | z
      · rw [z]; exact Nat.le_add_right _ _
      · rw [z]; exact Nat.le_refl _
    exact I1.fpOk hle (I1.hok.fresh hle)
/-- the signs of a text, as texts of one sign -/
def sgn (x : Str) : List DV := x.cps.toList.map fun c => .str ⟨#[c]⟩
theorem sgn_len (x : Str) : (sgn x).length = x.cps.size := by unfold sgn; simp
theorem wk_enumS {K : PySem.W.Frag} {G : Hp} (x : Str) : Wk K G (IteS x) (enD 0 (sgn x)) where
  stop := fun i G1 H g1 g2 hi => by rw [enD_len, sgn_len] at hi; exact hi
  go := fun i G1 H g1 g2 hi => by rw [enD_len, sgn_len] at hi; exact hi
  yld := fun i G1 H d y H' g1 g2 e z => by
    obtain ⟨T, c, rfl, nT, rfl, q⟩ := z
    obtain ⟨dd, e1, e2⟩ := enD_get (sgn x) 0 i d e
    subst e2
    have e3 : dd = .str ⟨#[c]⟩ := by
      unfold sgn at e1
      rw [List.getElem?_map, Array.getElem?_toList, q] at e1
      exact (Option.some.inj e1).symm
    subst e3
    have F : Fw G1 H (upd G1 T (.tup [.int (i : Nat), .str ⟨#[c]⟩])) (upd H T (.tup [.int (i : Nat), .str ⟨#[c]⟩])) none := Fw.add g2 nT
    refine ⟨_, F, T, _, rfl, SqT.of upd_same, _, _, rfl, ?_, RpL.one rfl⟩
    show V.int (i : Nat) = V.int ((0 + i : Nat) : Int)
    rw [Nat.zero_add]
section
variable {X : Cx} {C : Cn} {e a b c o : Expr} {es elts : List Expr} {pos p tpos p2 apos : Pos} {f g h : EF} {ff : AF}
def iEnS (f : EF) : LF := fun s => match f s with
  | some (.str x, s1) => some (enD 0 (sgn x), s1)
  | _ => none
theorem fi_enumS {kk : Nat} (hm : X.mg "enumerate" = none) (h : FE X C e f) (hg : Gl X "enumerate" := by rfl) (hs : starEach [e] X.env = (false, eval e X.env) :: starEach [] X.env := by rfl) (hs' : starEach [e] X.env = [(false, eval e X.env)] := by rfl) : FI X C (.Tuple elts kk tpos) (.Call (.Name "enumerate" p) [e] [] pos) (iEnS f) := by
  obtain ⟨te, p1, q1⟩ := h
  refine ⟨_, pi_enumS hg hm (pa_cons p1 pa_nil hs) hs', ?_⟩
  intro G H σ s ds s' A e1 R k
  unfold iEnS at e1
  split at e1
  · rename_i x s1 e2
    cases e1
    refine q1 G H σ s _ _ A e2 _ fun v H1 G1 g1 A1 r => ?_
    have r' : v = .str x := r
    subst r'
    exact ⟨x, rfl, k _ H1 G1 g1 A1 (wk_enumS x)⟩
  · cases e1
/-! ## a slice of a text -/
def dSlS : DV → Option Int → Option Int → Option DV
  | .str x, lo, hi => if x.length ≤ sizeLine then some (.str (cutS x lo hi)) else none
  | _, _, _ => none
def eSlS (i : Nat) (l h : OF) : EF := fun s => match FD.peek s i with
  | some (.str x) => match l s with
    | some (lo, s2) => match h s2 with
      | some (hi, s3) => match dSlS (.str x) lo hi with
        | some z => some (z, s3)
        | none => none
      | none => none
    | none => none
  | _ => none
theorem fe_sls (i : Nat) {x : Str} {pos' : Pos} {lo hi : Option Expr} {l h : OF} (h2 : FO X C lo l) (h3 : FO X C hi h) (hN : X.N[i]? = some x := by rfl) (hv : Vis X.env.scope x := by first | exact Or.inl rfl | exact Or.inr (Or.inl rfl) | exact Or.inr (Or.inr rfl)) (hd : (x == ("__debug__" : Str)) = false := by decide)
    (hcd : (x == ("__classdict__" : Str)) = false := by decide) : FE X C (.Subscript (.Name x pos') (.Slice lo hi none p2) pos) (eSlS i l h) := by
  obtain ⟨tl, pl, ql⟩ := h2
  obtain ⟨th, ph, qh⟩ := h3
  refine ⟨_, pe_slice sl_str (pe_var hN hv hd hcd) pl ph, ?_⟩
  intro G H σ s z s' A e Q q
  unfold eSlS at e
  split at e
  · rename_i y e0
    obtain ⟨v, G4, ev, g4, g5, r2, r3, r4⟩ := A.peek e0
    have rv : v = .str y := (show Rp X.K _ v (.str y) from r4 (fun ds z => nomatch z))
    subst rv
    split at e
    · rename_i lo' s2 a2
      split at e
      · rename_i hi' s3 a3
        split at e
        · rename_i z' a4
          have a5 : (if y.length ≤ sizeLine then some (DV.str (cutS y lo' hi')) else none) = some z' := a4
          have e5 := Option.some.inj e
          by_cases hl : y.length ≤ sizeLine
          · rw [if_pos hl] at a5
            have a6 := Option.some.inj a5
            cases e5
            subst a6
            refine ⟨_, ev, ql G H σ s _ s2 A a2 _ fun H2 G2 g2 A2 => ?_⟩
            refine qh G2 H2 σ s2 _ _ A2 a3 _ fun H3 G3 g3 A3 => ?_
            exact ⟨y, rfl, hl, q _ H3 G3 (g2.trans g3) A3 rfl⟩
          · rw [if_neg hl] at a5
            cases a5
        · cases e
      · cases e
    · cases e
  · cases e
/-! ## int of a bool, join, repeated lists -/
def dIntB : List DV → Option DV
  | [.int i] => some (.int i)
  | [.bl b] => some (.int (if b then 1 else 0))
  | _ => none
theorem o_intB {K : PySem.W.Frag} : OpA K (fun xs H Q => (∃ i, xs = [.int i] ∧ Q (.int i) H) ∨ ∃ k, xs = [.bl k] ∧ Q (.int (if k then 1 else 0)) H) dIntB := by
  intro C G H σ s vs ds d A r ho Q q
  unfold dIntB at ho
  split at ho
  · rename_i i
    cases ho
    obtain ⟨v, rfl, rv⟩ := r.single
    have rv' : v = .int i := rv
    subst rv'
    exact .inl ⟨_, rfl, q _ H G (Fw.refl A.gh) rfl⟩
  · rename_i b
    cases ho
    obtain ⟨v, rfl, rv⟩ := r.single
    have rv' : v = .bl b := rv
    subst rv'
    exact .inr ⟨_, rfl, q _ H G (Fw.refl A.gh) rfl⟩
  · cases ho
theorem fe_intB (hm : X.mg "int" = none) (ha : FA X C [e] ff) (hg : Gl X "int" := by rfl) (he : starEach [e] X.env = (false, eval e X.env) :: starEach [] X.env := by rfl) : FE X C (.Call (.Name "int" p) [e] [] pos) (eA ff dIntB) := fe_callTy call_int1 o_intB hm (by decide +kernel) ha hg (he := he)
def strsD : List DV → Option (List Str)
  | [] => some []
  | .str x :: ds => (strsD ds).map (x :: ·)
  | _ => none
theorem strsD_map : ∀ {ds : List DV} {ys : List Str}, strsD ds = some ys → ds = ys.map DV.str
  | [], ys, h => by cases h; rfl
  | .str x :: ds, ys, h => by
    unfold strsD at h
    obtain ⟨ys', h1, rfl⟩ := Option.map_eq_some_iff.mp h
    rw [strsD_map h1]
    rfl
  | .non :: _, _, h | .bl _ :: _, _, h | .int _ :: _, _, h | .tup _ :: _, _, h | .lst _ :: _, _, h | .scr _ :: _, _, h | .raw _ :: _, _, h | .exc _ :: _, _, h => by cases h
theorem RpL.strs' {K : PySem.W.Frag} {G : Hp} : ∀ {ys : List Str} {vs : List V}, RpL K G vs (ys.map DV.str) → vs = ys.map V.str
  | [], vs, h => h
  | n :: ns, vs, h => by
    obtain ⟨v, r, e1, h1, h2⟩ := h
    have q : v = .str n := h1
    rw [e1, q, RpL.strs' h2]
    rfl
def dJoin : DV → DV → Option DV
  | .str a, .lst ds => match strsD ds with
    | some ys => if (ys.map (·.length)).sum + ys.length * a.length ≤ 16777216 then some (.str (Txt.join a ys)) else none
    | none => none
  | _, _ => none
theorem fe_join (ho : FE X C o f) (he : FE X C e g) (hs : starEach [e] X.env = [(false, eval e X.env)] := by rfl) (hbase : attributeBase o "join" X.env (eval o X.env) = eval o X.env := by rfl) (hline : (apos.endLine == pos.line) = true := by rfl) :
    FE X C (.Call (.Attribute o "join" apos) [e] [] pos) (FD.e2 f g dJoin) := by
  obtain ⟨to, p1, q1⟩ := ho
  obtain ⟨te, p2, q2⟩ := he
  refine ⟨_, pe_join p1 p2 hs hbase hline, ?_⟩
  intro G H σ s d s' A e1 Q k
  unfold FD.e2 at e1
  split at e1
  · rename_i d0 s1 e2
    split at e1
    · rename_i d1 s2 e3
      split at e1
      · rename_i z e4
        have e5 := Option.some.inj e1
        unfold dJoin at e4
        split at e4
        · rename_i a ds
          split at e4
          · rename_i ys e6
            split at e4
            · rename_i hl
              have e7 := Option.some.inj e4
              cases e5
              subst e7
              refine q1 G H σ s _ s1 A e2 _ fun v H1 G1 g1 A1 r1 => ?_
              have r1' : v = .str a := r1
              subst r1'
              refine ⟨⟨a, rfl⟩, q2 G1 H1 σ s1 _ _ A1 e3 _ fun u H2 G2 g2 A2 r2 => ?_⟩
              obtain ⟨b, us, rfl, h1, h2⟩ := r2
              rw [strsD_map e6] at h2
              have h3 := h2.strs'
              subst h3
              refine ⟨a, b, ys, rfl, rfl, .inl (SqL.of (A2.gh _ _ h1)), hl, ?_⟩
              exact k _ H2 G2 (g1.trans g2) A2 rfl
            · cases e4
          · cases e4
        · cases e4
      · cases e1
    · cases e1
  · cases e1
/-- [..] * n as a new list of the frame's own -/
def lRep (f g : EF) : LF := fun s => match f s with
  | some (.lst ds, s1) => match g s1 with
    | some (.int k, s2) => if decide (-(2 ^ 63) ≤ k ∧ k < 2 ^ 63 ∧ ds.length * k.toNat ≤ sizeLine) then some ((List.replicate k.toNat ds).flatten, s2) else none
    | _ => none
  | _ => none
theorem fl_rep (h1 : FE X C a f) (h2 : FE X C b g) : FL X C (.BinOp a .Mult b pos) (lRep f g) := by
  obtain ⟨ta, p1, q1⟩ := h1
  obtain ⟨tb, p2, q2⟩ := h2
  refine ⟨_, pe_op op_mulXX p1 p2, ?_⟩
  intro G H σ s ds s' A e1 Q k
  unfold lRep at e1
  split at e1
  · rename_i ds0 s1 e2
    split at e1
    · rename_i n s2 e3
      split at e1
      · rename_i hl
        cases e1
        refine q1 G H σ s _ s1 A e2 _ fun v H1 G1 g1 A1 r1 => ?_
        refine q2 G1 H1 σ s1 _ _ A1 e3 _ fun u H2 G2 g2 A2 r2 => ?_
        obtain ⟨l, vs, rfl, h1, h2⟩ := Rp.mono g2 _ _ r1
        have r2' : u = .int n := r2
        subst r2'
        obtain ⟨l1, l2, l3⟩ := of_decide_eq_true hl
        refine .inr ⟨l, _, vs, rfl, rfl, A2.gh _ _ h1, l1, l2, by rw [h2.length]; exact l3, fun p hp => ?_⟩
        obtain ⟨B, nl⟩ := A2.lay (h2.rep n.toNat) hp
        exact k p _ _ G2 (g1.trans g2) B nl
      · cases e1
    · cases e1
  · cases e1
end
end FD

set_option maxRecDepth 100000
set_option maxHeartbeats 4000000
set_option exponentiation.threshold 30000
namespace T4
open PySem L2 FD
local macro_rules | `(tactic| walk_at "fd") => `(tactic| simp only [bodyP, bodyS, sSeq, sIf, sNx, sRt, sAsg, sDr, sPar, sAug, tBl, tTr, tAn, tOo, tNo, eC, eV, eA, eIf, eAn, eOo, eNo, e1, e2, eIxN, FD.peek, aCons, aNil, gNm, gTp, gCo, gNi, dI, dAddI, dMulI, dAdd, dSub, dMul, dFdiv, dMod, dNeg, dGcd, dMax, dMin, dAbs, dSq, dEq_int, dNe_int, dIx, oTup, truD, List.length_cons, List.length_nil, List.map_cons, List.map_nil, List.cons_append, List.nil_append, List.replicate_succ, List.replicate_zero, List.getElem?_cons_zero, List.getElem?_cons_succ, List.set_cons_succ, List.set_cons_zero, Nat.reduceAdd, Nat.reduceSub, Nat.sub_self, if_true, decide_true, decide_false, Bool.not_true, Bool.not_false, Bool.false_eq_true, if_false, reduceCtorEq, *])

/-! ## the order, act by act -/
section
variable {e : Int} {x : Num}
theorem GB_mono (h : Ra e x) (j : Int) : GB e x j + 1 ≤ GB e x (j + 1) := by
  have he := h.irr
  have s0 := h.g.s0
  unfold GB
  have k : ¬ flo ((j + 1) * x.1) ((j + 1) * x.2.1) e x.2.2.2 < flo (j * x.1) (j * x.2.1) e x.2.2.2 := fun w => by
    have k1 := (sg_flo (p := (j + 1) * x.1) (q := (j + 1) * x.2.1) s0 (Int.le_of_lt he.1)).mpr w
    have k2 : ¬ flo (j * x.1) (j * x.2.1) e x.2.2.2 < flo (j * x.1) (j * x.2.1) e x.2.2.2 := Int.lt_irrefl _
    have k3 := mt (sg_flo (p := j * x.1) (q := j * x.2.1) s0 (Int.le_of_lt he.1)).mp k2
    generalize flo (j * x.1) (j * x.2.1) e x.2.2.2 = f at *
    have sr : ∀ q : Int, Sr q e := fun q => ⟨Int.le_of_lt he.1, .inr he⟩
    have k4 := sg_add (sr _) (sr _) (Int.not_lt.mp k3) h.pos
    rw [show j * x.1 - f * x.2.2.2 + x.1 = (j + 1) * x.1 - f * x.2.2.2 by grind, show j * x.2.1 + x.2.1 = (j + 1) * x.2.1 by grind] at k4
    omega
  omega
theorem done_step (h : Ra e x) (k : Int) : doneN x (k + 1) = if GB e x (doneN x (k + 1)) = k + 1 then doneN x k + 1 else doneN x k := by
  have a1 := (done_spec h k (doneN x k)).mp (Int.le_refl _)
  have a2 := (done_spec h (k + 1) (doneN x (k + 1))).mp (Int.le_refl _)
  have a3 := (done_spec h (k + 1) (doneN x k)).mpr (by omega)
  have a4 : ¬ GB e x (doneN x k + 1) ≤ k := fun w => by have := (done_spec h k (doneN x k + 1)).mpr w; omega
  have a5 := GB_mono h (doneN x k + 1)
  have a6 : doneN x (k + 1) ≤ doneN x k + 1 := by
    refine Int.not_lt.mp fun w => ?_
    have := (done_spec h (k + 1) (doneN x k + 1 + 1)).mp (by omega)
    omega
  by_cases z : GB e x (doneN x (k + 1)) = k + 1
  · rw [if_pos z]
    have : ¬ doneN x (k + 1) = doneN x k := fun w => by rw [w] at z; omega
    omega
  · rw [if_neg z]
    have : ¬ doneN x (k + 1) = doneN x k + 1 := fun w => by
      have := (done_spec h k (doneN x (k + 1))).mpr (by omega)
      omega
    omega
/-- which worker is next, by the times -/
theorem next_is (h : Ra e x) (k : Int) : k + 1 - doneN x k ≤ flo ((doneN x k + 1) * x.1) ((doneN x k + 1) * x.2.1) e x.2.2.2 ↔ ¬ GB e x (doneN x (k + 1)) = k + 1 := by
  have a := done_step h k
  have b := done_spec h (k + 1) (doneN x k + 1)
  have e1 : GB e x (doneN x k + 1) = doneN x k + 1 + flo ((doneN x k + 1) * x.1) ((doneN x k + 1) * x.2.1) e x.2.2.2 := rfl
  by_cases z : GB e x (doneN x (k + 1)) = k + 1
  · rw [if_pos z] at a
    have := b.mp (by omega)
    omega
  · rw [if_neg z] at a
    have : ¬ GB e x (doneN x k + 1) ≤ k + 1 := fun w => by have := b.mpr w; omega
    omega
theorem done_zero (h : Ra e x) : doneN x 0 = 0 := by
  have gz := GB_zero (e := e) h.g.s0
  have a := (done_spec h 0 0).mpr (by omega)
  have b : ¬ 1 ≤ doneN x 0 := fun w => by
    have := (done_spec h 0 1).mp w
    have := GB_big h (j := 1) (by omega)
    omega
  omega
theorem done_nn (h : Ra e x) {k : Int} (hk : 0 ≤ k) : 0 ≤ doneN x k := (done_spec h k 0).mpr (by have := GB_zero (e := e) h.g.s0; omega)
theorem done_le (h : Ra e x) {k : Int} (hk : 0 ≤ k) : doneN x k ≤ k := by
  refine Int.not_lt.mp fun w => ?_
  have h1 := (done_spec h k (k + 1)).mp (by omega)
  have h2 := GB_big h (j := k + 1) (by omega)
  omega
def code (e : Int) (x : Num) (p : Int) : Nat := if GB e x (doneN x p) = p then 98 else 97
def wd (e : Int) (x : Num) (n : Nat) : List Nat := (List.range n).map fun (i : Nat) => code e x ((i : Int) + 1)
def wdS (e : Int) (x : Num) (n : Nat) : Str := ⟨(wd e x n).toArray⟩
theorem wdS_len (n : Nat) : (wdS e x n).length = n := by
  show (wd e x n).toArray.size = n
  unfold wd
  simp
theorem wd_succ (n : Nat) : wd e x (n + 1) = wd e x n ++ [code e x ((n : Int) + 1)] := by
  unfold wd
  rw [List.range_succ, List.map_append]
  rfl
theorem txt_a : (("a" : String) : Str) = ⟨#[97]⟩ := by decide +kernel
theorem txt_b : (("b" : String) : Str) = ⟨#[98]⟩ := by decide +kernel
theorem txt_0 : (("" : String) : Str) = ⟨#[]⟩ := by decide +kernel
theorem wdS_a {n : Nat} (h : ¬ GB e x (doneN x ((n : Int) + 1)) = (n : Int) + 1) : wdS e x n ++ (("a" : String) : Str) = wdS e x (n + 1) := by
  rw [txt_a]
  show (⟨(wd e x n).toArray ++ #[97]⟩ : Str) = ⟨(wd e x (n + 1)).toArray⟩
  rw [wd_succ]
  unfold code
  rw [if_neg h]
  simp
theorem wdS_b {n : Nat} (h : GB e x (doneN x ((n : Int) + 1)) = (n : Int) + 1) : wdS e x n ++ (("b" : String) : Str) = wdS e x (n + 1) := by
  rw [txt_b]
  show (⟨(wd e x n).toArray ++ #[98]⟩ : Str) = ⟨(wd e x (n + 1)).toArray⟩
  rw [wd_succ]
  unfold code
  rw [if_pos h]
  simp
theorem wdS_0 : wdS e x 0 = (("" : String) : Str) := by rw [txt_0]; rfl
def limN (e : Int) (x : Num) (k : Int) : Int := flo ((doneN x k + 1) * x.1) ((doneN x k + 1) * x.2.1) e x.2.2.2
def btBody : SF := (sIf (tBl (e2 (eV 3) (eV 5) dLe)) (sPar 2 3 (aCons (e2 (eV 2) (eC (.str "a")) dAdd) (aCons (e2 (eV 3) (eC (.int 1)) dAdd) (aNil)))) (sSeq (sPar 2 4 (aCons (e2 (eV 2) (eC (.str "b")) dAdd) (aCons (e2 (eV 4) (eC (.int 1)) dAdd) (aNil))))
  (sAsg (eA (aCons (eV 0) (aCons (eV 4) (aNil))) m_law_times_of) (gNm 5))))
theorem bt_loop (h : Ra e x) (n : Nat) (hn : n ≤ 3000) (sp : Spl) : ∀ (m k : Nat), k + m = n + 1 → 1 ≤ m →
    ∃ mi yo li, whN m (tBl (e2 (eA (aCons (eV 2) (aNil)) dLen) (eV 1) dLt)) btBody ⟨[some (.dat (nm x)), some (.dat (.int n)), some (.dat (.str (wdS e x k))), some (.dat (.int ((k : Int) + 1 - doneN x k))), some (.dat (.int (doneN x k + 1))), some (.dat (.int (limN e x k)))], sp⟩ =
      some (.nx ⟨[some (.dat (nm x)), some (.dat (.int n)), some (.dat (.str (wdS e x n))), some (.dat (.int mi)), some (.dat (.int yo)), some (.dat (.int li))], sp⟩) := by
  intro m
  induction m with
  | zero => intro k h1 h2; omega
  | succ m ih =>
    intro k h1 h2
    have ai : ∀ a b : Int, dAdd (.int a) (.int b) = some (.int (a + b)) := fun _ _ => rfl
    have hl : (wdS e x k).length = k := wdS_len k
    have z1 : (wdS e x k).length ≤ sizeLine := by rw [hl, sizeLine_eq]; omega
    have c0 : dLen [.str (wdS e x k)] = some (.int (k : Int)) := by
      show (if (wdS e x k).length ≤ sizeLine then some (DV.int ((wdS e x k).length : Int)) else none) = _
      rw [if_pos z1, hl]
    by_cases hk : k < n
    · have t1 : decide ((k : Int) < (n : Int)) = true := decide_eq_true (by omega)
      have la : (("a" : String) : Str).length = 1 := by rw [txt_a]; rfl
      have lb : (("b" : String) : Str).length = 1 := by rw [txt_b]; rfl
      have z2 : (wdS e x k).length + 1 ≤ sizeLine := by rw [hl, sizeLine_eq]; omega
      have st := done_step h (k : Int)
      have nx := next_is h (k : Int)
      have nn := done_nn h (k := (k : Int)) (by omega)
      have le := done_le h (k := (k : Int)) (by omega)
      by_cases y : GB e x (doneN x ((k : Int) + 1)) = (k : Int) + 1
      · rw [if_pos y] at st
        have t2 : decide ((k : Int) + 1 - doneN x k ≤ limN e x k) = false := decide_eq_false (fun w => (nx.mp w) y)
        have c1 := times_of_ok h (j := doneN x k + 1 + 1) (lt_up (a := 20) (by omega))
        have c2 : dAdd (.str (wdS e x k)) (.str (("b" : String) : Str)) = some (.str (wdS e x (k + 1))) := by
          show (if (wdS e x k).length + (("b" : String) : Str).length ≤ sizeLine then some (DV.str (wdS e x k ++ (("b" : String) : Str))) else none) = _
          rw [lb, if_pos z2, wdS_b y]
        obtain ⟨mi, yo, li, r⟩ := ih (k + 1) (by omega) (by omega)
        have e1 : (((k + 1 : Nat) : Int) + 1 - doneN x ((k + 1 : Nat) : Int)) = (k : Int) + 1 - doneN x k := by
          rw [show ((k + 1 : Nat) : Int) = (k : Int) + 1 by omega, st]; omega
        have e3 : doneN x ((k + 1 : Nat) : Int) = doneN x k + 1 := by rw [show ((k + 1 : Nat) : Int) = (k : Int) + 1 by omega, st]
        have e4 : limN e x ((k + 1 : Nat) : Int) = flo ((doneN x k + 1 + 1) * x.1) ((doneN x k + 1 + 1) * x.2.1) e x.2.2.2 := by unfold limN; rw [e3]
        rw [e1, e4, e3] at r
        refine ⟨mi, yo, li, ?_⟩
        rw [← r]
        clear r e1 e3 e4 ih st nx nn le y z1 z2 la lb hl hk h
        conv => lhs; unfold whN
        unfold btBody
        simp only [tBl, e2, eA, aCons, aNil, eV, eC, c0, dI, t1, sIf, t2, sSeq, sPar, c2, ai, sAsg, c1, gNm, List.getElem?_cons_zero, List.getElem?_cons_succ, List.set_cons_zero, List.set_cons_succ]
      · rw [if_neg y] at st
        have t2 : decide ((k : Int) + 1 - doneN x k ≤ limN e x k) = true := decide_eq_true (nx.mpr y)
        have c2 : dAdd (.str (wdS e x k)) (.str (("a" : String) : Str)) = some (.str (wdS e x (k + 1))) := by
          show (if (wdS e x k).length + (("a" : String) : Str).length ≤ sizeLine then some (DV.str (wdS e x k ++ (("a" : String) : Str))) else none) = _
          rw [la, if_pos z2, wdS_a y]
        obtain ⟨mi, yo, li, r⟩ := ih (k + 1) (by omega) (by omega)
        have e3 : doneN x ((k + 1 : Nat) : Int) = doneN x k := by rw [show ((k + 1 : Nat) : Int) = (k : Int) + 1 by omega, st]
        have e1 : (((k + 1 : Nat) : Int) + 1 - doneN x ((k + 1 : Nat) : Int)) = (k : Int) + 1 - doneN x k + 1 := by
          rw [e3]; omega
        have e4 : limN e x ((k + 1 : Nat) : Int) = limN e x k := by unfold limN; rw [e3]
        rw [e1, e4, e3] at r
        refine ⟨mi, yo, li, ?_⟩
        rw [← r]
        clear r e1 e3 e4 ih st nx nn le y z1 z2 la lb hl hk h
        conv => lhs; unfold whN
        unfold btBody
        simp only [tBl, e2, eA, aCons, aNil, eV, eC, c0, dI, t1, sIf, t2, sSeq, sPar, c2, ai, sAsg, gNm, List.getElem?_cons_zero, List.getElem?_cons_succ, List.set_cons_zero, List.set_cons_succ]
    · have e0 : k = n := by omega
      subst e0
      have t1 : decide ((k : Int) < (k : Int)) = false := decide_eq_false (by omega)
      refine ⟨(k : Int) + 1 - doneN x k, doneN x k + 1, limN e x k, ?_⟩
      unfold whN
      simp only [tBl, e2, eA, aCons, aNil, eV, c0, dI, t1, List.getElem?_cons_zero, List.getElem?_cons_succ]
def b_law_by_times : SF :=
  sSeq (sAsg (eA (aCons (eC (.str "")) (aCons (eC (.int 1)) (aCons (eC (.int 1)) (aNil)))) oTup) (gTp 3 (gCo (gNm 2) (gCo (gNm 3) (gCo (gNm 4) (gNi))))))
  (sSeq (sAsg (eA (aCons (eV 0) (aCons (eC (.int 1)) (aNil))) m_law_times_of) (gNm 5))
  (sSeq (sWh (fun s => (slI s 1).toNat + 1) (tBl (e2 (eA (aCons (eV 2) (aNil)) dLen) (eV 1) dLt)) (sIf (tBl (e2 (eV 3) (eV 5) dLe)) (sPar 2 3 (aCons (e2 (eV 2) (eC (.str "a")) dAdd) (aCons (e2 (eV 3) (eC (.int 1)) dAdd) (aNil)))) (sSeq (sPar 2 4 (aCons (e2 (eV 2) (eC (.str "b")) dAdd) (aCons (e2 (eV 4) (eC (.int 1)) dAdd) (aNil))))
  (sAsg (eA (aCons (eV 0) (aCons (eV 4) (aNil))) m_law_times_of) (gNm 5)))))
  (sRt (eV 2))))
def m_law_by_times : List DV → Option DV := bodyP 2 6 b_law_by_times
theorem t_law_by_times : ∀ ds d, m_law_by_times ds = some d → bodyP 2 6 b_law_by_times ds = some d := fun _ _ h => h
theorem by_times_ok (h : Ra e x) {n : Nat} (hn : n ≤ 3000) : m_law_by_times [nm x, .int (n : Int)] = some (.str (wdS e x n)) := by
  have c1 := times_of_ok h (j := 1) (by decide)
  have d0 := done_zero h
  obtain ⟨mi, yo, li, r⟩ := bt_loop h n hn spl0 (n + 1) 0 (by omega) (by omega)
  have e1 : limN e x ((0 : Nat) : Int) = flo (1 * x.1) (1 * x.2.1) e x.2.2.2 := by
    unfold limN
    rw [show ((0 : Nat) : Int) = 0 by rfl, d0]
    rfl
  have e0 : (((0 : Nat) : Int) + 1 - doneN x ((0 : Nat) : Int)) = 1 := by rw [show ((0 : Nat) : Int) = 0 by rfl, d0]; rfl
  have e3 : doneN x ((0 : Nat) : Int) + 1 = 1 := by rw [show ((0 : Nat) : Int) = 0 by rfl, d0]; rfl
  rw [e1, e0, e3, wdS_0] at r
  have eb : b_law_by_times = sSeq (sAsg (eA (aCons (eC (.str "")) (aCons (eC (.int 1)) (aCons (eC (.int 1)) (aNil)))) oTup) (gTp 3 (gCo (gNm 2) (gCo (gNm 3) (gCo (gNm 4) (gNi))))))
    (sSeq (sAsg (eA (aCons (eV 0) (aCons (eC (.int 1)) (aNil))) m_law_times_of) (gNm 5))
    (sSeq (sWh (fun s => (slI s 1).toNat + 1) (tBl (e2 (eA (aCons (eV 2) (aNil)) dLen) (eV 1) dLt)) btBody) (sRt (eV 2)))) := rfl
  have k3 : (3 : Nat) ≤ sizeLine := by decide
  have fu : (slI ⟨[some (.dat (nm x)), some (.dat (.int (n : Int))), some (.dat (.str (("" : String) : Str))), some (.dat (.int 1)), some (.dat (.int 1)), some (.dat (.int (flo (1 * x.1) (1 * x.2.1) e x.2.2.2)))], spl0⟩ 1).toNat + 1 = n + 1 := by
    show ((n : Int)).toNat + 1 = n + 1
    rw [Int.toNat_natCast]
  unfold m_law_by_times
  rw [eb]
  clear eb h hn d0 e1 e0 e3
  simp only [bodyP, sSeq, sAsg, eA, aCons, aNil, eC, eV, oTup, c1, gNm, gTp, gCo, gNi, sWh, sRt, List.length_cons, List.length_nil, k3, List.map_cons, List.map_nil, List.cons_append, List.nil_append, List.replicate_succ, List.replicate_zero, List.getElem?_cons_zero, List.getElem?_cons_succ, List.set_cons_zero, List.set_cons_succ, Nat.reduceAdd, Nat.reduceSub, if_true]
  rw [fu, r]
  simp only [List.getElem?_cons_zero, List.getElem?_cons_succ]
end
end T4

set_option maxRecDepth 100000
set_option maxHeartbeats 4000000
set_option exponentiation.threshold 30000
namespace T4
open PySem L2 FD
local macro_rules | `(tactic| walk_at "fd") => `(tactic| simp only [bodyP, bodyS, sSeq, sIf, sNx, sRt, sAsg, sDr, sPar, sAug, tBl, tTr, tAn, tOo, tNo, eC, eV, eA, eIf, eAn, eOo, eNo, e1, e2, eIxN, FD.peek, aCons, aNil, gNm, gTp, gCo, gNi, dI, dAddI, dMulI, dAdd, dSub, dMul, dFdiv, dMod, dNeg, dGcd, dMax, dMin, dAbs, dSq, dEq_int, dNe_int, dIx, oTup, truD, List.length_cons, List.length_nil, List.map_cons, List.map_nil, List.cons_append, List.nil_append, List.replicate_succ, List.replicate_zero, List.getElem?_cons_zero, List.getElem?_cons_succ, List.set_cons_succ, List.set_cons_zero, Nat.reduceAdd, Nat.reduceSub, Nat.sub_self, if_true, decide_true, decide_false, Bool.not_true, Bool.not_false, Bool.false_eq_true, if_false, reduceCtorEq, *])

section
variable {e : Int} {x : Num}
def lt1 (e : Int) (x : Num) (m : Int) (p : Int) : Str := if GB e x (doneN x p) = p ∧ doneN x p ≤ m then "b" else "a"
def lt (e : Int) (x : Num) (n : Nat) (m : Int) : List DV := (List.range n).map fun (i : Nat) => .str (lt1 e x m ((i : Int) + 1))
theorem done_GB (h : Ra e x) (j : Int) : doneN x (GB e x j) = j := by
  have a := (done_spec h (GB e x j) j).mpr (Int.le_refl _)
  have b : ¬ j + 1 ≤ doneN x (GB e x j) := fun w => by
    have := (done_spec h (GB e x j) (j + 1)).mp w
    have := GB_mono h j
    omega
  omega
theorem lt_0 (h : Ra e x) (n : Nat) : (List.replicate n [DV.str (("a" : String) : Str)]).flatten = lt e x n 0 := by
  have e1 : (List.replicate n [DV.str (("a" : String) : Str)]).flatten = List.replicate n (DV.str (("a" : String) : Str)) := by
    induction n with
    | zero => rfl
    | succ n ih => rw [List.replicate_succ, List.replicate_succ, List.flatten_cons, ih]; rfl
  rw [e1]
  refine List.ext_getElem? fun i => ?_
  unfold lt
  rw [List.getElem?_map, List.getElem?_replicate]
  by_cases hi : i < n
  · rw [if_pos hi, List.getElem?_range hi]
    show _ = some (DV.str (lt1 e x 0 ((i : Int) + 1)))
    unfold lt1
    rw [if_neg (fun w => by
      have d0 := done_nn h (k := (i : Int) + 1) (by omega)
      have z : doneN x ((i : Int) + 1) = 0 := by omega
      have w1 := w.1
      rw [z, GB_zero h.g.s0] at w1
      omega)]
  · rw [if_neg hi, List.getElem?_eq_none (by rw [List.length_range]; omega)]
    rfl
theorem lt_set (h : Ra e x) {n : Nat} {m : Int} (hm : 0 ≤ m) (hb : GB e x (m + 1) ≤ n) : (lt e x n m).set (GB e x (m + 1) - 1).toNat (.str (("b" : String) : Str)) = lt e x n (m + 1) := by
  have g1 := GB_big h (j := m + 1) (by omega)
  refine List.ext_getElem? fun i => ?_
  rw [List.getElem?_set]
  unfold lt
  rw [List.getElem?_map, List.getElem?_map, List.length_map, List.length_range]
  by_cases hi : i < n
  · rw [List.getElem?_range hi]
    by_cases z : (GB e x (m + 1) - 1).toNat = i
    · rw [if_pos z, if_pos (by omega)]
      have ep : (i : Int) + 1 = GB e x (m + 1) := by omega
      show _ = some (DV.str (lt1 e x (m + 1) ((i : Int) + 1)))
      unfold lt1
      rw [ep, done_GB h, if_pos ⟨rfl, Int.le_refl _⟩]
    · rw [if_neg z]
      show some (DV.str (lt1 e x m ((i : Int) + 1))) = some (DV.str (lt1 e x (m + 1) ((i : Int) + 1)))
      unfold lt1
      by_cases c : GB e x (doneN x ((i : Int) + 1)) = (i : Int) + 1 ∧ doneN x ((i : Int) + 1) ≤ m
      · rw [if_pos c, if_pos ⟨c.1, by omega⟩]
      · rw [if_neg c, if_neg (fun w => ?_)]
        have : doneN x ((i : Int) + 1) = m + 1 := by
          have : ¬ doneN x ((i : Int) + 1) ≤ m := fun y => c ⟨w.1, y⟩
          omega
        have w1 := w.1
        rw [this] at w1
        omega
  · rw [List.getElem?_eq_none (by rw [List.length_range]; omega), if_neg (by omega)]
    rfl
theorem lt_len (n : Nat) (m : Int) : (lt e x n m).length = n := by unfold lt; simp
def actBody : SF := (sPut 2 (eC (.str "b")) (e2 (eA (aCons (eV 0) (aCons (eC (.str "b")) (aCons (eV 3) (aNil)))) m_place_of) (eC (.int 1)) dSub))
theorem act_loop (h : Ra e x) {n : Nat} (hn : n ≤ 3000) (sp : Spl) : ∀ (k m : Nat) (y : Option SV), ((m + k : Nat) : Int) = doneN x n →
    ∃ y', frN ((List.range' m k).map fun (i : Nat) => .int (1 + (i : Int))) (gNm 3) actBody ⟨[some (.dat (nm x)), some (.dat (.int (n : Int))), some (.own (lt e x n m)), y], sp⟩ =
      some (.nx ⟨[some (.dat (nm x)), some (.dat (.int (n : Int))), some (.own (lt e x n (doneN x n))), y'], sp⟩)
  | 0, m, y, hk => ⟨y, by rw [← hk]; rfl⟩
  | k + 1, m, y, hk => by
    obtain ⟨y', ih⟩ := act_loop h hn sp k (m + 1) (some (.dat (.int (1 + (m : Int))))) (by omega)
    have hb : GB e x ((m : Int) + 1) ≤ n := (done_spec h n ((m : Int) + 1)).mp (by omega)
    have g1 := GB_big h (j := (m : Int) + 1) (by omega)
    have c1 := place_b_prog h (i := 1 + (m : Int)) (lt_up (a := 20) (by omega))
    have c2 : ixN (lt e x n m).length (GB e x (1 + (m : Int)) - 1) = some (GB e x ((m : Int) + 1) - 1).toNat := by
      rw [lt_len, Int.add_comm 1 (m : Int)]
      unfold ixN
      rw [if_pos (by omega), if_pos (by omega)]
    have c3 := lt_set h (n := n) (m := (m : Int)) (by omega) hb
    refine ⟨y', ?_⟩
    rw [List.range'_succ, List.map_cons]
    have em : ((m + 1 : Nat) : Int) = (m : Int) + 1 := by omega
    rw [em] at ih
    clear hb g1 hk
    unfold frN
    simp only [gNm, List.set_cons_succ, List.set_cons_zero]
    have cb : actBody ⟨[some (.dat (nm x)), some (.dat (.int (n : Int))), some (.own (lt e x n m)), some (.dat (.int (1 + (m : Int))))], sp⟩ = some (.nx ⟨[some (.dat (nm x)), some (.dat (.int (n : Int))), some (.own (lt e x n (m + 1))), some (.dat (.int (1 + (m : Int))))], sp⟩) := by
      unfold actBody
      simp only [sPut, eC, e2, eA, aCons, aNil, eV, c1, dSub, c2, c3, List.getElem?_cons_zero, List.getElem?_cons_succ, List.set_cons_succ, List.set_cons_zero]
    rw [cb]
    exact ih
theorem lt_all (h : Ra e x) (n : Nat) : lt e x n (doneN x n) = (wd e x n).map fun c => DV.str ⟨#[c]⟩ := by
  unfold lt wd
  rw [List.map_map]
  refine List.map_congr_left fun i hi => ?_
  have hi' : i < n := List.mem_range.mp hi
  show DV.str (lt1 e x (doneN x n) ((i : Int) + 1)) = DV.str ⟨#[code e x ((i : Int) + 1)]⟩
  have ml : doneN x ((i : Int) + 1) ≤ doneN x n := (done_spec h n _).mpr (by have := (done_spec h ((i : Int) + 1) (doneN x ((i : Int) + 1))).mp (Int.le_refl _); omega)
  unfold lt1 code
  by_cases c : GB e x (doneN x ((i : Int) + 1)) = (i : Int) + 1
  · rw [if_pos ⟨c, ml⟩, if_pos c, txt_b]
  · rw [if_neg (fun w => c w.1), if_neg c, txt_a]
theorem strs_one : ∀ cs : List Nat, strsD (cs.map fun c => DV.str ⟨#[c]⟩) = some (cs.map fun c => (⟨#[c]⟩ : Str))
  | [] => rfl
  | c :: cs => by
    rw [List.map_cons, List.map_cons]
    unfold strsD
    rw [strs_one cs]
    rfl
theorem join_one : ∀ cs : List Nat, Str.join ⟨#[]⟩ (cs.map fun c => (⟨#[c]⟩ : Str)) = ⟨cs.toArray⟩
  | [] => rfl
  | [c] => rfl
  | c :: d :: cs => by
    have ih := join_one (d :: cs)
    rw [List.map_cons, List.map_cons]
    rw [List.map_cons] at ih
    show (⟨#[c]⟩ : Str) ++ ⟨#[]⟩ ++ Str.join ⟨#[]⟩ ((⟨#[d]⟩ : Str) :: cs.map fun c => (⟨#[c]⟩ : Str)) = _
    rw [ih]
    show (⟨#[c] ++ #[] ++ (d :: cs).toArray⟩ : Str) = _
    simp
theorem sum_one : ∀ cs : List Nat, ((cs.map fun c => (⟨#[c]⟩ : Str)).map (·.length)).sum = cs.length
  | [] => rfl
  | c :: cs => by
    rw [List.map_cons, List.map_cons, List.sum_cons, sum_one cs, List.length_cons]
    show 1 + cs.length = _
    omega
theorem wd_len (n : Nat) : (wd e x n).length = n := by unfold wd; simp
theorem jn_ok (h : Ra e x) {n : Nat} (hn : n ≤ 3000) : dJoin (.str (("" : String) : Str)) (.lst (lt e x n (doneN x n))) = some (.str (wdS e x n)) := by
  rw [lt_all h n, txt_0]
  have z : (((wd e x n).map fun c => (⟨#[c]⟩ : Str)).map (·.length)).sum + ((wd e x n).map fun c => (⟨#[c]⟩ : Str)).length * (⟨#[]⟩ : Str).length ≤ 16777216 := by
    have e0 : (⟨#[]⟩ : Str).length = 0 := rfl
    rw [sum_one, wd_len, e0, Nat.mul_zero]
    omega
  unfold dJoin
  simp only [strs_one]
  rw [if_pos z, TL.join_eq, join_one]
  rfl
theorem lr_ok (h : Ra e x) {n : Nat} (hn : n ≤ 3000) (o2 o3 : Option SV) (sp : Spl) : lRep (eA (aCons (eC (.str "a")) (aNil)) oLst) (eV 1) ⟨[some (.dat (nm x)), some (.dat (.int (n : Int))), o2, o3], sp⟩ = some (lt e x n 0, ⟨[some (.dat (nm x)), some (.dat (.int (n : Int))), o2, o3], sp⟩) := by
  have k1 : (1 : Nat) ≤ sizeLine := by decide
  have e1 : (eA (aCons (eC (.str "a")) (aNil)) oLst) ⟨[some (.dat (nm x)), some (.dat (.int (n : Int))), o2, o3], sp⟩ = some (.lst [.str "a"], ⟨[some (.dat (nm x)), some (.dat (.int (n : Int))), o2, o3], sp⟩) := by
    simp only [eA, aCons, aNil, eC, oLst, List.length_cons, List.length_nil, Nat.reduceAdd, k1, if_true]
  have e2 : (eV 1) ⟨[some (.dat (nm x)), some (.dat (.int (n : Int))), o2, o3], sp⟩ = some (.int (n : Int), ⟨[some (.dat (nm x)), some (.dat (.int (n : Int))), o2, o3], sp⟩) := rfl
  have rp : decide (-(2 ^ 63) ≤ (n : Int) ∧ (n : Int) < 2 ^ 63 ∧ ([DV.str (("a" : String) : Str)] : List DV).length * (n : Int).toNat ≤ sizeLine) = true := decide_eq_true ⟨by omega, by omega, by rw [sizeLine_eq, List.length_singleton]; omega⟩
  unfold lRep
  rw [e1]
  dsimp only
  rw [e2]
  dsimp only
  rw [if_pos rp, Int.toNat_natCast, lt_0 h n]
theorem own_ok {i : Nat} {F : LF} {t t' : S} {ds : List DV} (h : F t = some (ds, t')) : sOwn i F t = some (.nx { t' with sl := t'.sl.set i (some (.own ds)) }) := by
  unfold sOwn
  rw [h]
theorem body3 {a b c : SF} {d1 d2 d : DV} {t1 t2 t3 : S} (h1 : a ⟨[some (.dat d1), some (.dat d2), none, none], spl0⟩ = some (.nx t1)) (h2 : b t1 = some (.nx t2)) (h3 : c t2 = some (.rt d t3)) : bodyP 2 4 (sSeq a (sSeq b c)) [d1, d2] = some d := by
  have e : sSeq a (sSeq b c) ⟨[some (.dat d1), some (.dat d2), none, none], spl0⟩ = some (.rt d t3) := by
    rw [seq_nx h1, seq_nx h2, h3]
  have e2 : bodyP 2 4 (sSeq a (sSeq b c)) [d1, d2] = (match sSeq a (sSeq b c) ⟨[some (.dat d1), some (.dat d2), none, none], spl0⟩ with | some (.rt d _) => some d | some (.nx _) => some .non | _ => none) := rfl
  rw [e2, e]
def b_acts : SF :=
  sSeq (sOwn 2 (lRep (eA (aCons (eC (.str "a")) (aNil)) oLst) (eV 1)))
  (sSeq (sFr (iRg2 (aCons (eC (.int 1)) (aCons (e2 (e2 (eA (aCons (eV 0) (aCons (eV 1) (aNil))) m_counts) (eC (.int 1)) dIx) (eC (.int 1)) dAdd) (aNil)))) (gNm 3) (sPut 2 (eC (.str "b")) (e2 (eA (aCons (eV 0) (aCons (eC (.str "b")) (aCons (eV 3) (aNil)))) m_place_of) (eC (.int 1)) dSub)))
  (sRt (e2 (eC (.str "")) (eV 2) dJoin)))
def m_acts : List DV → Option DV := bodyP 2 4 b_acts
theorem t_acts : ∀ ds d, m_acts ds = some d → bodyP 2 4 b_acts ds = some d := fun _ _ h => h
theorem acts_ok (h : Ra e x) {n : Nat} (hn : n ≤ 3000) : m_acts [nm x, .int (n : Int)] = some (.str (wdS e x n)) := by
  have c1 := counts_ok h (n := (n : Int)) (lt_up (a := 20) (by omega))
  have i1 : dIx (.tup [.int ((n : Int) - doneN x n), .int (doneN x n)]) (.int 1) = some (.int (doneN x n)) := rfl
  have nn := done_nn h (k := (n : Int)) (by omega)
  have le := done_le h (k := (n : Int)) (by omega)
  obtain ⟨y, r⟩ := act_loop h hn spl0 (doneN x n).toNat 0 none (by omega)
  have r' : frN ((List.range' 0 (doneN x n).toNat).map fun (i : Nat) => .int (1 + (i : Int))) (gNm 3) actBody ⟨[some (.dat (nm x)), some (.dat (.int (n : Int))), some (.own (lt e x n 0)), none], spl0⟩ = _ := r
  have r0 : inR 1 = true := rfl
  have r1 : inR (doneN x n + 1) = true := decide_eq_true (by omega)
  have rg : rngD 1 (doneN x n + 1 - 1).toNat = (List.range' 0 (doneN x n).toNat).map fun (i : Nat) => .int (1 + (i : Int)) := by
    unfold rngD
    rw [show doneN x n + 1 - 1 = doneN x n by omega, List.range_eq_range']
  have jn := jn_ok h hn
  have k1 : (1 : Nat) ≤ sizeLine := by decide
  have eb : b_acts = sSeq (sOwn 2 (lRep (eA (aCons (eC (.str "a")) (aNil)) oLst) (eV 1)))
    (sSeq (sFr (iRg2 (aCons (eC (.int 1)) (aCons (e2 (e2 (eA (aCons (eV 0) (aCons (eV 1) (aNil))) m_counts) (eC (.int 1)) dIx) (eC (.int 1)) dAdd) (aNil)))) (gNm 3) actBody)
    (sRt (e2 (eC (.str "")) (eV 2) dJoin))) := rfl
  have ai : ∀ a b : Int, dAdd (.int a) (.int b) = some (.int (a + b)) := fun _ _ => rfl
  have s1 := own_ok (i := 2) (lr_ok h hn none none spl0)
  have s2 : sFr (iRg2 (aCons (eC (.int 1)) (aCons (e2 (e2 (eA (aCons (eV 0) (aCons (eV 1) (aNil))) m_counts) (eC (.int 1)) dIx) (eC (.int 1)) dAdd) (aNil)))) (gNm 3) actBody ⟨[some (.dat (nm x)), some (.dat (.int (n : Int))), some (.own (lt e x n 0)), none], spl0⟩ = some (.nx ⟨[some (.dat (nm x)), some (.dat (.int (n : Int))), some (.own (lt e x n (doneN x n))), y], spl0⟩) := by
    clear jn s1 h hn nn le
    generalize lt e x n 0 = L0 at r' ⊢
    generalize lt e x n (doneN x n) = L1 at r' ⊢
    generalize doneN x n = D at *
    simp only [sFr, iRg2, eA, aCons, aNil, eC, eV, e2, c1, i1, ai, r0, r1, Bool.and_self, rg, if_true, List.getElem?_cons_zero, List.getElem?_cons_succ]
    exact r'
  have s3 : sRt (e2 (eC (.str "")) (eV 2) dJoin) ⟨[some (.dat (nm x)), some (.dat (.int (n : Int))), some (.own (lt e x n (doneN x n))), y], spl0⟩ = some (.rt (.str (wdS e x n)) ⟨[some (.dat (nm x)), some (.dat (.int (n : Int))), some (.dat (.lst (lt e x n (doneN x n)))), y], spl0⟩) := by
    clear s1 s2 h hn nn le r r' c1 i1 r1 rg
    generalize lt e x n (doneN x n) = L1 at jn ⊢
    generalize dJoin = JN at jn ⊢
    simp only [sRt, e2, eC, eV, List.getElem?_cons_zero, List.getElem?_cons_succ, List.set_cons_zero, List.set_cons_succ, jn]
  unfold m_acts
  rw [eb]
  exact body3 s1 s2 s3
end
end T4

set_option maxRecDepth 100000
set_option maxHeartbeats 4000000
namespace FD
open PySem PySem.Spec PyProof.Rows L2
section
variable {X : Cx} {C : Cn} {e a b c o : Expr} {es elts : List Expr} {pos p tpos p2 apos tg : Pos} {f g h : EF} {ff : AF}
/-! ## three names at once -/
def sPar3 (i j l : Nat) (g : AF) : SF := fun s => match g s with
  | some ([d, d', d''], s1) => some (.nx { s1 with sl := ((s1.sl.set i (some (.dat d))).set j (some (.dat d'))).set l (some (.dat d'')) })
  | _ => none
theorem fs_par3 (i j l : Nat) {x y z : Str} {px py pz pt : Pos} {kt k2 pt2} (ha : FA X C [a, b, c] ff) (hc : X.calm = true) (hN : X.N.Nodup) (hi : X.N[i]? = some x := by rfl) (hj : X.N[j]? = some y := by rfl) (hl : X.N[l]? = some z := by rfl) (hij : i ≠ j := by decide) (hil : i ≠ l := by decide) (hjl : j ≠ l := by decide)
    (hx : X.env.scope.names.lookup x = some .local := by rfl) (hy : X.env.scope.names.lookup y = some .local := by rfl) (hz : X.env.scope.names.lookup z = some .local := by rfl)
    (hw : swappedStores [.Tuple [.Name x px, .Name y py, .Name z pz] kt pt] (.Tuple [a, b, c] k2 pt2) X.env = pure (some [x, y, z]) := by rfl)
    (hs : swapsWithSole [.Tuple [.Name x px, .Name y py, .Name z pz] kt pt] (.Tuple [a, b, c] k2 pt2) pos.line X.env = pure false := by rfl) :
    FS X C (.Assign [.Tuple [.Name x px, .Name y py, .Name z pz] kt pt] (.Tuple [a, b, c] k2 pt2) pos) (sPar3 i j l ff) := by
  obtain ⟨ta, p, q⟩ := ha
  refine ⟨_, ps_par3 hc hN hi hj hl hij hil hjl hx hy hz p hw hs, ?_⟩
  intro G H σ s o A e1 D k
  unfold sPar3 at e1
  split at e1
  · rename_i d d' d'' s1 e2
    cases e1
    refine q G H σ s _ s1 A e2 _ fun vs H1 G1 g1 A1 r => ?_
    obtain ⟨u, v, w, e3, r1, r2, r3⟩ := r.triple
    exact ⟨u, v, w, e3, k _ H1 G1 g1 (((A1.set_dat r1).set_dat (s := { s1 with sl := s1.sl.set i (some (.dat d)) }) r2).set_dat (s := { s1 with sl := (s1.sl.set i (some (.dat d))).set j (some (.dat d')) }) r3)⟩
  · cases e1
/-! ## tuple(x) -/
def dTupOf : DV → Option DV
  | .lst ds => some (.tup ds)
  | .tup ds => some (.tup ds)
  | _ => none
theorem fe_tupleOf (hm : X.mg "tuple" = none) (ha : FE X C a f) (hg : Gl X "tuple" := by rfl) (na : starEach [a] X.env = (false, eval a X.env) :: starEach [] X.env := by rfl) : FE X C (.Call (.Name "tuple" p) [a] [] pos) (FD.e1 f dTupOf) := by
  obtain ⟨ta, p1, q1⟩ := ha
  refine ⟨_, pe_tupleOf hg hm p1 na, ?_⟩
  intro G H σ s d s' A e1 Q k
  unfold FD.e1 at e1
  split at e1
  · rename_i d0 s1 e2
    split at e1
    · rename_i z e3
      have e4 := Option.some.inj e1
      cases e4
      refine q1 G H σ s _ _ A e2 _ fun v H1 G1 g1 A1 r => ?_
      unfold dTupOf at e3
      split at e3
      · rename_i ds
        cases e3
        obtain ⟨a, vs, rfl, h1, h2⟩ := r
        exact .inl ⟨a, vs, rfl, SqL.of (A1.gh _ _ h1), tup_ok A1 h2 fun v H' G' F r => k v H' G' (g1.trans F.g) (A1.fw0 F) r⟩
      · rename_i ds
        cases e3
        obtain ⟨a, vs, rfl, h1, h2⟩ := r
        exact .inr ⟨a, vs, rfl, Same.tup A1.gh h1, k _ H1 G1 g1 A1 ⟨a, vs, rfl, h1, h2⟩⟩
      · cases e3
    · cases e1
  · cases e1
/-! ## x[::-1] of a list -/
theorem RpL.rev {K : PySem.W.Frag} {G : Hp} : ∀ {ds : List DV} {vs : List V}, RpL K G vs ds → RpL K G vs.reverse ds.reverse
  | [], _, h => by
    have e : _ = [] := h
    subst e
    rfl
  | d :: ds, _, h => by
    obtain ⟨v, r, e1, h1, h2⟩ := h
    subst e1
    rw [List.reverse_cons, List.reverse_cons]
    exact (RpL.rev h2).append (RpL.one h1)
def dRev : DV → Option DV
  | .lst ds => some (.lst ds.reverse)
  | _ => none
theorem fe_rev {k : Nat} {p1 p3 : Pos} (he : FE X C e f) : FE X C (.Subscript e (.Slice none none (some (.UnaryOp .USub (.Constant (.int 1) k p1) p2)) p3) pos) (FD.e1 f dRev) := by
  obtain ⟨te, p1', q1⟩ := he
  refine ⟨_, pe_revL p1', ?_⟩
  intro G H σ s d s' A e1 Q k
  unfold FD.e1 at e1
  split at e1
  · rename_i d0 s1 e2
    split at e1
    · rename_i z e3
      have e4 := Option.some.inj e1
      cases e4
      refine q1 G H σ s _ _ A e2 _ fun v H1 G1 g1 A1 r => ?_
      unfold dRev at e3
      split at e3
      · rename_i ds
        cases e3
        obtain ⟨a, vs, rfl, h1, h2⟩ := r
        exact ⟨a, vs, rfl, SqL.of (A1.gh _ _ h1), lst_ok A1 h2.rev fun v H' G' F r => k v H' G' (g1.trans F.g) (A1.fw0 F) r⟩
      · cases e3
    · cases e1
  · cases e1
/-! ## i.bit_length() -/
def dBits : DV → Option DV
  | .int i => some (.int (Builtin.Int.intBits i : Nat))
  | _ => none
theorem fe_bits (ho : FE X C o f) (hbase : attributeBase o "bit_length" X.env (eval o X.env) = eval o X.env := by rfl) (hline : (apos.endLine == pos.line) = true := by rfl) : FE X C (.Call (.Attribute o "bit_length" apos) [] [] pos) (FD.e1 f dBits) := by
  obtain ⟨to, p1, q1⟩ := ho
  refine ⟨_, pe_bits p1 hbase hline, ?_⟩
  intro G H σ s d s' A e1 Q k
  unfold FD.e1 at e1
  split at e1
  · rename_i d0 s1 e2
    split at e1
    · rename_i z e3
      have e4 := Option.some.inj e1
      cases e4
      refine q1 G H σ s _ _ A e2 _ fun v H1 G1 g1 A1 r => ?_
      unfold dBits at e3
      split at e3
      · rename_i i
        cases e3
        have r' : v = .int i := r
        subst r'
        exact ⟨i, rfl, k _ H1 G1 g1 A1 rfl⟩
      · cases e3
    · cases e1
  · cases e1
/-! ## divmod -/
def dDivmod : List DV → Option DV
  | [.int i, .int j] => if 0 < j ∧ Builtin.divisionGoesByPylong i j = false then some (.tup [.int (i / j), .int (i % j)]) else none
  | _ => none
theorem o_divmod {K : PySem.W.Frag} : OpA K (fun xs H Q => ∃ i j, xs = [.int i, .int j] ∧ CDivP i j ∧ ∀ p, H p = none → Q (.ref p) (upd H p (.tup [.int (i / j), .int (i % j)]))) dDivmod := by
  intro C G H σ s vs ds d A r ho Q q
  unfold dDivmod at ho
  split at ho
  · rename_i i j
    split at ho
    · rename_i hc
      cases ho
      obtain ⟨v, w, e, e1, e2⟩ := r.double
      have e1' : v = .int i := e1
      have e2' : w = .int j := e2
      subst e1' e2'
      refine ⟨i, j, e, hc, tup_ok A (ds := [.int (i / j), .int (i % j)]) ⟨_, _, rfl, rfl, RpL.one rfl⟩ q⟩
    · cases ho
  · cases ho
theorem fe_divmod (hm : X.mg "divmod" = none) (ha : FA X C [a, b] ff) (hg : Gl X "divmod" := by rfl) (he : starEach [a, b] X.env = (false, eval a X.env) :: starEach [b] X.env := by rfl) (hpl : (backTo pos (starEach [b] X.env)).any (·.1) = false := by rfl) : FE X C (.Call (.Name "divmod" p) [a, b] [] pos) (eA ff dDivmod) := fe_callB call_divmodW o_divmod hm (by decide +kernel) ha hg (he := he) (hpl := hpl)
/-! ## reversed(list) -/
theorem wk_rev {K : PySem.W.Frag} {G : Hp} {a : Addr} {vs : List V} {ds : List DV} (h : G a = some (.lst vs)) (r : RpL K G vs ds) : Wk K G (Itv K a vs.length) ds.reverse where
  stop := fun i G1 H g1 g2 hi => by
    show vs.length ≤ i
    rw [r.length, ← List.length_reverse]
    exact hi
  go := fun i G1 H g1 g2 hi => by
    rw [List.length_reverse, ← r.length] at hi
    exact ⟨hi, vs, vs[vs.length - 1 - i], SqL.of (g2 _ _ (g1 _ _ h)), List.getElem?_eq_getElem (by omega)⟩
  yld := fun i G1 H d x H' g1 g2 e y => by
    obtain ⟨e1, e2⟩ := y
    subst e1
    have hi : i < ds.length := by
      have := (List.getElem?_eq_some_iff.mp e).1
      rw [List.length_reverse] at this
      exact this
    rw [List.getElem?_reverse hi] at e
    obtain ⟨v, q1, q2⟩ := r.get e
    have q3 := e2 vs (SqL.of (g2 _ _ (g1 _ _ h)))
    rw [r.length, q1] at q3
    cases q3
    exact ⟨G1, Fw.refl g2, Rp.mono g1 d _ q2⟩
def iRev (f : EF) : LF := fun s => match f s with
  | some (.lst ds, s1) => some (ds.reverse, s1)
  | _ => none
theorem fi_rev {tg : Expr} (hm : X.mg "reversed" = none) (h : FE X C e f) (hg : Gl X "reversed" := by rfl) (hs : starEach [e] X.env = (false, eval e X.env) :: starEach [] X.env := by rfl) : FI X C tg (.Call (.Name "reversed" p) [e] [] pos) (FD.iRev f) := by
  obtain ⟨te, p1, q1⟩ := h
  refine ⟨_, RT.pi_revA hg hm p1 hs, ?_⟩
  intro G H σ s ds s' A e1 R k
  unfold FD.iRev at e1
  split at e1
  · rename_i ds' s1 e2
    cases e1
    refine q1 G H σ s _ _ A e2 _ fun v H1 G1 g1 A1 r => ?_
    obtain ⟨a, vs, rfl, r1, r2⟩ := r
    exact ⟨a, vs, rfl, .inl ⟨SqL.of (A1.gh _ _ r1), k _ H1 G1 g1 A1 (wk_rev r1 r2)⟩⟩
  · cases e1
/-! ## xs.reverse(), xs of the frame's own -/
def sRevO (i : Nat) : SF := fun s => match s.sl[i]? with
  | some (some (.own ds)) => some (.nx { s with sl := s.sl.set i (some (.own ds.reverse)) })
  | _ => none
theorem fs_revO (i : Nat) {x : Str} {pos' apos cpos : Pos} (hN : X.N[i]? = some x := by rfl) (hv : Vis X.env.scope x := by first | exact Or.inl rfl | exact Or.inr (Or.inl rfl) | exact Or.inr (Or.inr rfl)) (hd : (x == ("__debug__" : Str)) = false := by decide)
    (hcd : (x == ("__classdict__" : Str)) = false := by decide)
    (hbase : attributeBase (.Name x pos') "reverse" X.env (eval (.Name x pos') X.env) = eval (.Name x pos') X.env := by rfl)
    (hline : (apos.endLine == cpos.line) = true := by rfl)
    (hs' : swapsWith (.Call (.Attribute (.Name x pos') "reverse" apos) [] [] cpos) none pos.line X.env = pure false := by rfl) :
    FS X C (.Expr (.Call (.Attribute (.Name x pos') "reverse" apos) [] [] cpos) pos) (sRevO i) := by
  refine ⟨_, ps_expr (pe_bm0 PySem.F.plainAttrs_list PySem.F.slot_list_reverse PySem.F.type_list_reverse mt_reverse (pe_var hN hv hd hcd) hbase hline) hs', ?_⟩
  intro G H σ s o A e1 D k
  unfold sRevO at e1
  split at e1
  · rename_i ds e0
    cases e1
    obtain ⟨w, ew, a, vs0, rfl, h0, h2, _⟩ := A.slot e0
    refine ⟨.ref a, ew, .inl ⟨rfl, _, .inl (.inl h0)⟩, a, vs0, rfl, rfl, h0, ?_⟩
    exact k σ _ G (Same.refl _) (A.put_own e0 ew h2.rev)
  · cases e1
/-! ## len(x) of a name, that stays the frame's own -/
def eLenN (i : Nat) : EF := fun s => match FD.peek s i with
  | some (.lst ds) => some (.int ds.length, s)
  | _ => none
theorem fe_lenN (i : Nat) {x : Str} {pos' : Pos} (hm : X.mg "len" = none) (hN : X.N[i]? = some x := by rfl) (hv : Vis X.env.scope x := by first | exact Or.inl rfl | exact Or.inr (Or.inl rfl) | exact Or.inr (Or.inr rfl)) (hd : (x == ("__debug__" : Str)) = false := by decide)
    (hcd : (x == ("__classdict__" : Str)) = false := by decide) (hg : Gl X "len" := by rfl) (he : starEach [.Name x pos'] X.env = (false, eval (.Name x pos') X.env) :: starEach [] X.env := by rfl) : FE X C (.Call (.Name "len" p) [.Name x pos'] [] pos) (eLenN i) := by
  refine ⟨_, pe_callB call_len hg hm PySem.boot_len (pa_cons (pe_var hN hv hd hcd) pa_nil he) (he := he), ?_⟩
  intro G H σ s d s' A e1 Q k
  unfold eLenN at e1
  split at e1
  · rename_i ds e2
    cases e1
    obtain ⟨v, G', ev, g1, g2, r2, r3, r4⟩ := A.peek e2
    obtain ⟨a, vs, rfl, ha, hr⟩ := r3 ds rfl
    refine ⟨_, ev, _, _, rfl, .inl ⟨vs, SqL.of ha, hr.length.symm⟩, k _ H G (Same.refl _) A rfl⟩
  · cases e1
end
end FD

set_option maxRecDepth 100000
set_option maxHeartbeats 4000000
set_option exponentiation.threshold 30000
namespace T4
open PySem L2 FD
local macro_rules | `(tactic| walk_at "fd") => `(tactic| simp only [bodyP, bodyS, sSeq, sIf, sNx, sRt, sAsg, sDr, sPar, sAug, tBl, tTr, tAn, tOo, tNo, eC, eV, eA, eIf, eAn, eOo, eNo, e1, e2, eIxN, FD.peek, aCons, aNil, gNm, gTp, gCo, gNi, dI, dAddI, dMulI, dAdd, dSub, dMul, dFdiv, dMod, dNeg, dGcd, dMax, dMin, dAbs, dSq, dEq_int, dNe_int, dIx, oTup, truD, List.length_cons, List.length_nil, List.map_cons, List.map_nil, List.cons_append, List.nil_append, List.replicate_succ, List.replicate_zero, List.getElem?_cons_zero, List.getElem?_cons_succ, List.set_cons_succ, List.set_cons_zero, Nat.reduceAdd, Nat.reduceSub, Nat.sub_self, if_true, decide_true, decide_false, Bool.not_true, Bool.not_false, Bool.false_eq_true, if_false, reduceCtorEq, *])

/-! ## quotients of a ratio with a root: a state (P + root N) / S with S * B = N - P * P -/
theorem rep_cross {e : Int} {x : Num} {P Q S P' Q' S' : Int} (h : Rep e x P Q S) (hS' : S' ≠ 0) (h1 : P * S' = P' * S) (h2 : Q * S' = Q' * S) : Rep e x P' Q' S' := by
  obtain ⟨c, s1, a1, b1⟩ := h
  refine ⟨c, hS', Int.eq_of_mul_eq_mul_left s1 ?_, Int.eq_of_mul_eq_mul_left s1 ?_⟩
  · grind
  · grind
theorem rep_inv' {e : Int} {z : Num} {P Q S : Int} (h : Rep e z P Q S) (hn : P * P - Q * Q * e ≠ 0) : Rep e (invN z) (P * S) (-Q * S) (P * P - Q * Q * e) := by
  obtain ⟨c, s1, a1, b1⟩ := h
  have z0 := c.1
  have hz : z.1 * z.1 - z.2.1 * z.2.1 * e ≠ 0 := fun w => by
    have k : (z.2.2.2 * z.2.2.2) * (P * P - Q * Q * e) = (S * S) * (z.1 * z.1 - z.2.1 * z.2.1 * e) := by grind
    rw [w, Int.mul_zero] at k
    rcases Int.mul_eq_zero.mp k with u | u
    · have := Int.mul_pos z0 z0
      omega
    · exact hn u
  refine rep_cross (rep_inv c hz) hn ?_ ?_
  · grind
  · grind
structure SStt where
  P : Int
  S : Int
  B : Int
def qOf (fr : Int) (t : SStt) : Int := if 0 < t.S then (t.P + fr).fdiv t.S else (t.P + fr + 1).fdiv t.S
def stepS (fr : Int) (t : SStt) : SStt := ⟨qOf fr t * t.S - t.P, t.B + qOf fr t * (t.P - (qOf fr t * t.S - t.P)), t.S⟩
def stS (fr : Int) : Nat → SStt → SStt
  | 0, t => t
  | i + 1, t => stS fr i (stepS fr t)
theorem stS_succ (fr : Int) : ∀ (i : Nat) (t : SStt), stS fr (i + 1) t = stepS fr (stS fr i t)
  | 0, _ => rfl
  | i + 1, t => stS_succ fr i (stepS fr t)
/-- a state that goes with a root K root e -/
structure SOk (e K fr : Int) (t : SStt) : Prop where
  s0 : t.S ≠ 0
  sb : t.S * t.B = K * K * e - t.P * t.P
structure KOk (e K fr : Int) : Prop where
  e0 : 0 < e
  ir : Irr e
  k0 : 0 < K
  fr : fr = sq (K * K * e)
theorem KOk.spec {e K fr : Int} (h : KOk e K fr) : 0 ≤ fr ∧ fr * fr < K * K * e ∧ K * K * e < (fr + 1) * (fr + 1) := by
  obtain ⟨e0, ir, k0, rfl⟩ := h
  obtain ⟨a, b, c⟩ := sq_spec (n := K * K * e) (Int.mul_nonneg (sq_nn K) (Int.le_of_lt e0))
  refine ⟨a, ?_, c⟩
  have : sq (K * K * e) * sq (K * K * e) ≠ K * K * e := fun w => by have := ir _ _ w; omega
  omega
theorem KOk.ne {e K fr : Int} (h : KOk e K fr) (P : Int) : K * K * e - P * P ≠ 0 := fun w => by have := h.ir P K (by omega); have := h.k0; omega
theorem SOk.step {e K fr : Int} {t : SStt} (k : KOk e K fr) (h : SOk e K fr t) : SOk e K fr (stepS fr t) := by
  obtain ⟨s0, sb⟩ := h
  unfold stepS
  generalize qOf fr t = q
  have key : (t.B + q * (t.P - (q * t.S - t.P))) * t.S = K * K * e - (q * t.S - t.P) * (q * t.S - t.P) := by grind
  refine ⟨fun w => ?_, key⟩
  have w' : t.B + q * (t.P - (q * t.S - t.P)) = 0 := w
  rw [w', Int.zero_mul] at key
  exact k.ne _ key.symm
theorem neg_fdiv {a b : Int} : (-a).fdiv (-b) = a.fdiv b := Int.neg_fdiv_neg a b
/-- the quotient is the floor -/
theorem q_floor {e K fr : Int} {t : SStt} {y : Num} (k : KOk e K fr) (h : SOk e K fr t) (r : Rep e y t.P K t.S) : flo y.1 y.2.1 y.2.2.1 y.2.2.2 = qOf fr t := by
  have k0 := k.k0
  unfold qOf
  by_cases z : 0 < t.S
  · rw [rep_flo r z (Int.le_of_lt k.e0), if_pos z]
    unfold flo
    rw [if_neg (by omega), ← k.fr]
  · have s0 := h.s0
    have r' : Rep e y (-t.P) (-K) (-t.S) := rep_cross r (by omega) (by grind) (by grind)
    rw [rep_flo r' (by omega) (Int.le_of_lt k.e0), if_neg z]
    unfold flo
    rw [if_pos (by omega), Int.neg_mul_neg, ← k.fr, ← neg_fdiv (a := t.P + fr + 1)]
    congr 1
    omega
/-- what is left, turned round -/
theorem rep_next {e K fr : Int} {t : SStt} {y : Num} (k : KOk e K fr) (h : SOk e K fr t) (r : Rep e y t.P K t.S) : Rep e (invN (addN y (0 - qOf fr t, 0, 0, 1))) (stepS fr t).P K (stepS fr t).S := by
  have h' := h.step k
  have r1 := rep_add k.e0 r (rep_self (can_int e (0 - qOf fr t)))
  simp only [Int.mul_one, Int.zero_mul, Int.add_zero] at r1
  have sb := h.sb
  have sb' := h'.sb
  have s0 := h.s0
  have s0' := h'.s0
  unfold stepS at *
  dsimp only at *
  generalize qOf fr t = q at *
  have hn : (t.P + (0 - q) * t.S) * (t.P + (0 - q) * t.S) - K * K * e ≠ 0 := fun w => k.ne (t.P + (0 - q) * t.S) (by omega)
  refine rep_cross (rep_inv' r1 hn) s0' ?_ ?_
  · grind
  · grind
theorem q_spec (fr : Int) {t : SStt} (s0 : t.S ≠ 0) : (0 < t.S → fr - t.S < (stepS fr t).P ∧ (stepS fr t).P ≤ fr) ∧ (t.S < 0 → fr + 1 ≤ (stepS fr t).P ∧ (stepS fr t).P ≤ fr - t.S) := by
  unfold stepS qOf
  dsimp only
  constructor
  · intro z
    rw [if_pos z]
    obtain ⟨a, b⟩ := fdiv_spec (a := t.P + fr) z
    rw [Int.add_mul] at b
    omega
  · intro z
    rw [if_neg (by omega)]
    obtain ⟨a, b⟩ := fdiv_spec (a := -(t.P + fr + 1)) (s := -t.S) (by omega)
    rw [neg_fdiv] at a b
    generalize (t.P + fr + 1).fdiv t.S = v at *
    rw [Int.add_mul, Int.mul_neg] at b
    rw [Int.mul_neg] at a
    omega
/-- the sizes grow slowly -/
structure SBd (fr M : Int) (t : SStt) : Prop where
  s : -M ≤ t.S ∧ t.S ≤ M
  p : -(M + fr) ≤ t.P ∧ t.P ≤ M + fr
theorem SBd.up {fr M M' : Int} {t : SStt} (h : SBd fr M t) (hM : M ≤ M') : SBd fr M' t := by
  obtain ⟨⟨a, b⟩, c, d⟩ := h
  exact ⟨⟨by omega, by omega⟩, by omega, by omega⟩
theorem SBd.step {e K fr M : Int} {t : SStt} (k : KOk e K fr) (h : SOk e K fr t) (b : SBd fr M t) : SBd fr (M + 2 * fr + 1) (stepS fr t) := by
  have h' := h.step k
  obtain ⟨f0, f1, f2⟩ := k.spec
  obtain ⟨q1, q2⟩ := q_spec fr h.s0
  obtain ⟨⟨b1, b2⟩, b3, b4⟩ := b
  have sb := h'.sb
  have s0 := h.s0
  have e1 : (stepS fr t).B = t.S := rfl
  rw [e1] at sb
  suffices g : (-(M + 2 * fr + 1) ≤ (stepS fr t).S ∧ (stepS fr t).S ≤ M + 2 * fr + 1) ∧ -(M + 2 * fr + 1 + fr) ≤ (stepS fr t).P ∧ (stepS fr t).P ≤ M + 2 * fr + 1 + fr from ⟨g.1, g.2⟩
  generalize (stepS fr t).P = P' at *
  generalize (stepS fr t).S = S' at *
  have hP : -(M + fr) ≤ P' ∧ P' ≤ M + fr := by
    rcases Int.lt_trichotomy t.S 0 with z | z | z
    · obtain ⟨c1, c2⟩ := q2 z; omega
    · exact absurd z s0
    · obtain ⟨c1, c2⟩ := q1 z; omega
  refine ⟨?_, by omega, by omega⟩
  have up : ∀ X : Int, 0 ≤ X → ∀ s : Int, 0 < s → s ≤ M → S' * s < X * s + s → -(X * s) - s < S' * s → -(X + 1) < S' ∧ S' < X + 1 := by
    intro X hX s hs _ c1 c2
    have d1 : S' * s < (X + 1) * s := by rw [Int.add_mul]; omega
    have d2 : -(X + 1) * s < S' * s := by rw [Int.neg_mul, Int.add_mul]; omega
    exact ⟨Int.lt_of_mul_lt_mul_right d2 (by omega), Int.lt_of_mul_lt_mul_right d1 (by omega)⟩
  rcases Int.lt_trichotomy t.S 0 with z | z | z
  · obtain ⟨c1, c2⟩ := q2 z
    -- P' from fr + 1 to fr - S: N - P' P' is below 0, at least ..
    have u := up (2 * fr + (-t.S)) (by omega) (-t.S) (by omega) (by omega) (by
        have : K * K * e < P' * P' := Int.lt_of_lt_of_le f2 (Int.mul_le_mul c1 c1 (by omega) (by omega))
        have e2 : S' * -t.S = P' * P' - K * K * e := by rw [Int.mul_neg]; omega
        rw [e2]
        have g1 : P' * P' ≤ (fr - t.S) * (fr - t.S) := Int.mul_le_mul c2 c2 (by omega) (by omega)
        have g2 : (fr - t.S) * (fr - t.S) = fr * fr + (2 * fr + -t.S) * -t.S := by grind
        omega) (by
        have : K * K * e < P' * P' := Int.lt_of_lt_of_le f2 (Int.mul_le_mul c1 c1 (by omega) (by omega))
        have e2 : S' * -t.S = P' * P' - K * K * e := by rw [Int.mul_neg]; omega
        rw [e2]
        have := Int.mul_nonneg (show 0 ≤ 2 * fr + -t.S by omega) (show 0 ≤ -t.S by omega)
        omega)
    omega
  · exact absurd z s0
  · obtain ⟨c1, c2⟩ := q1 z
    have u := up (2 * fr + 1 + t.S) (by omega) t.S z (by omega) (by
        have e2 : S' * t.S = K * K * e - P' * P' := sb
        rw [e2]
        -- N < (fr + 1)^2, and fr + 1 - P' at most S
        by_cases w : 0 ≤ fr + 1 + P'
        · have g1 := Int.mul_le_mul_of_nonneg_right (show fr + 1 - P' ≤ t.S by omega) w
          have g2 : (fr + 1 - P') * (fr + 1 + P') = (fr + 1) * (fr + 1) - P' * P' := by grind
          have g3 := Int.mul_le_mul_of_nonneg_left (show fr + 1 + P' ≤ 2 * fr + 1 + t.S by omega) (show 0 ≤ t.S by omega)
          have g4 : t.S * (2 * fr + 1 + t.S) = (2 * fr + 1 + t.S) * t.S := Int.mul_comm _ _
          omega
        · have g1 : (fr + 1) * (fr + 1) ≤ -P' * -P' := Int.mul_le_mul (by omega) (by omega) (by omega) (by omega)
          rw [Int.neg_mul_neg] at g1
          have := Int.mul_nonneg (show 0 ≤ 2 * fr + 1 + t.S by omega) (show 0 ≤ t.S by omega)
          omega) (by
        have e2 : S' * t.S = K * K * e - P' * P' := sb
        rw [e2]
        have := Int.mul_nonneg (show 0 ≤ 2 * fr + 1 + t.S by omega) (show 0 ≤ t.S by omega)
        by_cases w : 0 ≤ P'
        · have g1 : P' * P' ≤ fr * fr := Int.mul_le_mul c2 c2 w f0
          omega
        · have g1 : -P' * -P' ≤ (t.S - fr) * (t.S - fr) := Int.mul_le_mul (by omega) (by omega) (by omega) (by omega)
          rw [Int.neg_mul_neg] at g1
          have g2 : (t.S - fr) * (t.S - fr) = fr * fr - 2 * fr * t.S + t.S * t.S := by grind
          have g3 : (2 * fr + 1 + t.S) * t.S = 2 * fr * t.S + t.S + t.S * t.S := by grind
          have := Int.mul_nonneg (show 0 ≤ 2 * fr by omega) (show 0 ≤ t.S by omega)
          omega)
    omega
end T4

set_option maxRecDepth 100000
set_option maxHeartbeats 4000000
set_option exponentiation.threshold 30000
namespace T4
open PySem L2 FD
local macro_rules | `(tactic| walk_at "fd") => `(tactic| simp only [bodyP, bodyS, sSeq, sIf, sNx, sRt, sAsg, sDr, sPar, sAug, tBl, tTr, tAn, tOo, tNo, eC, eV, eA, eIf, eAn, eOo, eNo, e1, e2, eIxN, FD.peek, aCons, aNil, gNm, gTp, gCo, gNi, dI, dAddI, dMulI, dAdd, dSub, dMul, dFdiv, dMod, dNeg, dGcd, dMax, dMin, dAbs, dSq, dEq_int, dNe_int, dIx, oTup, truD, List.length_cons, List.length_nil, List.map_cons, List.map_nil, List.cons_append, List.nil_append, List.replicate_succ, List.replicate_zero, List.getElem?_cons_zero, List.getElem?_cons_succ, List.set_cons_succ, List.set_cons_zero, Nat.reduceAdd, Nat.reduceSub, Nat.sub_self, if_true, decide_true, decide_false, Bool.not_true, Bool.not_false, Bool.false_eq_true, if_false, reduceCtorEq, *])

def stD (t : SStt) : DV := .tup [.int t.P, .int t.S, .int t.B]
structure SSz (b : Nat) (fr : Int) (t : SStt) : Prop where
  p : t.P.natAbs < 2 ^ b
  s : t.S.natAbs < 2 ^ b
  bb : t.B.natAbs < 2 ^ b
  f : fr.natAbs < 2 ^ b
instance (b : Nat) (fr : Int) (t : SStt) : Decidable (SSz b fr t) := decidable_of_iff (t.P.natAbs < 2 ^ b ∧ t.S.natAbs < 2 ^ b ∧ t.B.natAbs < 2 ^ b ∧ fr.natAbs < 2 ^ b) ⟨fun h => ⟨h.1, h.2.1, h.2.2.1, h.2.2.2⟩, fun h => ⟨h.p, h.s, h.bb, h.f⟩⟩
theorem fdiv_any {A s : Int} (hs : s ≠ 0) : (A.fdiv s).natAbs ≤ A.natAbs := by
  rcases Int.lt_trichotomy s 0 with z | z | z
  · have := fdiv_le (A := -A) (s := -s) (by omega)
    rw [neg_fdiv] at this
    omega
  · exact absurd z hs
  · exact fdiv_le z
theorem q_sz {b : Nat} {fr : Int} {t : SStt} (h : SSz b fr t) (s0 : t.S ≠ 0) : (qOf fr t).natAbs < 2 ^ (b + 2) := by
  have z1 := add_lt h.p h.f
  unfold qOf
  split
  · exact Nat.lt_of_le_of_lt (fdiv_any s0) (lt_up z1 (by omega))
  · exact Nat.lt_of_le_of_lt (fdiv_any s0) (add_lt z1 (Nat.one_lt_two_pow (by omega)))
def b_surd_step : SF :=
  sSeq (sAsg (eV 0) (gTp 3 (gCo (gNm 2) (gCo (gNm 3) (gCo (gNm 4) (gNi))))))
  (sSeq (sAsg (eIf (tBl (e2 (eV 3) (eC (.int 0)) dGt)) (e2 (e2 (eV 2) (eV 1) dAdd) (eV 3) dFdiv) (e2 (e2 (e2 (eV 2) (eV 1) dAdd) (eC (.int 1)) dAdd) (eV 3) dFdiv)) (gNm 5))
  (sSeq (sAsg (e2 (e2 (eV 5) (eV 3) dMul) (eV 2) dSub) (gNm 6))
  (sRt (eA (aCons (eV 5) (aCons (eA (aCons (eV 6) (aCons (e2 (eV 4) (e2 (eV 5) (e2 (eV 2) (eV 6) dSub) dMul) dAdd) (aCons (eV 3) (aNil)))) oTup) (aNil))) oTup))))
def m_surd_step : List DV → Option DV
  | [.tup [.int P, .int S, .int B], .int fr] => if S ≠ 0 ∧ SSz 2000 fr ⟨P, S, B⟩ then some (.tup [.int (qOf fr ⟨P, S, B⟩), stD (stepS fr ⟨P, S, B⟩)]) else none
  | _ => none
theorem t_surd_step : ∀ ds d, m_surd_step ds = some d → bodyP 2 7 b_surd_step ds = some d := by
  intro ds d h
  unfold m_surd_step at h
  split at h
  · rename_i P S B fr
    split at h
    · rename_i ok
      obtain ⟨s0, sz⟩ := ok
      have hq := q_sz sz s0
      obtain ⟨z1, z2, z3, z4⟩ := sz
      dsimp only at z1 z2 z3
      have e := Option.some.inj h
      subst e
      have f1 : fitM (qOf fr ⟨P, S, B⟩) S = true := fit_of hq z2
      have f2 : fitM (qOf fr ⟨P, S, B⟩) (P - (qOf fr ⟨P, S, B⟩ * S - P)) = true := fit_of hq (sub_lt (a := 4003) (lt_up z1) (sub_lt (a := 4002) (mul_lt hq z2) (lt_up z1)))
      have hc : decide (S ≠ 0 ∧ S.natAbs.log2 < 9000) = true := decide_eq_true (div_ok s0 (lt_up z2))
      have k3 : (3 : Nat) ≤ sizeLine := by decide
      have k2 : (2 : Nat) ≤ sizeLine := by decide
      have ai : ∀ a b : Int, dAdd (.int a) (.int b) = some (.int (a + b)) := fun _ _ => rfl
      unfold b_surd_step stD stepS
      unfold qOf at f1 f2 ⊢
      dsimp only at f1 f2 ⊢
      by_cases w : 0 < S
      · have w' : decide (0 < S) = true := decide_eq_true w
        rw [if_pos w] at f1 f2 ⊢
        clear h s0 hq z1 z2 z3 z4 w
        simp only [bodyP, sSeq, sAsg, sRt, eV, eC, eA, eIf, tBl, e2, dI, dFdiv, dMul, dSub, ai, aCons, aNil, gTp, gCo, gNm, gNi, oTup, hc, w', f1, f2, k3, k2, List.length_cons, List.length_nil, List.map_cons, List.map_nil, List.cons_append, List.nil_append, List.replicate_succ, List.replicate_zero, List.getElem?_cons_zero, List.getElem?_cons_succ, List.set_cons_succ, List.set_cons_zero, Nat.reduceAdd, Nat.reduceSub, Nat.sub_self, if_true]
      · have w' : decide (0 < S) = false := decide_eq_false w
        rw [if_neg w] at f1 f2 ⊢
        clear h s0 hq z1 z2 z3 z4 w
        simp only [bodyP, sSeq, sAsg, sRt, eV, eC, eA, eIf, tBl, e2, dI, dFdiv, dMul, dSub, ai, aCons, aNil, gTp, gCo, gNm, gNi, oTup, hc, w', f1, f2, k3, k2, List.length_cons, List.length_nil, List.map_cons, List.map_nil, List.cons_append, List.nil_append, List.replicate_succ, List.replicate_zero, List.getElem?_cons_zero, List.getElem?_cons_succ, List.set_cons_succ, List.set_cons_zero, Nat.reduceAdd, Nat.reduceSub, Nat.sub_self, if_true]
    · cases h
  · cases h
/-! ## the first state -/
def sgn1 (q p : Int) : Int := if q < 0 then -p else p
def wide0 (x : Num) : Int := if (x.2.1 * x.2.1 * x.2.2.1 - sgn1 x.2.1 x.1 * sgn1 x.2.1 x.1).fmod (sgn1 x.2.1 x.2.2.2) = 0 then 1 else (if sgn1 x.2.1 x.2.2.2 < 0 then -sgn1 x.2.1 x.2.2.2 else sgn1 x.2.1 x.2.2.2)
def n0 (x : Num) : Int := x.2.1 * x.2.1 * x.2.2.1 * wide0 x * wide0 x
def st0 (x : Num) : SStt := ⟨sgn1 x.2.1 x.1 * wide0 x, sgn1 x.2.1 x.2.2.2 * wide0 x, (n0 x - sgn1 x.2.1 x.1 * wide0 x * (sgn1 x.2.1 x.1 * wide0 x)).fdiv (sgn1 x.2.1 x.2.2.2 * wide0 x)⟩
def K0 (x : Num) : Int := sgn1 x.2.1 x.2.1 * wide0 x
theorem sgn1_sq (q p : Int) : sgn1 q p * sgn1 q p = p * p := by
  unfold sgn1
  split
  · exact Int.neg_mul_neg p p
  · rfl
theorem sgn1_sz {q p : Int} {b : Nat} (h : p.natAbs < 2 ^ b) : (sgn1 q p).natAbs < 2 ^ b := by
  unfold sgn1
  split <;> omega
section
variable {e : Int} {x : Num}
theorem wide_pos (s0 : x.2.2.2 ≠ 0) : 0 < wide0 x := by
  unfold wide0
  split
  · decide
  · have : sgn1 x.2.1 x.2.2.2 ≠ 0 := by unfold sgn1; split <;> omega
    split <;> omega
theorem wide_sz {b : Nat} (h : x.2.2.2.natAbs < 2 ^ b) (hb : 1 ≤ b) : (wide0 x).natAbs < 2 ^ b := by
  have := sgn1_sz (q := x.2.1) h
  unfold wide0
  split
  · exact Nat.one_lt_two_pow (by omega)
  · split <;> omega
theorem root_d (c : Can e x) (q0 : x.2.1 ≠ 0) : x.2.2.1 = e := by rw [c.2.2, if_neg q0]
theorem n0_eq (c : Can e x) (q0 : x.2.1 ≠ 0) : n0 x = K0 x * K0 x * e := by
  have h := sgn1_sq x.2.1 x.2.1
  unfold n0 K0
  rw [root_d c q0]
  grind
theorem st0_ok (c : Can e x) (q0 : x.2.1 ≠ 0) (he : 0 < e ∧ Irr e) : KOk e (K0 x) (sq (n0 x)) ∧ SOk e (K0 x) (sq (n0 x)) (st0 x) ∧ Rep e x (st0 x).P (K0 x) (st0 x).S := by
  have s0 := c.1
  have w0 := wide_pos (x := x) (by omega)
  have g0 : sgn1 x.2.1 x.2.2.2 ≠ 0 := by unfold sgn1; split <;> omega
  have kp : 0 < sgn1 x.2.1 x.2.1 := by unfold sgn1; split <;> omega
  have hS : sgn1 x.2.1 x.2.2.2 * wide0 x ≠ 0 := Int.mul_ne_zero g0 (by omega)
  refine ⟨⟨he.1, he.2, Int.mul_pos kp w0, by rw [n0_eq c q0]⟩, ⟨hS, ?_⟩, ?_⟩
  · -- the division has no rest
    have dv : (sgn1 x.2.1 x.2.2.2 * wide0 x) ∣ (n0 x - sgn1 x.2.1 x.1 * wide0 x * (sgn1 x.2.1 x.1 * wide0 x)) := by
      have e1 : n0 x - sgn1 x.2.1 x.1 * wide0 x * (sgn1 x.2.1 x.1 * wide0 x) = (x.2.1 * x.2.1 * x.2.2.1 - sgn1 x.2.1 x.1 * sgn1 x.2.1 x.1) * wide0 x * wide0 x := by unfold n0; grind
      rw [e1]
      by_cases z : (x.2.1 * x.2.1 * x.2.2.1 - sgn1 x.2.1 x.1 * sgn1 x.2.1 x.1).fmod (sgn1 x.2.1 x.2.2.2) = 0
      · have w1 : wide0 x = 1 := if_pos z
        rw [w1, Int.mul_one, Int.mul_one, Int.mul_one]
        exact Int.dvd_of_fmod_eq_zero z
      · have w1 : wide0 x = (if sgn1 x.2.1 x.2.2.2 < 0 then -sgn1 x.2.1 x.2.2.2 else sgn1 x.2.1 x.2.2.2) := if_neg z
        have w2 : sgn1 x.2.1 x.2.2.2 ∣ wide0 x := by
          rw [w1]
          split
          · exact Int.dvd_neg.mpr (Int.dvd_refl _)
          · exact Int.dvd_refl _
        obtain ⟨k, hk⟩ := w2
        generalize wide0 x = W at *
        refine ⟨(x.2.1 * x.2.1 * x.2.2.1 - sgn1 x.2.1 x.1 * sgn1 x.2.1 x.1) * k, ?_⟩
        generalize sgn1 x.2.1 x.2.2.2 = g at *
        generalize x.2.1 * x.2.1 * x.2.2.1 - sgn1 x.2.1 x.1 * sgn1 x.2.1 x.1 = A
        rw [hk]
        grind
    show sgn1 x.2.1 x.2.2.2 * wide0 x * (n0 x - sgn1 x.2.1 x.1 * wide0 x * (sgn1 x.2.1 x.1 * wide0 x)).fdiv (sgn1 x.2.1 x.2.2.2 * wide0 x) = _
    rw [Int.mul_fdiv_cancel' dv, n0_eq c q0]
    rfl
  · refine rep_cross (rep_self c) hS ?_ ?_
    · show x.1 * (sgn1 x.2.1 x.2.2.2 * wide0 x) = sgn1 x.2.1 x.1 * wide0 x * x.2.2.2
      unfold sgn1
      split <;> grind
    · show x.2.1 * (sgn1 x.2.1 x.2.2.2 * wide0 x) = sgn1 x.2.1 x.2.1 * wide0 x * x.2.2.2
      unfold sgn1
      split <;> grind
end
def b_surd_of : SF :=
  sSeq (sAsg (eV 0) (gTp 4 (gCo (gNm 1) (gCo (gNm 2) (gCo (gNm 3) (gCo (gNm 4) (gNi)))))))
  (sSeq (sIf (tBl (e2 (eV 2) (eC (.int 0)) dLt)) (sPar 1 4 (aCons (e1 (eV 1) dNeg) (aCons (e1 (eV 4) dNeg) (aNil)))) (sNx))
  (sSeq (sAsg (e2 (e2 (eV 2) (eV 2) dMul) (eV 3) dMul) (gNm 5))
  (sSeq (sIf (tBl (e2 (e2 (e2 (eV 5) (e2 (eV 1) (eV 1) dMul) dSub) (eV 4) dMod) (eC (.int 0)) dNe)) (sSeq (sAsg (eA (aCons (eV 4) (aNil)) dAbs) (gNm 6))
  (sPar3 1 4 5 (aCons (e2 (eV 1) (eV 6) dMul) (aCons (e2 (eV 4) (eV 6) dMul) (aCons (e2 (e2 (eV 5) (eV 6) dMul) (eV 6) dMul) (aNil)))))) (sNx))
  (sRt (eA (aCons (eA (aCons (eV 1) (aCons (eV 4) (aCons (e2 (e2 (eV 5) (e2 (eV 1) (eV 1) dMul) dSub) (eV 4) dFdiv) (aNil)))) oTup) (aCons (eA (aCons (eV 5) (aNil)) dSq) (aNil))) oTup)))))
def m_surd_of : List DV → Option DV
  | [.tup [.int p, .int q, .int d, .int s]] => if q ≠ 0 ∧ s ≠ 0 ∧ 0 ≤ d ∧ SzN 500 (p, q, d, s) then some (.tup [stD (st0 (p, q, d, s)), .int (sq (n0 (p, q, d, s)))]) else none
  | _ => none
theorem t_surd_of : ∀ ds d, m_surd_of ds = some d → bodyP 1 7 b_surd_of ds = some d := by
  intro ds d h
  unfold m_surd_of at h
  split at h
  · rename_i p q e s
    split at h
    · rename_i ok
      obtain ⟨q0, s0, d0, z1, z2, z3, z4⟩ := ok
      dsimp only at z1 z2 z3 z4
      have ee := Option.some.inj h
      subst ee
      have hw := wide_sz (x := (p, q, e, s)) (b := 500) z4 (by decide)
      have wp := wide_pos (x := (p, q, e, s)) s0
      have zp := sgn1_sz (q := q) z1
      have zs := sgn1_sz (q := q) z4
      have f1 := fit_of z2 z2
      have f2 := fit_of (mul_lt z2 z2) z3
      have g0 : sgn1 q s ≠ 0 := by unfold sgn1; split <;> omega
      have f3 := fit_of zp zp
      have f4 := fit_of zp hw
      have f5 := fit_of zs hw
      have f6 := fit_of (mul_lt (mul_lt z2 z2) z3) hw
      have f7 := fit_of (mul_lt (mul_lt (mul_lt z2 z2) z3) hw) hw
      have f8 := fit_of (mul_lt zp hw) (mul_lt zp hw)
      have hm : decide (sgn1 q s ≠ 0) = true := decide_eq_true g0
      have hS : sgn1 q s * wide0 (p, q, e, s) ≠ 0 := Int.mul_ne_zero g0 (by omega)
      have hc : decide (sgn1 q s * wide0 (p, q, e, s) ≠ 0 ∧ (sgn1 q s * wide0 (p, q, e, s)).natAbs.log2 < 9000) = true := decide_eq_true (div_ok hS (lt_up (mul_lt zs hw)))
      have nn : 0 ≤ n0 (p, q, e, s) := Int.mul_nonneg (Int.mul_nonneg (Int.mul_nonneg (sq_nn q) d0) (Int.le_of_lt wp)) (Int.le_of_lt wp)
      have hq : okSq (n0 (p, q, e, s)) = true := by
        have zn : (n0 (p, q, e, s)).natAbs < 2 ^ (500 + 500 + 500 + 500 + 500) := mul_lt (mul_lt (mul_lt (mul_lt z2 z2) z3) hw) hw
        have := log2_lt_of zn
        refine decide_eq_true ⟨nn, ?_⟩
        have e1 : (n0 (p, q, e, s)).toNat = (n0 (p, q, e, s)).natAbs := by omega
        rw [e1]; omega
      have k4 : (4 : Nat) ≤ sizeLine := by decide
      have k3 : (3 : Nat) ≤ sizeLine := by decide
      have k2 : (2 : Nat) ≤ sizeLine := by decide
      have eS : st0 (p, q, e, s) = ⟨sgn1 q p * wide0 (p, q, e, s), sgn1 q s * wide0 (p, q, e, s), (n0 (p, q, e, s) - sgn1 q p * wide0 (p, q, e, s) * (sgn1 q p * wide0 (p, q, e, s))).fdiv (sgn1 q s * wide0 (p, q, e, s))⟩ := rfl
      have eN : n0 (p, q, e, s) = q * q * e * wide0 (p, q, e, s) * wide0 (p, q, e, s) := rfl
      have eW : wide0 (p, q, e, s) = if (q * q * e - sgn1 q p * sgn1 q p).fmod (sgn1 q s) = 0 then 1 else (if sgn1 q s < 0 then -sgn1 q s else sgn1 q s) := rfl
      have hst : (sIf (tBl (e2 (eV 2) (eC (.int 0)) dLt)) (sPar 1 4 (aCons (e1 (eV 1) dNeg) (aCons (e1 (eV 4) dNeg) (aNil)))) (sNx)) ⟨[some (.dat (.tup [.int p, .int q, .int e, .int s])), some (.dat (.int p)), some (.dat (.int q)), some (.dat (.int e)), some (.dat (.int s)), none, none], spl0⟩ = some (.nx ⟨[some (.dat (.tup [.int p, .int q, .int e, .int s])), some (.dat (.int (sgn1 q p))), some (.dat (.int q)), some (.dat (.int e)), some (.dat (.int (sgn1 q s))), none, none], spl0⟩) := by
        unfold sgn1
        by_cases hq0 : q < 0
        · have d1 : decide (q < 0) = true := decide_eq_true hq0
          rw [if_pos hq0, if_pos hq0]
          simp only [sIf, tBl, e2, eV, eC, dI, d1, sPar, FD.e1, dNeg, aCons, aNil, List.length_cons, List.length_nil, List.map_cons, List.map_nil, List.cons_append, List.nil_append, List.replicate_succ, List.replicate_zero, List.getElem?_cons_zero, List.getElem?_cons_succ, List.set_cons_succ, List.set_cons_zero, Nat.reduceAdd, Nat.reduceSub, Nat.sub_self, if_true]
        · have d1 : decide (q < 0) = false := decide_eq_false hq0
          rw [if_neg hq0, if_neg hq0]
          simp only [sIf, tBl, e2, eV, eC, dI, d1, sNx, List.length_cons, List.length_nil, List.map_cons, List.map_nil, List.cons_append, List.nil_append, List.replicate_succ, List.replicate_zero, List.getElem?_cons_zero, List.getElem?_cons_succ, List.set_cons_succ, List.set_cons_zero, Nat.reduceAdd, Nat.reduceSub, Nat.sub_self, if_true]
      clear h q0 s0 d0 z1 z2 z3 z4 hw wp zp zs g0 hS nn
      rw [eS]
      unfold stD
      dsimp only
      rw [eN] at hq ⊢
      clear eS eN
      generalize wide0 (p, q, e, s) = W at *
      generalize sgn1 q p = A at *
      generalize sgn1 q s = B at *
      unfold b_surd_of
      generalize sIf (tBl (e2 (eV 2) (eC (.int 0)) dLt)) (sPar 1 4 (aCons (e1 (eV 1) dNeg) (aCons (e1 (eV 4) dNeg) (aNil)))) (sNx) = FIRST at hst ⊢
      by_cases z : (q * q * e - A * A).fmod B = 0
      · have z' := beq_t z
        rw [if_pos z] at eW
        subst eW
        simp only [Int.mul_one] at *
        have eq : ((Float64.isqrt (q * q * e).toNat : Nat) : Int) = sq (q * q * e) := rfl
        clear z
        simp only [bodyP, sSeq, sAsg, sRt, sIf, sNx, eV, eC, eA, tBl, FD.e1, e2, dI, dFdiv, dMul, dSub, dMod, dNe_int, dSq, aCons, aNil, gTp, gCo, gNm, gNi, oTup, hst, f1, f2, f3, hm, z', hc, hq, eq, Bool.not_true, k4, k3, k2, List.length_cons, List.length_nil, List.map_cons, List.map_nil, List.cons_append, List.nil_append, List.replicate_succ, List.replicate_zero, List.getElem?_cons_zero, List.getElem?_cons_succ, List.set_cons_succ, List.set_cons_zero, Nat.reduceAdd, Nat.reduceSub, Nat.sub_self, if_true]
      · have z' := beq_f z
        rw [if_neg z] at eW
        have eq : ((Float64.isqrt (q * q * e * W * W).toNat : Nat) : Int) = sq (q * q * e * W * W) := rfl
        have ab : dAbs [.int B] = some (.int W) := by rw [eW]; rfl
        clear z eW
        simp only [bodyP, sSeq, sAsg, sRt, sIf, sNx, sPar3, eV, eC, eA, tBl, FD.e1, e2, dI, dFdiv, dMul, dSub, dMod, dNe_int, dSq, aCons, aNil, gTp, gCo, gNm, gNi, oTup, hst, f1, f2, f3, f4, f5, f6, f7, f8, hm, z', hc, hq, eq, ab, Bool.not_false, k4, k3, k2, List.length_cons, List.length_nil, List.map_cons, List.map_nil, List.cons_append, List.nil_append, List.replicate_succ, List.replicate_zero, List.getElem?_cons_zero, List.getElem?_cons_succ, List.set_cons_succ, List.set_cons_zero, Nat.reduceAdd, Nat.reduceSub, Nat.sub_self, if_true]
    · cases h
  · cases h
end T4

set_option maxRecDepth 100000
set_option maxHeartbeats 4000000
set_option exponentiation.threshold 30000
namespace T4
open PySem L2 FD
local macro_rules | `(tactic| walk_at "fd") => `(tactic| simp only [bodyP, bodyS, sSeq, sIf, sNx, sRt, sAsg, sDr, sPar, sAug, tBl, tTr, tAn, tOo, tNo, eC, eV, eA, eIf, eAn, eOo, eNo, e1, e2, eIxN, FD.peek, aCons, aNil, gNm, gTp, gCo, gNi, dI, dAddI, dMulI, dAdd, dSub, dMul, dFdiv, dMod, dNeg, dGcd, dMax, dMin, dAbs, dSq, dEq_int, dNe_int, dIx, oTup, truD, List.length_cons, List.length_nil, List.map_cons, List.map_nil, List.cons_append, List.nil_append, List.replicate_succ, List.replicate_zero, List.getElem?_cons_zero, List.getElem?_cons_succ, List.set_cons_succ, List.set_cons_zero, Nat.reduceAdd, Nat.reduceSub, Nat.sub_self, if_true, decide_true, decide_false, Bool.not_true, Bool.not_false, Bool.false_eq_true, if_false, reduceCtorEq, *])

/-! ## the list of quotients, both ways -/
def qsS (fr : Int) : Nat → SStt → List Int
  | 0, _ => []
  | n + 1, t => qOf fr t :: qsS fr n (stepS fr t)
theorem qsS_len (fr : Int) : ∀ (n : Nat) (t : SStt), (qsS fr n t).length = n
  | 0, _ => rfl
  | n + 1, t => congrArg Nat.succ (qsS_len fr n (stepS fr t))
/-- room for k more steps -/
structure Roo (e K fr : Int) (k : Nat) (M : Int) (t : SStt) : Prop where
  ko : KOk e K fr
  so : SOk e K fr t
  bd : SBd fr M t
  zK : K.natAbs < 2 ^ 200
  ze : e.natAbs < 2 ^ 40
  rm : M + (k : Int) * (2 * fr + 1) + fr < 2 ^ 400
theorem Roo.next {e K fr M : Int} {k : Nat} {t : SStt} (h : Roo e K fr (k + 1) M t) : Roo e K fr k (M + 2 * fr + 1) (stepS fr t) := by
  refine ⟨h.ko, h.so.step h.ko, h.bd.step h.ko h.so, h.zK, h.ze, ?_⟩
  have := h.rm
  rw [show ((k + 1 : Nat) : Int) = (k : Int) + 1 by omega, Int.add_mul] at this
  generalize (2 : Int) ^ 400 = L at *
  generalize (k : Int) * (2 * fr + 1) = U at *
  omega
theorem Roo.small {e K fr M : Int} {k : Nat} {t : SStt} (h : Roo e K fr k M t) : t.P.natAbs < 2 ^ 400 ∧ t.S.natAbs < 2 ^ 400 ∧ fr.natAbs < 2 ^ 400 ∧ t.B.natAbs < 2 ^ 2000 := by
  obtain ⟨f0, _, _⟩ := h.ko.spec
  have rm := h.rm
  have u := Int.mul_nonneg (show (0 : Int) ≤ (k : Int) by omega) (show 0 ≤ 2 * fr + 1 by omega)
  obtain ⟨⟨b1, b2⟩, b3, b4⟩ := h.bd
  have s0 := h.so.s0
  have e400 : ((2 ^ 400 : Nat) : Int) = (2 : Int) ^ 400 := Int.natCast_pow 2 400
  rw [← e400] at rm
  have z1 : t.P.natAbs < 2 ^ 400 := by
    generalize (2 : Nat) ^ 400 = L at *
    generalize (k : Int) * (2 * fr + 1) = U at *
    omega
  have z2 : t.S.natAbs < 2 ^ 400 := by
    generalize (2 : Nat) ^ 400 = L at *
    generalize (k : Int) * (2 * fr + 1) = U at *
    omega
  have z3 : fr.natAbs < 2 ^ 400 := by
    generalize (2 : Nat) ^ 400 = L at *
    generalize (k : Int) * (2 * fr + 1) = U at *
    omega
  refine ⟨z1, z2, z3, ?_⟩
  have z4 : (K * K * e - t.P * t.P).natAbs < 2 ^ 801 := sub_lt (lt_up (mul_lt (mul_lt h.zK h.zK) h.ze)) (lt_up (mul_lt z1 z1))
  rw [← h.so.sb, Int.natAbs_mul] at z4
  have := Nat.le_mul_of_pos_left t.B.natAbs (show 0 < t.S.natAbs by omega)
  have z5 : (2 : Nat) ^ 801 ≤ 2 ^ 2000 := Nat.pow_le_pow_right (by decide) (by decide)
  omega
theorem surd_step_ok {e K fr M : Int} {k : Nat} {t : SStt} (h : Roo e K fr k M t) : m_surd_step [stD t, .int fr] = some (.tup [.int (qOf fr t), stD (stepS fr t)]) := by
  obtain ⟨z1, z2, z3, z4⟩ := h.small
  have ok : t.S ≠ 0 ∧ SSz 2000 fr t := ⟨h.so.s0, lt_up z1, lt_up z2, z4, lt_up z3⟩
  exact if_pos ok
def qBody : SF := (sSeq (sAsg (eA (aCons (eV 2) (aCons (eV 3) (aNil))) m_surd_step) (gTp 2 (gCo (gNm 6) (gCo (gNm 2) (gNi)))))
  (sApp 4 (eV 6)))
theorem qb_ok {MS : List DV → Option DV} {dt dfr q dt' : DV} {acc : List DV} {d0 d1 x5 x6 : Option SV} {sp : Spl} (c : MS [dt, dfr] = some (.tup [q, dt'])) (za : acc.length < sizeLine) :
    (sSeq (sAsg (eA (aCons (eV 2) (aCons (eV 3) (aNil))) MS) (gTp 2 (gCo (gNm 6) (gCo (gNm 2) (gNi))))) (sApp 4 (eV 6))) ⟨[d0, d1, some (.dat dt), some (.dat dfr), some (.own acc), x5, x6], sp⟩ = some (.nx ⟨[d0, d1, some (.dat dt'), some (.dat dfr), some (.own (acc ++ [q])), x5, some (.dat q)], sp⟩) := by
  simp only [sSeq, sAsg, eA, aCons, aNil, eV, c, gTp, gCo, gNm, gNi, sApp, za, List.length_cons, List.length_nil, List.map_cons, List.map_nil, List.cons_append, List.nil_append, List.replicate_succ, List.replicate_zero, List.getElem?_cons_zero, List.getElem?_cons_succ, List.set_cons_succ, List.set_cons_zero, Nat.reduceAdd, Nat.reduceSub, Nat.sub_self, if_true]
theorem q_loop {e K fr : Int} (d0 d1 : Option SV) (sp : Spl) : ∀ (k : Nat) (ds : List DV) (t : SStt) (M : Int) (acc : List DV) (x5 x6 : Option SV), ds.length = k → Roo e K fr k M t → acc.length + k ≤ 100000 →
    ∃ t' y5 y6, frN ds (gNm 5) qBody ⟨[d0, d1, some (.dat (stD t)), some (.dat (.int fr)), some (.own acc), x5, x6], sp⟩ = some (.nx ⟨[d0, d1, t', some (.dat (.int fr)), some (.own (acc ++ (qsS fr k t).map DV.int)), y5, y6], sp⟩)
  | 0, ds, t, M, acc, x5, x6, hl, h, _ => by
    obtain rfl : ds = [] := List.length_eq_zero_iff.mp hl
    refine ⟨some (.dat (stD t)), x5, x6, ?_⟩
    simp [frN, qsS]
  | k + 1, [], t, M, acc, x5, x6, hl, h, _ => by simp at hl
  | k + 1, d :: ds, t, M, acc, x5, x6, hl, h, ha => by
    have c1 := surd_step_ok h
    obtain ⟨t', y5, y6, r⟩ := q_loop d0 d1 sp k ds (stepS fr t) _ (acc ++ [.int (qOf fr t)]) (some (.dat d)) (some (.dat (.int (qOf fr t)))) (by simpa using hl) h.next (by rw [List.length_append, List.length_singleton]; omega)
    refine ⟨t', y5, y6, ?_⟩
    rw [List.append_assoc] at r
    have za : acc.length < sizeLine := by rw [sizeLine_eq]; omega
    have e1 : acc ++ (qsS fr (k + 1) t).map DV.int = acc ++ ([.int (qOf fr t)] ++ (qsS fr k (stepS fr t)).map DV.int) := rfl
    rw [e1, ← r]
    clear r h hl ha
    conv => lhs; unfold frN
    have cb : qBody ⟨[d0, d1, some (.dat (stD t)), some (.dat (.int fr)), some (.own acc), some (.dat d), x6], sp⟩ = _ := qb_ok c1 za
    simp only [gNm, List.length_cons, List.length_nil, List.map_cons, List.map_nil, List.cons_append, List.nil_append, List.replicate_succ, List.replicate_zero, List.getElem?_cons_zero, List.getElem?_cons_succ, List.set_cons_succ, List.set_cons_zero, Nat.reduceAdd, Nat.reduceSub, Nat.sub_self, if_true]
    rw [cb]
theorem fr_sz {e K fr : Int} (k : KOk e K fr) (zK : K.natAbs < 2 ^ 200) (ze : e.natAbs < 2 ^ 40) : fr < 2 ^ 220 ∧ 0 ≤ fr := by
  obtain ⟨f0, f1, _⟩ := k.spec
  have z0 := mul_lt (mul_lt zK zK) ze
  have z : fr.natAbs < 2 ^ 220 := sq_of f0 (nle (sq_nn fr) (Int.le_of_lt f1) (lt_up z0))
  have e1 : ((2 ^ 220 : Nat) : Int) = (2 : Int) ^ 220 := Int.natCast_pow 2 220
  rw [← e1]
  omega
/-- the first state of a ratio with a root -/
theorem st0_roo {e : Int} {x : Num} (g : Good 100 100 e x) (rt : Rt e) (q0 : x.2.1 ≠ 0) {k : Nat} (hk : k ≤ 3000) : Roo e (K0 x) (sq (n0 x)) k (2 ^ 200) (st0 x) ∧ Rep e x (st0 x).P (K0 x) (st0 x).S := by
  obtain ⟨ko, so, r⟩ := st0_ok g.can q0 ⟨rt.pos, rt.irr⟩
  have zw := wide_sz (x := x) g.zs (by decide)
  have zK : (K0 x).natAbs < 2 ^ 200 := mul_lt (sgn1_sz g.zq) zw
  have zP : (st0 x).P.natAbs < 2 ^ 200 := mul_lt (sgn1_sz g.zp) zw
  have zS : (st0 x).S.natAbs < 2 ^ 200 := mul_lt (sgn1_sz g.zs) zw
  obtain ⟨f1, f0⟩ := fr_sz ko zK rt.sz
  have e1 : ((2 ^ 200 : Nat) : Int) = (2 : Int) ^ 200 := Int.natCast_pow 2 200
  refine ⟨⟨ko, so, ⟨?_, ?_⟩, zK, rt.sz, ?_⟩, r⟩
  · rw [← e1]; omega
  · rw [← e1]; omega
  · have h1 := Int.mul_le_mul_of_nonneg_right (show (k : Int) ≤ 3000 by omega) (show 0 ≤ 2 * sq (n0 x) + 1 by omega)
    have h2 : (2 : Int) ^ 200 + 3000 * (2 * 2 ^ 220 + 1) + 2 ^ 220 < 2 ^ 400 := by decide +kernel
    have h3 : (3000 : Int) * (2 * sq (n0 x) + 1) ≤ 3000 * (2 * 2 ^ 220 + 1) := by omega
    generalize (2 : Int) ^ 400 = L at *
    generalize (2 : Int) ^ 220 = L2 at *
    generalize (2 : Int) ^ 200 = L3 at *
    omega
theorem bodyP_of {n m : Nat} {g : SF} {ds : List DV} {d : DV} {t : S} (hl : ds.length = n) (h : g ⟨ds.map (fun d => some (.dat d)) ++ List.replicate (m - n) none, spl0⟩ = some (.rt d t)) : bodyP n m g ds = some d := by
  unfold bodyP
  rw [if_pos hl, h]
theorem if_ok {F : SF} {d0 : DV} {q : Int} {l : List (Option SV)} {sp : Spl} (i1 : dIx d0 (.int 1) = some (.int q)) (z : (q == 0) = false) : (sIf (tBl (e2 (eIxN 0 (eC (.int 1))) (eC (.int 0)) dEq)) F (sNx)) ⟨some (.dat d0) :: l, sp⟩ = some (.nx ⟨some (.dat d0) :: l, sp⟩) := by
  simp only [sIf, sNx, tBl, e2, eIxN, FD.peek, eC, i1, dEq_int, z, List.getElem?_cons_zero]
theorem asg2_ok {M : List DV → Option DV} {d0 a b : DV} {o1 : Option SV} {l : List (Option SV)} {sp : Spl} (c : M [d0] = some (.tup [a, b])) : (sAsg (eA (aCons (eV 0) (aNil)) M) (gTp 2 (gCo (gNm 2) (gCo (gNm 3) (gNi))))) ⟨some (.dat d0) :: o1 :: none :: none :: l, sp⟩ = some (.nx ⟨some (.dat d0) :: o1 :: some (.dat a) :: some (.dat b) :: l, sp⟩) := by
  simp only [sAsg, eA, aCons, aNil, eV, c, gTp, gCo, gNm, gNi, List.length_cons, List.length_nil, List.map_cons, List.map_nil, List.cons_append, List.nil_append, List.replicate_succ, List.replicate_zero, List.getElem?_cons_zero, List.getElem?_cons_succ, List.set_cons_succ, List.set_cons_zero, Nat.reduceAdd, Nat.reduceSub, Nat.sub_self, if_true]
theorem own0_ok {i : Nat} (t : S) : sOwn i (lDs (aNil)) t = some (.nx { t with sl := t.sl.set i (some (.own [])) }) := by
  have k0 : ([] : List DV).length ≤ sizeLine := Nat.zero_le _
  unfold sOwn lDs aNil
  dsimp only
  rw [if_pos k0]
theorem sFr_of {it : LF} {g : GF} {B : SF} {t t1 : S} {ds : List DV} (h : it t = some (ds, t1)) : sFr it g B t = frN ds g B t1 := by
  unfold sFr
  rw [h]
theorem fr_e {d0 : DV} {N : Int} {l : List (Option SV)} {sp : Spl} (hr : inR N = true) : iRg1 (aCons (eV 1) (aNil)) ⟨some (.dat d0) :: some (.dat (.int N)) :: l, sp⟩ = some (rngD 0 N.toNat, ⟨some (.dat d0) :: some (.dat (.int N)) :: l, sp⟩) := by
  have e : aCons (eV 1) aNil ⟨some (.dat d0) :: some (.dat (.int N)) :: l, sp⟩ = some ([.int N], ⟨some (.dat d0) :: some (.dat (.int N)) :: l, sp⟩) := rfl
  unfold iRg1
  rw [e]
  dsimp only
  rw [if_pos hr]
def qsN (x : Num) (n : Nat) : List Int := qsS (sq (n0 x)) n (st0 x)
def b_fraction_quotients : SF :=
  sSeq (sAsg (eIxN 0 (eC (.int 0))) (gNm 2))
  (sSeq (sAsg (eIxN 0 (eC (.int 3))) (gNm 3))
  (sSeq (sOwn 4 (lDs (aNil)))
  (sSeq (sWh (fun _ => 0) (tAn (tBl (e2 (eV 3) (eC (.int 0)) dNe)) (tBl (e2 (eLenN 4) (eV 1) dLt))) (sSeq (sApp 4 (e2 (eV 2) (eV 3) dFdiv))
  (sPar 2 3 (aCons (eV 3) (aCons (e2 (eV 2) (eV 3) dMod) (aNil))))))
  (sRt (eV 4)))))
def m_fraction_quotients : List DV → Option DV := bodyP 2 5 b_fraction_quotients
theorem t_fraction_quotients : ∀ ds d, m_fraction_quotients ds = some d → bodyP 2 5 b_fraction_quotients ds = some d := fun _ _ h => h
def b_quotients : SF :=
  sSeq (sIf (tBl (e2 (eIxN 0 (eC (.int 1))) (eC (.int 0)) dEq)) (sRt (eA (aCons (eV 0) (aCons (eV 1) (aNil))) m_fraction_quotients)) (sNx))
  (sSeq (sAsg (eA (aCons (eV 0) (aNil)) m_surd_of) (gTp 2 (gCo (gNm 2) (gCo (gNm 3) (gNi)))))
  (sSeq (sOwn 4 (lDs (aNil)))
  (sSeq (sFr (iRg1 (aCons (eV 1) (aNil))) (gNm 5) (sSeq (sAsg (eA (aCons (eV 2) (aCons (eV 3) (aNil))) m_surd_step) (gTp 2 (gCo (gNm 6) (gCo (gNm 2) (gNi)))))
  (sApp 4 (eV 6))))
  (sRt (eV 4)))))
def m_quotients : List DV → Option DV
  | [.tup [.int p, .int q, .int d, .int s], .int n] => bodyP 2 7 b_quotients [.tup [.int p, .int q, .int d, .int s], .int n]
  | _ => none
theorem t_quotients : ∀ ds d, m_quotients ds = some d → bodyP 2 7 b_quotients ds = some d := by
  intro ds d h
  unfold m_quotients at h
  split at h
  · exact h
  · cases h
theorem surd_of_ok {e : Int} {x : Num} (g : Good 100 100 e x) (rt : Rt e) (q0 : x.2.1 ≠ 0) : m_surd_of [nm x] = some (.tup [stD (st0 x), .int (sq (n0 x))]) := by
  have ok : x.2.1 ≠ 0 ∧ x.2.2.2 ≠ 0 ∧ 0 ≤ x.2.2.1 ∧ SzN 500 (x.1, x.2.1, x.2.2.1, x.2.2.2) := ⟨q0, by have := g.s0; omega, can_d g.can rt.pos, lt_up g.zp, lt_up g.zq, lt_up (can_d40 g.can rt), lt_up g.zs⟩
  exact if_pos ok
theorem quotients_ok {e : Int} {x : Num} (g : Good 100 100 e x) (rt : Rt e) (q0 : x.2.1 ≠ 0) {n : Nat} (hn : n ≤ 3000) : m_quotients [nm x, .int (n : Int)] = some (.lst ((qsN x n).map DV.int)) := by
  obtain ⟨ro, r⟩ := st0_roo g rt q0 hn
  have c1 := surd_of_ok g rt q0
  obtain ⟨t', y5, y6, lp⟩ := q_loop (some (.dat (nm x))) (some (.dat (.int (n : Int)))) spl0 n (rngD 0 (n : Int).toNat) (st0 x) _ [] none none (by unfold rngD; simp) ro (by simp; omega)
  rw [List.nil_append] at lp
  have hr : inR (n : Int) = true := decide_eq_true (by omega)
  have z := beq_f q0
  have i1 : dIx (nm x) (.int 1) = some (.int x.2.1) := rfl
  have eb : b_quotients = sSeq (sIf (tBl (e2 (eIxN 0 (eC (.int 1))) (eC (.int 0)) dEq)) (sRt (eA (aCons (eV 0) (aCons (eV 1) (aNil))) m_fraction_quotients)) (sNx))
    (sSeq (sAsg (eA (aCons (eV 0) (aNil)) m_surd_of) (gTp 2 (gCo (gNm 2) (gCo (gNm 3) (gNi)))))
    (sSeq (sOwn 4 (lDs (aNil))) (sSeq (sFr (iRg1 (aCons (eV 1) (aNil))) (gNm 5) qBody) (sRt (eV 4))))) := rfl
  have s1 : (sIf (tBl (e2 (eIxN 0 (eC (.int 1))) (eC (.int 0)) dEq)) (sRt (eA (aCons (eV 0) (aCons (eV 1) (aNil))) m_fraction_quotients)) (sNx)) ⟨[some (.dat (nm x)), some (.dat (.int (n : Int))), none, none, none, none, none], spl0⟩ = _ := if_ok i1 z
  have s2 : (sAsg (eA (aCons (eV 0) (aNil)) m_surd_of) (gTp 2 (gCo (gNm 2) (gCo (gNm 3) (gNi))))) ⟨[some (.dat (nm x)), some (.dat (.int (n : Int))), none, none, none, none, none], spl0⟩ = _ := asg2_ok c1
  have s3 := own0_ok (i := 4) ⟨[some (.dat (nm x)), some (.dat (.int (n : Int))), some (.dat (stD (st0 x))), some (.dat (.int (sq (n0 x)))), none, none, none], spl0⟩
  have s4 : (sFr (iRg1 (aCons (eV 1) (aNil))) (gNm 5) qBody) ⟨[some (.dat (nm x)), some (.dat (.int (n : Int))), some (.dat (stD (st0 x))), some (.dat (.int (sq (n0 x)))), some (.own []), none, none], spl0⟩ = _ := (sFr_of (fr_e hr)).trans lp
  show bodyP 2 7 b_quotients [nm x, .int (n : Int)] = _
  rw [eb]
  refine bodyP_of (ds := [nm x, .int (n : Int)]) rfl (t := ⟨[some (.dat (nm x)), some (.dat (.int (n : Int))), t', some (.dat (.int (sq (n0 x)))), some (.dat (.lst ((qsN x n).map DV.int))), y5, y6], spl0⟩) ?_
  refine (seq_nx s1).trans ((seq_nx s2).trans ((seq_nx s3).trans ((seq_nx s4).trans ?_)))
  rfl
end T4

set_option maxRecDepth 100000
set_option maxHeartbeats 4000000
set_option exponentiation.threshold 30000
namespace T4
open PySem L2 FD
local macro_rules | `(tactic| walk_at "fd") => `(tactic| simp only [bodyP, bodyS, sSeq, sIf, sNx, sRt, sAsg, sDr, sPar, sAug, tBl, tTr, tAn, tOo, tNo, eC, eV, eA, eIf, eAn, eOo, eNo, e1, e2, eIxN, FD.peek, aCons, aNil, gNm, gTp, gCo, gNi, dI, dAddI, dMulI, dAdd, dSub, dMul, dFdiv, dMod, dNeg, dGcd, dMax, dMin, dAbs, dSq, dEq_int, dNe_int, dIx, oTup, truD, List.length_cons, List.length_nil, List.map_cons, List.map_nil, List.cons_append, List.nil_append, List.replicate_succ, List.replicate_zero, List.getElem?_cons_zero, List.getElem?_cons_succ, List.set_cons_succ, List.set_cons_zero, Nat.reduceAdd, Nat.reduceSub, Nat.sub_self, if_true, decide_true, decide_false, Bool.not_true, Bool.not_false, Bool.false_eq_true, if_false, reduceCtorEq, *])

theorem last_ix (acc : List DV) (d : DV) : dIx (.lst (acc ++ [d])) (.int (-1)) = some d := by
  have hl : (acc ++ [d]).length = acc.length + 1 := by rw [List.length_append]; rfl
  have e : ixN (acc ++ [d]).length (-1) = some acc.length := by
    rw [hl]
    unfold ixN
    rw [if_neg (by omega), if_pos (by omega)]
    congr 1
    omega
  show atI (acc ++ [d]) (-1) = some d
  unfold L2.atI
  rw [e]
  show (acc ++ [d])[acc.length]? = some d
  rw [List.getElem?_append_right (Nat.le_refl _), Nat.sub_self]
  rfl
section
variable {e : Int} {x : Num}
theorem addL_can {y : Num} (he : 0 < e) (hx : Can e x) (hy : Can e y) : addL x y = addN x y := by
  unfold addL addN
  refine lowL_eq ?_
  rcases root_can he hx hy with h | ⟨h, h'⟩
  · exact .inr (by omega)
  · exact .inl (by rw [h, h']; simp)
theorem add_law {y : Num} (he : 0 < e) (hx : Can e x) (hy : Can e y) (sx : SzN 4000 x) (sy : SzN 4000 y) (dx : x.2.2.1.natAbs < 2 ^ 40) (dy : y.2.2.1.natAbs < 2 ^ 40) : m_law_add [nm x, nm y] = some (nm (addN x y)) := by
  have ok : okQ x y := ⟨dx, dy, by have := hx.1; omega, by have := hy.1; omega, sx, sy⟩
  rw [← addL_can he hx hy]
  exact if_pos ok
theorem inv_law (he : 0 < e) (hx : Can e x) (hn : x.1 * x.1 - x.2.1 * x.2.1 * e ≠ 0) (sx : SzN 1900 x) (dx : x.2.2.1.natAbs < 2 ^ 40) : m_law_inverse [nm x] = some (nm (invN x)) := by
  have ok : x.1 * x.1 - x.2.1 * x.2.1 * x.2.2.1 ≠ 0 ∧ SzN 1900 (x.1, x.2.1, x.2.2.1, x.2.2.2) ∧ x.2.2.1.natAbs < 2 ^ 40 := ⟨norm_can hx hn, sx, dx⟩
  rw [← invL_can he hx]
  exact if_pos ok
theorem rep_sz {P Q S : Int} {b : Nat} (r : Rep e x P Q S) (hP : P.natAbs < 2 ^ b) (hQ : Q.natAbs < 2 ^ b) (hS : S.natAbs < 2 ^ b) : x.1.natAbs < 2 ^ b ∧ x.2.1.natAbs < 2 ^ b ∧ x.2.2.2.natAbs < 2 ^ b := by
  obtain ⟨c, s1, a1, b1⟩ := r
  obtain ⟨k, hk⟩ := gc_same (a := x.1) (b := x.2.1) (c := x.2.2.2) (c' := S) c.2.1 a1 b1
  have c0 := c.1
  have k0 : k ≠ 0 := fun w => s1 (by rw [hk, w, Int.mul_zero])
  have e1 : P = k * x.1 := by
    have : P * x.2.2.2 = k * x.1 * x.2.2.2 := by rw [← a1, hk]; grind
    exact Int.eq_of_mul_eq_mul_right (by omega) this
  have e2 : Q = k * x.2.1 := by
    have : Q * x.2.2.2 = k * x.2.1 * x.2.2.2 := by rw [← b1, hk]; grind
    exact Int.eq_of_mul_eq_mul_right (by omega) this
  exact ⟨part_sz k0 e1 hP, part_sz k0 e2 hQ, part_sz k0 (by rw [hk]; exact Int.mul_comm _ _) hS⟩
theorem rep_norm {P Q S : Int} (r : Rep e x P Q S) (hn : P * P - Q * Q * e ≠ 0) : x.1 * x.1 - x.2.1 * x.2.1 * e ≠ 0 := fun w => by
  obtain ⟨c, s1, a1, b1⟩ := r
  have k : (x.2.2.2 * x.2.2.2) * (P * P - Q * Q * e) = (S * S) * (x.1 * x.1 - x.2.1 * x.2.1 * e) := by grind
  rw [w, Int.mul_zero] at k
  have z := Int.mul_pos c.1 c.1
  rcases Int.mul_eq_zero.mp k with u | u
  · omega
  · exact hn u
/-- one turn of the law's quotients -/
theorem lq_step {K fr M : Int} {k : Nat} {t : SStt} {y : Num} (h : Roo e K fr k M t) (rt : Rt e) (r : Rep e y t.P K t.S) :
    m_law_whole_part [nm y] = some (.int (qOf fr t)) ∧ m_law_add [nm y, nm (0 - qOf fr t, 0, 0, 1)] = some (nm (addN y (0 - qOf fr t, 0, 0, 1))) ∧
    m_law_inverse [nm (addN y (0 - qOf fr t, 0, 0, 1))] = some (nm (invN (addN y (0 - qOf fr t, 0, 0, 1)))) ∧ Rep e (invN (addN y (0 - qOf fr t, 0, 0, 1))) (stepS fr t).P K (stepS fr t).S := by
  obtain ⟨z1, z2, z3, z4⟩ := h.small
  obtain ⟨y1, y2, y3⟩ := rep_sz r z1 (lt_up h.zK) z2
  have yd := can_d40 r.1 rt
  have sy : SzN 402 y := ⟨lt_up y1, lt_up y2, lt_up yd, lt_up y3⟩
  have g : Good 1000 1000 e y := Good.of r.1 (sy.up (by decide))
  have c1 := whole_at g rt
  rw [q_floor h.ko h.so r] at c1
  have zq : (0 - qOf fr t).natAbs < 2 ^ 402 := by
    have : (qOf fr t).natAbs < 2 ^ 402 := by
      have u := add_lt z1 z3
      unfold qOf
      split
      · exact Nat.lt_of_le_of_lt (fdiv_any h.so.s0) (lt_up u)
      · exact Nat.lt_of_le_of_lt (fdiv_any h.so.s0) (add_lt u (Nat.one_lt_two_pow (by decide)))
    omega
  have c2 := add_law rt.pos r.1 (can_int e (0 - qOf fr t)) (sy.up (by decide)) ((one_sz zq (by decide)).up (by decide)) yd (Nat.two_pow_pos _)
  have y0 : y.2.2.2 ≠ 0 := by have := r.1.1; omega
  have sz := addN_sz sy (one_sz zq (by decide)) y0 Int.one_ne_zero
  have r1 := rep_add rt.pos r (rep_self (can_int e (0 - qOf fr t)))
  simp only [Int.mul_one, Int.zero_mul, Int.add_zero] at r1
  have hn : (t.P + (0 - qOf fr t) * t.S) * (t.P + (0 - qOf fr t) * t.S) - K * K * e ≠ 0 := fun w => h.ko.ne (t.P + (0 - qOf fr t) * t.S) (by omega)
  have c3 := inv_law rt.pos r1.1 (rep_norm r1 hn) (sz.up (by decide)) (can_d40 r1.1 rt)
  exact ⟨c1, c2, c3, rep_next h.ko h.so r⟩
end
theorem lqb {MW MA MI : List DV → Option DV} {dy dz dy' : DV} {q : Int} {acc : List DV} {d1 : Option SV} {sp : Spl} (c1 : MW [dy] = some (.int q)) (c2 : MA [dy, .tup [.int (0 - q), .int 0, .int 0, .int 1]] = some dz) (c3 : MI [dz] = some dy') (za : acc.length < sizeLine) :
    (sSeq (sApp 2 (eA (aCons (eV 0) (aNil)) MW)) (sAsg (eA (aCons (eA (aCons (eV 0) (aCons (eA (aCons (e2 (eC (.int 0)) (eIxN 2 (e1 (eC (.int 1)) dNeg)) dSub) (aCons (eC (.int 0)) (aCons (eC (.int 0)) (aCons (eC (.int 1)) (aNil))))) oTup) (aNil))) MA) (aNil)) MI) (gNm 0))) ⟨[some (.dat dy), d1, some (.own acc)], sp⟩ =
      some (.nx ⟨[some (.dat dy'), d1, some (.own (acc ++ [.int q]))], sp⟩) := by
  have k4 := four_le
  have l := last_ix acc (.int q)
  simp only [sSeq, sApp, sAsg, eA, aCons, aNil, eV, eC, e2, FD.e1, dNeg, dSub, eIxN, FD.peek, oTup, c1, c2, c3, za, l, k4, gNm, List.length_cons, List.length_nil, List.map_cons, List.map_nil, List.cons_append, List.nil_append, List.replicate_succ, List.replicate_zero, List.getElem?_cons_zero, List.getElem?_cons_succ, List.set_cons_succ, List.set_cons_zero, Nat.reduceAdd, Nat.reduceSub, Nat.sub_self, if_true]
def lqBody : SF := (sSeq (sApp 2 (eA (aCons (eV 0) (aNil)) m_law_whole_part)) (sAsg (eA (aCons (eA (aCons (eV 0) (aCons (eA (aCons (e2 (eC (.int 0)) (eIxN 2 (e1 (eC (.int 1)) dNeg)) dSub) (aCons (eC (.int 0)) (aCons (eC (.int 0)) (aCons (eC (.int 1)) (aNil))))) oTup) (aNil))) m_law_add) (aNil)) m_law_inverse) (gNm 0)))
theorem lq_test {dy : DV} {n : Int} {acc : List DV} {sp : Spl} : (tBl (e2 (eLenN 2) (eV 1) dLt)) ⟨[some (.dat dy), some (.dat (.int n)), some (.own acc)], sp⟩ = some (decide ((acc.length : Int) < n), ⟨[some (.dat dy), some (.dat (.int n)), some (.own acc)], sp⟩) := rfl
theorem whN_go {c : TF} {b : SF} {t t1 t2 : S} {m : Nat} (h1 : c t = some (true, t1)) (h2 : b t1 = some (.nx t2)) : whN (m + 1) c b t = whN m c b t2 := by
  conv => lhs; unfold whN
  rw [h1]
  dsimp only
  rw [h2]
theorem whN_end {c : TF} {b : SF} {t t1 : S} {m : Nat} (h1 : c t = some (false, t1)) : whN m c b t = some (.nx t1) := by
  cases m with
  | zero =>
    unfold whN
    rw [h1]
  | succ m =>
    unfold whN
    rw [h1]
theorem lq_loop {e K fr : Int} (rt : Rt e) (n : Nat) (hn : n ≤ 3000) (sp : Spl) : ∀ (k i : Nat) (y : Num) (t : SStt) (M : Int) (acc : List DV), i + k = n → acc.length = i → Roo e K fr k M t → Rep e y t.P K t.S →
    ∃ y', whN (k + 1) (tBl (e2 (eLenN 2) (eV 1) dLt)) lqBody ⟨[some (.dat (nm y)), some (.dat (.int (n : Int))), some (.own acc)], sp⟩ = some (.nx ⟨[some (.dat y'), some (.dat (.int (n : Int))), some (.own (acc ++ (qsS fr k t).map DV.int))], sp⟩)
  | 0, i, y, t, M, acc, h1, h2, h, r => by
    refine ⟨nm y, ?_⟩
    have e0 : decide ((acc.length : Int) < (n : Int)) = false := decide_eq_false (by omega)
    have tt := lq_test (dy := nm y) (n := (n : Int)) (acc := acc) (sp := sp)
    rw [e0] at tt
    rw [whN_end tt]
    simp [qsS]
  | k + 1, i, y, t, M, acc, h1, h2, h, r => by
    obtain ⟨c1, c2, c3, r'⟩ := lq_step h rt r
    obtain ⟨y', ih⟩ := lq_loop rt n hn sp k (i + 1) _ (stepS fr t) _ (acc ++ [.int (qOf fr t)]) (by omega) (by rw [List.length_append, h2]; rfl) h.next r'
    refine ⟨y', ?_⟩
    have e0 : decide ((acc.length : Int) < (n : Int)) = true := decide_eq_true (by omega)
    have tt := lq_test (dy := nm y) (n := (n : Int)) (acc := acc) (sp := sp)
    rw [e0] at tt
    have za : acc.length < sizeLine := by rw [sizeLine_eq]; omega
    rw [List.append_assoc] at ih
    exact (whN_go tt (lqb c1 c2 c3 za)).trans ih
def b_law_quotients : SF :=
  sSeq (sOwn 2 (lDs (aNil)))
  (sSeq (sWh (fun s => (slI s 1).toNat + 1) (tBl (e2 (eLenN 2) (eV 1) dLt)) (sSeq (sApp 2 (eA (aCons (eV 0) (aNil)) m_law_whole_part))
  (sAsg (eA (aCons (eA (aCons (eV 0) (aCons (eA (aCons (e2 (eC (.int 0)) (eIxN 2 (e1 (eC (.int 1)) dNeg)) dSub) (aCons (eC (.int 0)) (aCons (eC (.int 0)) (aCons (eC (.int 1)) (aNil))))) oTup) (aNil))) m_law_add) (aNil)) m_law_inverse) (gNm 0))))
  (sRt (eV 2)))
def m_law_quotients : List DV → Option DV := bodyP 2 3 b_law_quotients
theorem t_law_quotients : ∀ ds d, m_law_quotients ds = some d → bodyP 2 3 b_law_quotients ds = some d := fun _ _ h => h
theorem sWh_of {f : S → Nat} {c : TF} {b : SF} {t : S} {r : Option Out} {m : Nat} (hf : f t = m) (h : whN m c b t = r) : sWh f c b t = r := by
  unfold sWh
  rw [hf]
  exact h
theorem law_quotients_ok {e : Int} {x : Num} (g : Good 100 100 e x) (rt : Rt e) (q0 : x.2.1 ≠ 0) {n : Nat} (hn : n ≤ 3000) : m_law_quotients [nm x, .int (n : Int)] = some (.lst ((qsN x n).map DV.int)) := by
  obtain ⟨ro, r⟩ := st0_roo g rt q0 hn
  obtain ⟨y', lp⟩ := lq_loop rt n hn spl0 n 0 x (st0 x) _ [] (by omega) rfl ro r
  rw [List.nil_append] at lp
  have eb : b_law_quotients = sSeq (sOwn 2 (lDs (aNil))) (sSeq (sWh (fun s => (slI s 1).toNat + 1) (tBl (e2 (eLenN 2) (eV 1) dLt)) lqBody) (sRt (eV 2))) := rfl
  have s1 := own0_ok (i := 2) ⟨[some (.dat (nm x)), some (.dat (.int (n : Int))), none], spl0⟩
  have s2 : sWh (fun s => (slI s 1).toNat + 1) (tBl (e2 (eLenN 2) (eV 1) dLt)) lqBody ⟨[some (.dat (nm x)), some (.dat (.int (n : Int))), some (.own [])], spl0⟩ = _ := sWh_of (m := n + 1) (by
    show ((n : Int)).toNat + 1 = n + 1
    rw [Int.toNat_natCast]) lp
  unfold m_law_quotients
  rw [eb]
  refine bodyP_of (ds := [nm x, .int (n : Int)]) rfl (t := ⟨[some (.dat y'), some (.dat (.int (n : Int))), some (.dat (.lst ((qsN x n).map DV.int)))], spl0⟩) ?_
  refine (seq_nx s1).trans ((seq_nx s2).trans ?_)
  rfl
end T4

set_option maxRecDepth 100000
set_option maxHeartbeats 4000000
set_option exponentiation.threshold 30000
namespace T4
open PySem L2 FD
local macro_rules | `(tactic| walk_at "fd") => `(tactic| simp only [bodyP, bodyS, sSeq, sIf, sNx, sRt, sAsg, sDr, sPar, sAug, tBl, tTr, tAn, tOo, tNo, eC, eV, eA, eIf, eAn, eOo, eNo, e1, e2, eIxN, FD.peek, aCons, aNil, gNm, gTp, gCo, gNi, dI, dAddI, dMulI, dAdd, dSub, dMul, dFdiv, dMod, dNeg, dGcd, dMax, dMin, dAbs, dSq, dEq_int, dNe_int, dIx, oTup, truD, List.length_cons, List.length_nil, List.map_cons, List.map_nil, List.cons_append, List.nil_append, List.replicate_succ, List.replicate_zero, List.getElem?_cons_zero, List.getElem?_cons_succ, List.set_cons_succ, List.set_cons_zero, Nat.reduceAdd, Nat.reduceSub, Nat.sub_self, if_true, decide_true, decide_false, Bool.not_true, Bool.not_false, Bool.false_eq_true, if_false, reduceCtorEq, *])

/-! ## all quotients but the first are above 0 -/
theorem one_le_fdiv {a s : Int} (hs : 0 < s) (h : s ≤ a) : 1 ≤ a.fdiv s := by
  obtain ⟨_, b⟩ := fdiv_spec (a := a) hs
  rw [Int.add_mul] at b
  refine Int.not_lt.mp fun w => ?_
  have := Int.mul_le_mul_of_nonneg_right (show a.fdiv s ≤ 0 by omega) (show 0 ≤ s by omega)
  omega
theorem q_pos {e K fr : Int} {t : SStt} (k : KOk e K fr) (h : SOk e K fr t) : 1 ≤ qOf fr (stepS fr t) := by
  have h' := h.step k
  obtain ⟨f0, f1, f2⟩ := k.spec
  obtain ⟨q1, q2⟩ := q_spec fr h.s0
  have sb := h'.sb
  have s0 := h.s0
  have s0' := h'.s0
  have e1 : (stepS fr t).B = t.S := rfl
  rw [e1] at sb
  unfold qOf
  generalize (stepS fr t).P = P' at *
  generalize (stepS fr t).S = S' at *
  have lt_of : ∀ a b s : Int, 0 < s → a * s < b * s → a < b := fun a b s hs hh => Int.lt_of_mul_lt_mul_right hh (by omega)
  rcases Int.lt_trichotomy t.S 0 with z | z | z
  · obtain ⟨c1, c2⟩ := q2 z
    have g1 : (fr + 1) * (fr + 1) ≤ P' * P' := Int.mul_le_mul c1 c1 (by omega) (by omega)
    have e2 : S' * -t.S = P' * P' - K * K * e := by rw [Int.mul_neg]; omega
    have p0 : 0 < S' := lt_of 0 S' (-t.S) (by omega) (by rw [Int.zero_mul, e2]; omega)
    rw [if_pos p0]
    refine one_le_fdiv p0 (Int.le_of_lt_add_one ?_)
    refine lt_of _ _ (-t.S) (by omega) ?_
    rw [e2]
    have g2 := Int.mul_le_mul_of_nonneg_right (show P' - fr ≤ -t.S by omega) (show 0 ≤ P' + fr by omega)
    have g3 : (P' - fr) * (P' + fr) = P' * P' - fr * fr := by grind
    have g4 : (P' + fr + 1) * -t.S = -t.S * (P' + fr) + -t.S := by grind
    omega
  · exact absurd z s0
  · obtain ⟨c1, c2⟩ := q1 z
    by_cases w : 0 ≤ fr + P'
    · have g1 : P' * P' ≤ fr * fr := by
        rcases Int.le_total 0 P' with u | u
        · exact Int.mul_le_mul c2 c2 u f0
        · have := Int.mul_le_mul (show -P' ≤ fr by omega) (show -P' ≤ fr by omega) (by omega) f0
          rw [Int.neg_mul_neg] at this
          exact this
      have p0 : 0 < S' := lt_of 0 S' t.S z (by rw [Int.zero_mul, sb]; omega)
      rw [if_pos p0]
      refine one_le_fdiv p0 (Int.le_of_lt_add_one ?_)
      refine lt_of _ _ t.S z ?_
      rw [sb]
      have g2 := Int.mul_le_mul_of_nonneg_right (show fr + 1 - P' ≤ t.S by omega) (show 0 ≤ fr + 1 + P' by omega)
      have g3 : (fr + 1 - P') * (fr + 1 + P') = (fr + 1) * (fr + 1) - P' * P' := by grind
      have g4 : (P' + fr + 1) * t.S = t.S * (fr + 1 + P') := by grind
      omega
    · have g1 : (fr + 1) * (fr + 1) ≤ -P' * -P' := Int.mul_le_mul (by omega) (by omega) (by omega) (by omega)
      rw [Int.neg_mul_neg] at g1
      have n0 : S' < 0 := lt_of S' 0 t.S z (by rw [Int.zero_mul, sb]; omega)
      rw [if_neg (by omega), ← neg_fdiv]
      refine one_le_fdiv (by omega) (Int.le_of_lt_add_one ?_)
      refine lt_of _ _ t.S z ?_
      have g2 := Int.mul_lt_mul_of_pos_right (show -P' + fr < t.S by omega) (show 0 < -P' - fr by omega)
      have g3 : (-P' + fr) * (-P' - fr) = P' * P' - fr * fr := by grind
      have g4 : (-(P' + fr + 1) + 1) * t.S = t.S * (-P' - fr) := by grind
      have g5 : -S' * t.S = P' * P' - K * K * e := by rw [Int.neg_mul, sb]; omega
      omega
theorem qsS_pos {e K fr : Int} (k : KOk e K fr) : ∀ (n : Nat) (t : SStt), SOk e K fr t → ∀ q ∈ qsS fr n (stepS fr t), 1 ≤ q
  | 0, t, _, q, hq => by simp [qsS] at hq
  | n + 1, t, h, q, hq => by
    unfold qsS at hq
    rcases List.mem_cons.mp hq with w | w
    · rw [w]; exact q_pos k h
    · exact qsS_pos k n (stepS fr t) (h.step k) q w
/-! ## lengths -/
/-- the lengths behind two lengths -/
def szS : List Int → Int → Int → List Int
  | [], _, _ => []
  | c :: cs, b, l => (c * l + b) :: szS cs l (c * l + b)
theorem szS_len : ∀ (cs : List Int) (b l : Int), (szS cs b l).length = cs.length
  | [], _, _ => rfl
  | c :: cs, b, l => congrArg Nat.succ (szS_len cs l (c * l + b))
/-- sizes stay small: a quotient has 402 bits at most -/
def SmQ (cs : List Int) : Prop := ∀ c ∈ cs, c.natAbs < 2 ^ 402
theorem qsS_sm {e K fr : Int} : ∀ (k : Nat) (t : SStt) (M : Int), Roo e K fr k M t → SmQ (qsS fr k t)
  | 0, t, M, _ => fun c hc => by simp [qsS] at hc
  | k + 1, t, M, h => fun c hc => by
    unfold qsS at hc
    rcases List.mem_cons.mp hc with w | w
    · rw [w]
      obtain ⟨z1, z2, z3, z4⟩ := h.small
      have u := add_lt z1 z3
      unfold qOf
      split
      · exact Nat.lt_of_le_of_lt (fdiv_any h.so.s0) (lt_up u)
      · exact Nat.lt_of_le_of_lt (fdiv_any h.so.s0) (add_lt u (Nat.one_lt_two_pow (by decide)))
    · exact qsS_sm k _ _ h.next c w
def lenBody : SF := (sSeq (sAsg (eIxN 3 (e1 (eC (.int 1)) dNeg)) (gNm 5))
  (sSeq (sApp 3 (e2 (e2 (eV 4) (eV 5) dMul) (eV 2) dAdd))
  (sAsg (eV 5) (gNm 2))))
theorem lenb {acc : List DV} {b l c : Int} {d0 d1 x5 : Option SV} {sp : Spl} (f : fitM c l = true) (za : (acc ++ [DV.int l]).length < sizeLine) :
    lenBody ⟨[d0, d1, some (.dat (.int b)), some (.own (acc ++ [.int l])), some (.dat (.int c)), x5], sp⟩ = some (.nx ⟨[d0, d1, some (.dat (.int l)), some (.own (acc ++ [.int l] ++ [.int (c * l + b)])), some (.dat (.int c)), some (.dat (.int l))], sp⟩) := by
  have k := last_ix acc (.int l)
  have ai : ∀ a b : Int, dAdd (.int a) (.int b) = some (.int (a + b)) := fun _ _ => rfl
  generalize acc ++ [DV.int l] = A at *
  unfold lenBody
  simp only [sSeq, sAsg, sApp, eIxN, FD.peek, eC, eV, FD.e1, dNeg, e2, dMul, ai, k, f, za, gNm, List.length_cons, List.length_nil, List.map_cons, List.map_nil, List.cons_append, List.nil_append, List.replicate_succ, List.replicate_zero, List.getElem?_cons_zero, List.getElem?_cons_succ, List.set_cons_succ, List.set_cons_zero, Nat.reduceAdd, Nat.reduceSub, Nat.sub_self, if_true]
theorem len_loop (d0 d1 : Option SV) (sp : Spl) : ∀ (cs : List Int) (acc : List DV) (b l : Int) (x4 x5 : Option SV) (m : Nat), SmQ cs → b.natAbs < 2 ^ m → l.natAbs < 2 ^ m → m + 500 * cs.length ≤ 10000000 → acc.length + cs.length ≤ 100000 →
    ∃ b' y4 y5, frN (cs.map DV.int) (gNm 4) lenBody ⟨[d0, d1, some (.dat (.int b)), some (.own (acc ++ [.int l])), x4, x5], sp⟩ = some (.nx ⟨[d0, d1, b', some (.own (acc ++ [.int l] ++ (szS cs b l).map DV.int)), y4, y5], sp⟩)
  | [], acc, b, l, x4, x5, m, _, _, _, _, _ => ⟨some (.dat (.int b)), x4, x5, by simp [frN, szS]⟩
  | c :: cs, acc, b, l, x4, x5, m, hq, hb, hl, hm, ha => by
    rw [List.length_cons] at hm ha
    have zc := hq c List.mem_cons_self
    have zn : (c * l + b).natAbs < 2 ^ (m + 500) := lt_up (add_lt (a := 402 + m) (mul_lt zc hl) (lt_up hb (by omega))) (by omega)
    obtain ⟨b', y4, y5, r⟩ := len_loop d0 d1 sp cs (acc ++ [.int l]) l (c * l + b) (some (.dat (.int c))) (some (.dat (.int l))) (m + 500) (fun y hy => hq y (List.mem_cons_of_mem _ hy)) (lt_up hl (by omega)) zn (by omega) (by rw [List.length_append, List.length_singleton]; omega)
    have f : fitM c l = true := fit_of zc hl (by omega)
    have za : (acc ++ [DV.int l]).length < sizeLine := by rw [sizeLine_eq, List.length_append, List.length_singleton]; omega
    refine ⟨b', y4, y5, ?_⟩
    have e1 : acc ++ [DV.int l] ++ (szS (c :: cs) b l).map DV.int = acc ++ [.int l] ++ [.int (c * l + b)] ++ (szS cs l (c * l + b)).map DV.int := by
      rw [List.append_assoc (acc ++ [DV.int l])]
      rfl
    rw [e1, ← r]
    have lb := lenb (d0 := d0) (d1 := d1) (x5 := x5) (sp := sp) (acc := acc) (b := b) f za
    rw [List.map_cons]
    conv => lhs; unfold frN
    simp only [gNm, List.set_cons_succ, List.set_cons_zero]
    rw [lb]
def rowN (x : Num) (n : Nat) : List Int := 1 :: szS (qsN x n) 1 1
def b_lengths : SF :=
  sSeq (sAsg (eC (.int 1)) (gNm 2))
  (sSeq (sOwn 3 (lDs (aCons (eC (.int 1)) (aNil))))
  (sSeq (sFr (iVal (eA (aCons (eV 0) (aCons (eV 1) (aNil))) m_quotients)) (gNm 4) (sSeq (sAsg (eIxN 3 (e1 (eC (.int 1)) dNeg)) (gNm 5))
  (sSeq (sApp 3 (e2 (e2 (eV 4) (eV 5) dMul) (eV 2) dAdd))
  (sAsg (eV 5) (gNm 2)))))
  (sRt (eV 3))))
def m_lengths : List DV → Option DV := bodyP 2 6 b_lengths
theorem t_lengths : ∀ ds d, m_lengths ds = some d → bodyP 2 6 b_lengths ds = some d := fun _ _ h => h
theorem iVal_of {M : List DV → Option DV} {d0 d1 : DV} {l : List (Option SV)} {sp : Spl} {ds : List DV} (c : M [d0, d1] = some (.lst ds)) : iVal (eA (aCons (eV 0) (aCons (eV 1) (aNil))) M) ⟨some (.dat d0) :: some (.dat d1) :: l, sp⟩ = some (ds, ⟨some (.dat d0) :: some (.dat d1) :: l, sp⟩) := by
  simp only [iVal, eA, aCons, aNil, eV, c, List.getElem?_cons_zero, List.getElem?_cons_succ]
theorem lengths_ok {e : Int} {x : Num} (g : Good 100 100 e x) (rt : Rt e) (q0 : x.2.1 ≠ 0) {n : Nat} (hn : n ≤ 3000) : m_lengths [nm x, .int (n : Int)] = some (.lst ((rowN x n).map DV.int)) := by
  have c1 := quotients_ok g rt q0 hn
  obtain ⟨ro, _⟩ := st0_roo g rt q0 hn
  have sm := qsS_sm n (st0 x) _ ro
  obtain ⟨b', y4, y5, lp⟩ := len_loop (some (.dat (nm x))) (some (.dat (.int (n : Int)))) spl0 (qsN x n) [] 1 1 none none 1 sm (by decide) (by decide) (by show 1 + 500 * (qsS _ n _).length ≤ _; rw [qsS_len]; omega) (by show 0 + (qsS _ n _).length ≤ _; rw [qsS_len]; omega)
  rw [List.nil_append] at lp
  have eb : b_lengths = sSeq (sAsg (eC (.int 1)) (gNm 2)) (sSeq (sOwn 3 (lDs (aCons (eC (.int 1)) (aNil)))) (sSeq (sFr (iVal (eA (aCons (eV 0) (aCons (eV 1) (aNil))) m_quotients)) (gNm 4) lenBody) (sRt (eV 3)))) := rfl
  have s1 : sAsg (eC (.int 1)) (gNm 2) ⟨[some (.dat (nm x)), some (.dat (.int (n : Int))), none, none, none, none], spl0⟩ = some (.nx ⟨[some (.dat (nm x)), some (.dat (.int (n : Int))), some (.dat (.int 1)), none, none, none], spl0⟩) := rfl
  have k1 : ([DV.int 1] : List DV).length ≤ sizeLine := by decide
  have s2 : sOwn 3 (lDs (aCons (eC (.int 1)) (aNil))) ⟨[some (.dat (nm x)), some (.dat (.int (n : Int))), some (.dat (.int 1)), none, none, none], spl0⟩ = some (.nx ⟨[some (.dat (nm x)), some (.dat (.int (n : Int))), some (.dat (.int 1)), some (.own [.int 1]), none, none], spl0⟩) := own_ok (F := lDs (aCons (eC (.int 1)) (aNil))) (by
    unfold lDs
    show (if ([DV.int 1] : List DV).length ≤ sizeLine then _ else none) = _
    rw [if_pos k1])
  have s3 := (sFr_of (g := gNm 4) (B := lenBody) (iVal_of (l := [some (.dat (.int 1)), some (.own [.int 1]), none, none]) (sp := spl0) c1)).trans lp
  unfold m_lengths
  rw [eb]
  refine bodyP_of (ds := [nm x, .int (n : Int)]) rfl (t := ⟨[some (.dat (nm x)), some (.dat (.int (n : Int))), b', some (.dat (.lst ([.int 1] ++ (szS (qsN x n) 1 1).map DV.int))), y4, y5], spl0⟩) ?_
  refine (seq_nx s1).trans ((seq_nx s2).trans ((seq_nx s3).trans ?_))
  rfl
end T4

set_option maxRecDepth 100000
set_option maxHeartbeats 4000000
set_option exponentiation.threshold 30000
namespace T4
open PySem L2 FD
local macro_rules | `(tactic| walk_at "fd") => `(tactic| simp only [bodyP, bodyS, sSeq, sIf, sNx, sRt, sAsg, sDr, sPar, sAug, tBl, tTr, tAn, tOo, tNo, eC, eV, eA, eIf, eAn, eOo, eNo, e1, e2, eIxN, FD.peek, aCons, aNil, gNm, gTp, gCo, gNi, dI, dAddI, dMulI, dAdd, dSub, dMul, dFdiv, dMod, dNeg, dGcd, dMax, dMin, dAbs, dSq, dEq_int, dNe_int, dIx, oTup, truD, List.length_cons, List.length_nil, List.map_cons, List.map_nil, List.cons_append, List.nil_append, List.replicate_succ, List.replicate_zero, List.getElem?_cons_zero, List.getElem?_cons_succ, List.set_cons_succ, List.set_cons_zero, Nat.reduceAdd, Nat.reduceSub, Nat.sub_self, if_true, decide_true, decide_false, Bool.not_true, Bool.not_false, Bool.false_eq_true, if_false, reduceCtorEq, *])

/-! ## digits: the greatest possible ones from the longest word on -/
def gr : List Int → Int → List Int
  | [], _ => []
  | s :: ss, r => (r / s) :: gr ss (r % s)
def dz (l : List Int) : List Int := l.dropWhile fun d => d == 0
theorem gr_big : ∀ (bs ss : List Int) (r : Int), 0 ≤ r → (∀ b ∈ bs, r < b) → dz (gr (bs ++ ss) r) = dz (gr ss r)
  | [], ss, r, _, _ => rfl
  | b :: bs, ss, r, h0, h => by
    have hb := h b List.mem_cons_self
    have e1 : r / b = 0 := Int.ediv_eq_zero_of_lt h0 hb
    have e2 : r % b = r := Int.emod_eq_of_lt h0 hb
    show dz ((r / b) :: gr (bs ++ ss) (r % b)) = _
    rw [e1, e2]
    show dz (0 :: gr (bs ++ ss) r) = _
    rw [show dz (0 :: gr (bs ++ ss) r) = dz (gr (bs ++ ss) r) from rfl]
    exact gr_big bs ss r h0 fun c hc => h c (List.mem_cons_of_mem _ hc)
theorem gr_nn : ∀ (ss : List Int) (r : Int), 0 ≤ r → (∀ s ∈ ss, 0 < s) → ∀ d ∈ gr ss r, 0 ≤ d
  | [], _, _, _, d, hd => by simp [gr] at hd
  | s :: ss, r, h0, h, d, hd => by
    have hs := h s List.mem_cons_self
    unfold gr at hd
    rcases List.mem_cons.mp hd with w | w
    · rw [w]; exact Int.ediv_nonneg h0 (by omega)
    · exact gr_nn ss (r % s) (Int.emod_nonneg _ (by omega)) (fun c hc => h c (List.mem_cons_of_mem _ hc)) d w
theorem gr_le : ∀ (ss : List Int) (r : Int), 0 ≤ r → (∀ s ∈ ss, 0 < s) → ∀ d ∈ gr ss r, d ≤ r
  | [], _, _, _, d, hd => by simp [gr] at hd
  | s :: ss, r, h0, h, d, hd => by
    have hs := h s List.mem_cons_self
    have d0 := Int.ediv_nonneg h0 (show 0 ≤ s by omega)
    have d1 := Int.emod_nonneg r (show s ≠ 0 by omega)
    have d2 := Int.emod_add_mul_ediv r s
    have d3 := Int.mul_le_mul_of_nonneg_right (show 1 ≤ s by omega) d0
    unfold gr at hd
    rcases List.mem_cons.mp hd with w | w
    · rw [w]; omega
    · have d4 := Int.mul_nonneg (show 0 ≤ s by omega) d0
      have := gr_le ss (r % s) d1 (fun c hc => h c (List.mem_cons_of_mem _ hc)) d w
      omega
/-! ### lengths grow -/
def fb : Nat → Int × Int
  | 0 => (1, 1)
  | n + 1 => ((fb n).2, (fb n).1 + (fb n).2)
theorem fb_pos : ∀ n, 0 < (fb n).1 ∧ 0 < (fb n).2
  | 0 => by decide
  | n + 1 => by
    have := fb_pos n
    show 0 < (fb n).2 ∧ 0 < (fb n).1 + (fb n).2
    omega
theorem szS_append : ∀ (cs ds : List Int) (b l : Int), ∃ b' l', szS (cs ++ ds) b l = szS cs b l ++ szS ds b' l'
  | [], ds, b, l => ⟨b, l, rfl⟩
  | c :: cs, ds, b, l => by
    obtain ⟨b', l', h⟩ := szS_append cs ds l (c * l + b)
    exact ⟨b', l', by show (c * l + b) :: szS (cs ++ ds) l (c * l + b) = _; rw [h]; rfl⟩
/-- all sizes behind n quotients are above a Fibonacci number -/
theorem szS_fib : ∀ (cs : List Int) (b l : Int) (k : Nat), (∀ c ∈ cs, 1 ≤ c) → (fb k).1 ≤ b → (fb k).2 ≤ l → ∀ (i : Nat) (z : Int), (szS cs b l)[i]? = some z → (fb (k + i + 1)).2 ≤ z
  | [], b, l, k, _, _, _, i, z, hz => by simp [szS] at hz
  | c :: cs, b, l, k, hc, hb, hl, i, z, hz => by
    have c1 := hc c List.mem_cons_self
    have fp := fb_pos k
    have g := Int.mul_le_mul_of_nonneg_right c1 (show 0 ≤ l by omega)
    cases i with
    | zero =>
      have e1 : z = c * l + b := by
        have : (szS (c :: cs) b l)[0]? = some (c * l + b) := rfl
        rw [this] at hz
        exact (Option.some.inj hz).symm
      show (fb k).1 + (fb k).2 ≤ z
      omega
    | succ i =>
      have hz' : (szS cs l (c * l + b))[i]? = some z := hz
      have := szS_fib cs l (c * l + b) (k + 1) (fun y hy => hc y (List.mem_cons_of_mem _ hy)) hl (by show (fb k).1 + (fb k).2 ≤ _; omega) i z hz'
      rw [show k + (i + 1) + 1 = k + 1 + i + 1 by omega]
      exact this
theorem szS_pos : ∀ (cs : List Int) (b l : Int), (∀ c ∈ cs, 1 ≤ c) → 0 < b → 0 < l → ∀ z ∈ szS cs b l, 0 < z
  | [], b, l, _, _, _, z, hz => by simp [szS] at hz
  | c :: cs, b, l, hc, hb, hl, z, hz => by
    have c1 := hc c List.mem_cons_self
    have g := Int.mul_le_mul_of_nonneg_right c1 (show 0 ≤ l by omega)
    unfold szS at hz
    rcases List.mem_cons.mp hz with w | w
    · omega
    · exact szS_pos cs l (c * l + b) (fun y hy => hc y (List.mem_cons_of_mem _ hy)) hl (by omega) z w
theorem qsS_append (fr : Int) : ∀ (n m : Nat) (t : SStt), qsS fr (n + m) t = qsS fr n t ++ qsS fr m (stS fr n t)
  | 0, m, t => by rw [Nat.zero_add]; rfl
  | n + 1, m, t => by
    rw [show n + 1 + m = n + m + 1 by omega]
    show qOf fr t :: qsS fr (n + m) (stepS fr t) = _
    rw [qsS_append fr n m (stepS fr t)]
    rfl
/-- a ratio with a root, as the law draws them -/
structure Rr (e : Int) (x : Num) : Prop where
  g : Good 100 100 e x
  rt : Rt e
  q0 : x.2.1 ≠ 0
  pos : 0 < sgS x.1 x.2.1 e
section
variable {e : Int} {x : Num}
theorem Rr.first (h : Rr e x) : 0 ≤ qOf (sq (n0 x)) (st0 x) := by
  obtain ⟨ko, so, r⟩ := st0_ok h.g.can h.q0 ⟨h.rt.pos, h.rt.irr⟩
  rw [← q_floor ko so r, flo_can h.g.can]
  refine Int.not_lt.mp fun w => ?_
  have := (sg_flo (p := x.1) (q := x.2.1) (f := 0) h.g.s0 (Int.le_of_lt h.rt.pos)).mpr w
  rw [Int.zero_mul, Int.sub_zero] at this
  have := h.pos
  omega
theorem Rr.rest (h : Rr e x) (n : Nat) : ∀ c ∈ qsS (sq (n0 x)) n (stepS (sq (n0 x)) (st0 x)), 1 ≤ c := by
  obtain ⟨ko, so, r⟩ := st0_ok h.g.can h.q0 ⟨h.rt.pos, h.rt.irr⟩
  exact qsS_pos ko n (st0 x) so
/-- the sizes as one list: 1, the first, the others -/
theorem row_succ (n : Nat) : rowN x (n + 1) = 1 :: (qOf (sq (n0 x)) (st0 x) + 1) :: szS (qsS (sq (n0 x)) n (stepS (sq (n0 x)) (st0 x))) 1 (qOf (sq (n0 x)) (st0 x) + 1) := by
  show 1 :: (qOf (sq (n0 x)) (st0 x) * 1 + 1) :: szS (qsS (sq (n0 x)) n (stepS (sq (n0 x)) (st0 x))) 1 (qOf (sq (n0 x)) (st0 x) * 1 + 1) = _
  rw [Int.mul_one]
theorem row_pos (h : Rr e x) (n : Nat) : ∀ z ∈ rowN x n, 0 < z := by
  have f := h.first
  cases n with
  | zero =>
    intro z hz
    have : z ∈ [(1 : Int)] := hz
    rw [List.mem_singleton.mp this]
    decide
  | succ n =>
    intro z hz
    rw [row_succ] at hz
    rcases List.mem_cons.mp hz with w | w
    · omega
    · rcases List.mem_cons.mp w with w | w
      · omega
      · exact szS_pos _ _ _ (h.rest n) (by omega) (by omega) z w
theorem row_len (n : Nat) : (rowN x n).length = n + 1 := by
  unfold rowN qsN
  rw [List.length_cons, szS_len, qsS_len]
theorem row_append (n m : Nat) : ∃ ex, rowN x (n + m) = rowN x n ++ ex ∧ ex.length = m := by
  unfold rowN qsN
  rw [qsS_append]
  obtain ⟨b', l', e1⟩ := szS_append (qsS (sq (n0 x)) n (st0 x)) (qsS (sq (n0 x)) m (stS (sq (n0 x)) n (st0 x))) 1 1
  refine ⟨_, by rw [e1]; rfl, ?_⟩
  rw [szS_len, qsS_len]
/-- behind n quotients all sizes are above the Fibonacci number -/
theorem row_fib (h : Rr e x) (n i : Nat) (hi : 2 ≤ i) (z : Int) (hz : (rowN x n)[i]? = some z) : (fb (i - 1)).2 ≤ z := by
  cases n with
  | zero =>
    have : (rowN x 0)[i]? = none := List.getElem?_eq_none (by rw [row_len]; omega)
    rw [this] at hz
    cases hz
  | succ n =>
    rw [row_succ] at hz
    obtain ⟨j, rfl⟩ : ∃ j, i = j + 2 := ⟨i - 2, by omega⟩
    have hz' : (szS (qsS (sq (n0 x)) n (stepS (sq (n0 x)) (st0 x))) 1 (qOf (sq (n0 x)) (st0 x) + 1))[j]? = some z := hz
    have f := h.first
    have := szS_fib _ 1 (qOf (sq (n0 x)) (st0 x) + 1) 0 (h.rest n) (by decide) (by show (1 : Int) ≤ _; omega) j z hz'
    rw [show j + 2 - 1 = 0 + j + 1 by omega]
    exact this
theorem fb_mono : ∀ (k n : Nat), (fb n).2 ≤ (fb (n + k)).2
  | 0, n => Int.le_refl _
  | k + 1, n => by
    have a := fb_mono k n
    have b := fb_pos (n + k)
    show (fb n).2 ≤ (fb (n + k)).1 + (fb (n + k)).2
    omega
/-- more levels do not change the digits, if the longer words are longer than the count -/
theorem dz_more (h : Rr e x) {n m : Nat} (hn : 1 ≤ n) {r : Int} (h0 : 0 ≤ r) (hr : r < (fb n).2) : dz (gr (rowN x (n + m)).reverse r) = dz (gr (rowN x n).reverse r) := by
  obtain ⟨ex, e1, e2⟩ := row_append (x := x) n m
  rw [e1, List.reverse_append]
  refine gr_big _ _ _ h0 fun b hb => ?_
  obtain ⟨i, hi, rfl⟩ := List.getElem_of_mem (List.mem_reverse.mp hb)
  have hz : (rowN x (n + m))[n + 1 + i]? = some ex[i] := by
    rw [e1, List.getElem?_append_right (by rw [row_len]; omega), row_len, show n + 1 + i - (n + 1) = i by omega]
    exact List.getElem?_eq_getElem hi
  have := row_fib h (n + m) (n + 1 + i) (by omega) _ hz
  have g := fb_mono i n
  rw [show n + 1 + i - 1 = n + i by omega] at this
  omega
theorem fb_two : ∀ j : Nat, (2 : Int) ^ j ≤ (fb (2 * j)).2
  | 0 => by decide
  | j + 1 => by
    have a := fb_two j
    have b := fb_pos (2 * j)
    show (2 : Int) ^ (j + 1) ≤ (fb (2 * j)).2 + ((fb (2 * j)).1 + (fb (2 * j)).2)
    rw [Int.pow_succ]
    omega
theorem fb_220 : (10 : Int) ^ 40 < (fb 220).2 := by decide +kernel
/-- the digits of both ways are the same -/
theorem digits_same (h : Rr e x) {r : Int} {b : Nat} (h0 : 0 ≤ r) (h1 : r < 2 ^ b) (h2 : r ≤ 10 ^ 40) : dz (gr (rowN x (2 * b)).reverse r) = dz (gr (rowN x 220).reverse r) := by
  by_cases b0 : b = 0
  · subst b0
    have r0 : r = 0 := by have : (2 : Int) ^ 0 = 1 := rfl; omega
    subst r0
    have := dz_more h (n := 1) (m := 219) (r := 0) (by omega) (by omega) (by decide)
    rw [show 1 + 219 = 220 by rfl] at this
    rw [this]
    have z := row_pos h 1
    rw [row_succ] at z ⊢
    have z1 := z _ (List.mem_cons_of_mem _ List.mem_cons_self)
    have e0 : dz (gr (rowN x (2 * 0)).reverse 0) = [] := by
      show dz ((0 / 1) :: []) = []
      rfl
    rw [e0]
    show [] = dz (gr [qOf (sq (n0 x)) (st0 x) + 1, 1] 0)
    show [] = dz ((0 / (qOf (sq (n0 x)) (st0 x) + 1)) :: ((0 % (qOf (sq (n0 x)) (st0 x) + 1)) / 1) :: [])
    rw [Int.zero_ediv, Int.zero_emod]
    rfl
  · by_cases w : 2 * b ≤ 220
    · obtain ⟨m, hm⟩ : ∃ m, 220 = 2 * b + m := ⟨220 - 2 * b, by omega⟩
      rw [hm]
      exact (dz_more h (by omega) h0 (Int.lt_of_lt_of_le h1 (fb_two b))).symm
    · obtain ⟨m, hm⟩ : ∃ m, 2 * b = 220 + m := ⟨2 * b - 220, by omega⟩
      rw [hm]
      exact dz_more h (by omega) h0 (Int.lt_of_le_of_lt h2 fb_220)
end
end T4

set_option maxRecDepth 100000
set_option maxHeartbeats 4000000
set_option exponentiation.threshold 30000
namespace T4
open PySem L2 FD
local macro_rules | `(tactic| walk_at "fd") => `(tactic| simp only [bodyP, bodyS, sSeq, sIf, sNx, sRt, sAsg, sDr, sPar, sAug, tBl, tTr, tAn, tOo, tNo, eC, eV, eA, eIf, eAn, eOo, eNo, e1, e2, eIxN, FD.peek, aCons, aNil, gNm, gTp, gCo, gNi, dI, dAddI, dMulI, dAdd, dSub, dMul, dFdiv, dMod, dNeg, dGcd, dMax, dMin, dAbs, dSq, dEq_int, dNe_int, dIx, oTup, truD, List.length_cons, List.length_nil, List.map_cons, List.map_nil, List.cons_append, List.nil_append, List.replicate_succ, List.replicate_zero, List.getElem?_cons_zero, List.getElem?_cons_succ, List.set_cons_succ, List.set_cons_zero, Nat.reduceAdd, Nat.reduceSub, Nat.sub_self, if_true, decide_true, decide_false, Bool.not_true, Bool.not_false, Bool.false_eq_true, if_false, reduceCtorEq, *])

/-! ## the law's sizes -/
theorem prev_ix (acc : List DV) (d d' : DV) : dIx (.lst (acc ++ [d] ++ [d'])) (.int (-2)) = some d := by
  have hl : (acc ++ [d] ++ [d']).length = acc.length + 2 := by rw [List.length_append, List.length_append]; rfl
  have e : ixN (acc ++ [d] ++ [d']).length (-2) = some acc.length := by
    rw [hl]
    unfold ixN
    rw [if_neg (by omega), if_pos (by omega)]
    congr 1
    omega
  show atI (acc ++ [d] ++ [d']) (-2) = some d
  unfold L2.atI
  rw [e]
  show (acc ++ [d] ++ [d'])[acc.length]? = some d
  rw [List.append_assoc, List.getElem?_append_right (Nat.le_refl _), Nat.sub_self]
  rfl
def wsBody : SF := (sSeq (sApp 1 (e2 (e2 (eV 3) (eIxN 1 (e1 (eC (.int 1)) dNeg)) dMul) (eV 2) dAdd))
  (sAsg (eIxN 1 (e1 (eC (.int 2)) dNeg)) (gNm 2)))
theorem wsb {acc : List DV} {b l c : Int} {d0 : Option SV} {sp : Spl} (f : fitM c l = true) (za : (acc ++ [DV.int l]).length < sizeLine) :
    wsBody ⟨[d0, some (.own (acc ++ [.int l])), some (.dat (.int b)), some (.dat (.int c))], sp⟩ = some (.nx ⟨[d0, some (.own (acc ++ [.int l] ++ [.int (c * l + b)])), some (.dat (.int l)), some (.dat (.int c))], sp⟩) := by
  have k := last_ix acc (.int l)
  have k2 := prev_ix acc (.int l) (.int (c * l + b))
  have ai : ∀ a b : Int, dAdd (.int a) (.int b) = some (.int (a + b)) := fun _ _ => rfl
  generalize acc ++ [DV.int l] = A at *
  unfold wsBody
  simp only [sSeq, sAsg, sApp, eIxN, FD.peek, eC, eV, FD.e1, dNeg, e2, dMul, ai, k, k2, f, za, gNm, List.length_cons, List.length_nil, List.map_cons, List.map_nil, List.cons_append, List.nil_append, List.replicate_succ, List.replicate_zero, List.getElem?_cons_zero, List.getElem?_cons_succ, List.set_cons_succ, List.set_cons_zero, Nat.reduceAdd, Nat.reduceSub, Nat.sub_self, if_true]
theorem ws_loop (d0 : Option SV) (sp : Spl) : ∀ (cs : List Int) (acc : List DV) (b l : Int) (x3 : Option SV) (m : Nat), SmQ cs → b.natAbs < 2 ^ m → l.natAbs < 2 ^ m → m + 500 * cs.length ≤ 10000000 → acc.length + cs.length ≤ 100000 →
    ∃ b' y3, frN (cs.map DV.int) (gNm 3) wsBody ⟨[d0, some (.own (acc ++ [.int l])), some (.dat (.int b)), x3], sp⟩ = some (.nx ⟨[d0, some (.own (acc ++ [.int l] ++ (szS cs b l).map DV.int)), b', y3], sp⟩)
  | [], acc, b, l, x3, m, _, _, _, _, _ => ⟨some (.dat (.int b)), x3, by simp [frN, szS]⟩
  | c :: cs, acc, b, l, x3, m, hq, hb, hl, hm, ha => by
    rw [List.length_cons] at hm ha
    have zc := hq c List.mem_cons_self
    have zn : (c * l + b).natAbs < 2 ^ (m + 500) := lt_up (add_lt (a := 402 + m) (mul_lt zc hl) (lt_up hb (by omega))) (by omega)
    obtain ⟨b', y3, r⟩ := ws_loop d0 sp cs (acc ++ [.int l]) l (c * l + b) (some (.dat (.int c))) (m + 500) (fun y hy => hq y (List.mem_cons_of_mem _ hy)) (lt_up hl (by omega)) zn (by omega) (by rw [List.length_append, List.length_singleton]; omega)
    have f : fitM c l = true := fit_of zc hl (by omega)
    have za : (acc ++ [DV.int l]).length < sizeLine := by rw [sizeLine_eq, List.length_append, List.length_singleton]; omega
    refine ⟨b', y3, ?_⟩
    have e1 : acc ++ [DV.int l] ++ (szS (c :: cs) b l).map DV.int = acc ++ [.int l] ++ [.int (c * l + b)] ++ (szS cs l (c * l + b)).map DV.int := by
      rw [List.append_assoc (acc ++ [DV.int l])]
      rfl
    rw [e1, ← r]
    have lb := wsb (d0 := d0) (sp := sp) (acc := acc) (b := b) f za
    rw [List.map_cons]
    conv => lhs; unfold frN
    simp only [gNm, List.set_cons_succ, List.set_cons_zero]
    rw [lb]
def b_law_word_sizes : SF :=
  sSeq (sOwn 1 (lDs (aCons (eC (.int 1)) (aNil))))
  (sSeq (sAsg (eC (.int 1)) (gNm 2))
  (sSeq (sFr (iVal (eV 0)) (gNm 3) (sSeq (sApp 1 (e2 (e2 (eV 3) (eIxN 1 (e1 (eC (.int 1)) dNeg)) dMul) (eV 2) dAdd))
  (sAsg (eIxN 1 (e1 (eC (.int 2)) dNeg)) (gNm 2))))
  (sRt (eV 1))))
def m_law_word_sizes : List DV → Option DV := bodyP 1 4 b_law_word_sizes
theorem t_law_word_sizes : ∀ ds d, m_law_word_sizes ds = some d → bodyP 1 4 b_law_word_sizes ds = some d := fun _ _ h => h
theorem iVal_v {ds : List DV} {l : List (Option SV)} {sp : Spl} : iVal (eV 0) ⟨some (.dat (.lst ds)) :: l, sp⟩ = some (ds, ⟨some (.dat (.lst ds)) :: l, sp⟩) := rfl
theorem word_sizes_ok {cs : List Int} (h : SmQ cs) (hl : cs.length ≤ 3000) : m_law_word_sizes [.lst (cs.map DV.int)] = some (.lst ((1 :: szS cs 1 1).map DV.int)) := by
  obtain ⟨b', y3, lp⟩ := ws_loop (some (.dat (.lst (cs.map DV.int)))) spl0 cs [] 1 1 none 1 h (by decide) (by decide) (by omega) (by rw [List.length_nil]; omega)
  rw [List.nil_append] at lp
  have eb : b_law_word_sizes = sSeq (sOwn 1 (lDs (aCons (eC (.int 1)) (aNil)))) (sSeq (sAsg (eC (.int 1)) (gNm 2)) (sSeq (sFr (iVal (eV 0)) (gNm 3) wsBody) (sRt (eV 1)))) := rfl
  have k1 : ([DV.int 1] : List DV).length ≤ sizeLine := by decide
  generalize hL : cs.map DV.int = L at *
  have s1 : sOwn 1 (lDs (aCons (eC (.int 1)) (aNil))) ⟨[some (.dat (.lst L)), none, none, none], spl0⟩ = some (.nx ⟨[some (.dat (.lst L)), some (.own [.int 1]), none, none], spl0⟩) := own_ok (F := lDs (aCons (eC (.int 1)) (aNil))) (by
    unfold lDs
    show (if ([DV.int 1] : List DV).length ≤ sizeLine then _ else none) = _
    rw [if_pos k1])
  have s2 : sAsg (eC (.int 1)) (gNm 2) ⟨[some (.dat (.lst L)), some (.own [.int 1]), none, none], spl0⟩ = some (.nx ⟨[some (.dat (.lst L)), some (.own [.int 1]), some (.dat (.int 1)), none], spl0⟩) := rfl
  have s3 := (sFr_of (g := gNm 3) (B := wsBody) (iVal_v (ds := L) (l := [some (.own [.int 1]), some (.dat (.int 1)), none]) (sp := spl0))).trans lp
  unfold m_law_word_sizes
  rw [eb]
  refine bodyP_of (ds := [.lst L]) rfl (t := ⟨[some (.dat (.lst L)), some (.dat (.lst ([.int 1] ++ (szS cs 1 1).map DV.int))), b', y3], spl0⟩) ?_
  refine (seq_nx s1).trans ((seq_nx s2).trans ((seq_nx s3).trans ?_))
  rfl
/-! ## digits -/
theorem goes {i j : Int} (h : i.natAbs < 2 ^ 140) : Builtin.divisionGoesByPylong i j = false := by
  have l1 := log2_lt_of h
  unfold Builtin.divisionGoesByPylong
  rw [Bool.and_eq_false_iff]
  right
  refine decide_eq_false ?_
  have k : (if (i == 0) = true then 0 else i.natAbs.log2 / 30 + 1) ≤ 150 := by split <;> omega
  show ¬ ((if (i == 0) = true then 0 else i.natAbs.log2 / 30 + 1) > (if (j == 0) = true then 0 else j.natAbs.log2 / 30 + 1) + 150)
  omega
def dgBody : SF := (sSeq (sAsg (eA (aCons (eV 4) (aCons (eV 5) (aNil))) dDivmod) (gTp 2 (gCo (gNm 6) (gCo (gNm 4) (gNi)))))
  (sIf (tOo (tBl (e2 (eV 6) (eC (.int 0)) dGt)) (tBl (e2 (eLenN 3) (eC (.int 0)) dGt))) (sApp 3 (eV 6)) (sNx)))
theorem dg1 {DM : List DV → Option DV} {a b : DV} {r s : DV} {o3 d0 d1 d2 x6 : Option SV} {sp : Spl} (c : DM [r, s] = some (.tup [a, b])) :
    (sAsg (eA (aCons (eV 4) (aCons (eV 5) (aNil))) DM) (gTp 2 (gCo (gNm 6) (gCo (gNm 4) (gNi))))) ⟨[d0, d1, d2, o3, some (.dat r), some (.dat s), x6], sp⟩ = some (.nx ⟨[d0, d1, d2, o3, some (.dat b), some (.dat s), some (.dat a)], sp⟩) := by
  simp only [sAsg, eA, aCons, aNil, eV, c, gTp, gCo, gNm, gNi, List.length_cons, List.length_nil, List.map_cons, List.map_nil, List.cons_append, List.nil_append, List.replicate_succ, List.replicate_zero, List.getElem?_cons_zero, List.getElem?_cons_succ, List.set_cons_succ, List.set_cons_zero, Nat.reduceAdd, Nat.reduceSub, Nat.sub_self, if_true]
theorem dg2 {acc : List DV} {q : Int} {d0 d1 d2 d4 d5 : Option SV} {sp : Spl} (za : acc.length < sizeLine) :
    (sIf (tOo (tBl (e2 (eV 6) (eC (.int 0)) dGt)) (tBl (e2 (eLenN 3) (eC (.int 0)) dGt))) (sApp 3 (eV 6)) (sNx)) ⟨[d0, d1, d2, some (.own acc), d4, d5, some (.dat (.int q))], sp⟩ = some (.nx ⟨[d0, d1, d2, some (.own (if 0 < q ∨ acc ≠ [] then acc ++ [.int q] else acc)), d4, d5, some (.dat (.int q))], sp⟩) := by
  by_cases z : 0 < q
  · have z' : decide (0 < q) = true := decide_eq_true z
    rw [if_pos (.inl z)]
    simp only [sIf, tOo, tBl, e2, eV, eC, dI, z', sApp, za, List.length_cons, List.length_nil, List.map_cons, List.map_nil, List.cons_append, List.nil_append, List.replicate_succ, List.replicate_zero, List.getElem?_cons_zero, List.getElem?_cons_succ, List.set_cons_succ, List.set_cons_zero, Nat.reduceAdd, Nat.reduceSub, Nat.sub_self, if_true]
  · have z' : decide (0 < q) = false := decide_eq_false z
    cases acc with
    | nil =>
      rw [if_neg (fun w => w.elim z (fun y => y rfl))]
      have z2 : decide ((0 : Int) < ((0 : Nat) : Int)) = false := rfl
      simp only [sIf, tOo, tBl, e2, eV, eC, dI, z', eLenN, FD.peek, z2, sNx, List.length_cons, List.length_nil, List.map_cons, List.map_nil, List.cons_append, List.nil_append, List.replicate_succ, List.replicate_zero, List.getElem?_cons_zero, List.getElem?_cons_succ, List.set_cons_succ, List.set_cons_zero, Nat.reduceAdd, Nat.reduceSub, Nat.sub_self, if_true]
    | cons d acc =>
      rw [if_pos (.inr (List.cons_ne_nil _ _))]
      have z2 : decide ((0 : Int) < (((d :: acc).length : Nat) : Int)) = true := decide_eq_true (by rw [List.length_cons]; omega)
      generalize d :: acc = A at *
      simp only [sIf, tOo, tBl, e2, eV, eC, dI, z', eLenN, FD.peek, z2, sApp, za, List.getElem?_cons_zero, List.getElem?_cons_succ, List.set_cons_succ, List.set_cons_zero, if_true]
theorem dm_ok {r s : Int} (hs : 0 < s) (hr : r.natAbs < 2 ^ 140) : dDivmod [.int r, .int s] = some (.tup [.int (r / s), .int (r % s)]) := by
  have ok : 0 < s ∧ Builtin.divisionGoesByPylong r s = false := ⟨hs, goes hr⟩
  exact if_pos ok
theorem dgb {acc : List DV} {r s : Int} {d0 d1 d2 x6 : Option SV} {sp : Spl} (hs : 0 < s) (hr : r.natAbs < 2 ^ 140) (za : acc.length < sizeLine) :
    dgBody ⟨[d0, d1, d2, some (.own acc), some (.dat (.int r)), some (.dat (.int s)), x6], sp⟩ = some (.nx ⟨[d0, d1, d2, some (.own (if 0 < r / s ∨ acc ≠ [] then acc ++ [.int (r / s)] else acc)), some (.dat (.int (r % s))), some (.dat (.int s)), some (.dat (.int (r / s)))], sp⟩) :=
  (seq_nx (dg1 (dm_ok hs hr))).trans (dg2 za)
theorem mod_sz {r s : Int} (h0 : 0 ≤ r) (hs : 0 < s) : 0 ≤ r % s ∧ r % s ≤ r := by
  have d0 := Int.ediv_nonneg h0 (show 0 ≤ s by omega)
  have d1 := Int.emod_nonneg r (show s ≠ 0 by omega)
  have d2 := Int.emod_add_mul_ediv r s
  have d4 := Int.mul_nonneg (show 0 ≤ s by omega) d0
  omega
def dacc (acc : List DV) (l : List Int) : List DV := acc ++ (if acc = [] then dz l else l).map DV.int
theorem dg_loop (d0 d1 d2 : Option SV) (sp : Spl) : ∀ (ss : List Int) (acc : List DV) (r : Int) (x5 x6 : Option SV), 0 ≤ r → r.natAbs < 2 ^ 140 → (∀ s ∈ ss, 0 < s) → acc.length + ss.length ≤ 100000 →
    ∃ y4 y5 y6, frN (ss.map DV.int) (gNm 5) dgBody ⟨[d0, d1, d2, some (.own acc), some (.dat (.int r)), x5, x6], sp⟩ = some (.nx ⟨[d0, d1, d2, some (.own (dacc acc (gr ss r))), y4, y5, y6], sp⟩)
  | [], acc, r, x5, x6, _, _, _, _ => ⟨some (.dat (.int r)), x5, x6, by
    have e : dacc acc (gr [] r) = acc := by unfold dacc gr dz; split <;> simp
    rw [e]; rfl⟩
  | s :: ss, acc, r, x5, x6, h0, hr, hs, hl => by
    rw [List.length_cons] at hl
    have s0 := hs s List.mem_cons_self
    obtain ⟨m0, m1⟩ := mod_sz h0 s0
    have q0 := Int.ediv_nonneg h0 (show 0 ≤ s by omega)
    have za : acc.length < sizeLine := by rw [sizeLine_eq]; omega
    obtain ⟨y4, y5, y6, ih⟩ := dg_loop d0 d1 d2 sp ss (if 0 < r / s ∨ acc ≠ [] then acc ++ [.int (r / s)] else acc) (r % s) (some (.dat (.int s))) (some (.dat (.int (r / s)))) m0 (by omega) (fun c hc => hs c (List.mem_cons_of_mem _ hc)) (by split <;> (try rw [List.length_append, List.length_singleton]) <;> omega)
    refine ⟨y4, y5, y6, ?_⟩
    have e : dacc (if 0 < r / s ∨ acc ≠ [] then acc ++ [.int (r / s)] else acc) (gr ss (r % s)) = dacc acc (gr (s :: ss) r) := by
      unfold dacc
      show _ = acc ++ (if acc = [] then dz ((r / s) :: gr ss (r % s)) else (r / s) :: gr ss (r % s)).map DV.int
      by_cases w : acc = []
      · subst w
        by_cases z : 0 < r / s
        · rw [if_pos (.inl z), if_neg (by simp), if_pos rfl]
          have ez : dz ((r / s) :: gr ss (r % s)) = (r / s) :: gr ss (r % s) := by
            unfold dz
            rw [List.dropWhile_cons_of_neg (by simp; omega)]
          rw [ez]
          simp
        · have zz : r / s = 0 := by omega
          rw [if_neg (fun y => y.elim z (fun u => u rfl)), if_pos rfl, if_pos rfl, zz]
          rfl
      · rw [if_pos (.inr w), if_neg (by simp), if_neg w]
        simp
    rw [← e, ← ih]
    have b := dgb (d0 := d0) (d1 := d1) (d2 := d2) (x6 := x6) (sp := sp) s0 hr za
    rw [List.map_cons]
    conv => lhs; unfold frN
    simp only [gNm, List.set_cons_succ, List.set_cons_zero]
    rw [b]
def b_digits : SF :=
  sSeq (sAsg (eA (aCons (eV 0) (aCons (e2 (eC (.int 2)) (e1 (eV 1) dBits) dMul) (aNil))) m_lengths) (gNm 2))
  (sSeq (sOwn 3 (lDs (aNil)))
  (sSeq (sAsg (eV 1) (gNm 4))
  (sSeq (sFr (iRev (eV 2)) (gNm 5) (sSeq (sAsg (eA (aCons (eV 4) (aCons (eV 5) (aNil))) dDivmod) (gTp 2 (gCo (gNm 6) (gCo (gNm 4) (gNi)))))
  (sIf (tOo (tBl (e2 (eV 6) (eC (.int 0)) dGt)) (tBl (e2 (eLenN 3) (eC (.int 0)) dGt))) (sApp 3 (eV 6)) (sNx))))
  (sSeq (sRevO 3)
  (sRt (e1 (eV 3) dTupOf))))))
def m_digits : List DV → Option DV := bodyP 2 7 b_digits
theorem t_digits : ∀ ds d, m_digits ds = some d → bodyP 2 7 b_digits ds = some d := fun _ _ h => h
theorem d1_ok {M : List DV → Option DV} {d0 : DV} {n : Int} {w : DV} {l : List (Option SV)} {o2 : Option SV} {sp : Spl} (f : fitM 2 (Builtin.Int.intBits n : Nat) = true) (c : M [d0, .int (2 * (Builtin.Int.intBits n : Nat))] = some w) :
    (sAsg (eA (aCons (eV 0) (aCons (e2 (eC (.int 2)) (e1 (eV 1) dBits) dMul) (aNil))) M) (gNm 2)) ⟨some (.dat d0) :: some (.dat (.int n)) :: o2 :: l, sp⟩ = some (.nx ⟨some (.dat d0) :: some (.dat (.int n)) :: some (.dat w) :: l, sp⟩) := by
  simp only [sAsg, eA, aCons, aNil, eV, eC, e2, FD.e1, dBits, dMul, f, c, gNm, List.length_cons, List.length_nil, List.map_cons, List.map_nil, List.cons_append, List.nil_append, List.replicate_succ, List.replicate_zero, List.getElem?_cons_zero, List.getElem?_cons_succ, List.set_cons_succ, List.set_cons_zero, Nat.reduceAdd, Nat.reduceSub, Nat.sub_self, if_true]
theorem bits_lt (n : Int) (h0 : 0 ≤ n) : n < 2 ^ (Builtin.Int.intBits n) := by
  unfold Builtin.Int.intBits
  by_cases z : n = 0
  · rw [z]; decide
  · have z' : (n == 0) = false := beq_eq_false_iff_ne.mpr z
    rw [z']
    have k : n.natAbs < 2 ^ (n.natAbs.log2 + 1) := Nat.lt_log2_self
    have e1 : ((2 ^ (n.natAbs.log2 + 1) : Nat) : Int) = (2 : Int) ^ (n.natAbs.log2 + 1) := Int.natCast_pow 2 _
    show n < 2 ^ (n.natAbs.log2 + 1)
    rw [← e1]
    omega
theorem bits_le {n : Int} (h : n.natAbs < 2 ^ 140) : Builtin.Int.intBits n ≤ 141 := by
  have := log2_lt_of h
  unfold Builtin.Int.intBits
  split <;> omega
theorem digits_ok {e : Int} {x : Num} (h : Rr e x) {n : Int} (h0 : 0 ≤ n) (hn : n ≤ 10 ^ 40) : m_digits [nm x, .int n] = some (.tup (((dz (gr (rowN x 220).reverse n)).map DV.int).reverse)) := by
  have zn : n.natAbs < 2 ^ 140 := by omega
  have bl := bits_le zn
  have same := digits_same h h0 (bits_lt n h0) hn
  have c1 := lengths_ok h.g h.rt h.q0 (n := 2 * Builtin.Int.intBits n) (by omega)
  have c1' : m_lengths [nm x, .int (2 * (Builtin.Int.intBits n : Nat))] = _ := c1
  have f : fitM 2 (Builtin.Int.intBits n : Nat) = true := fit_of (a := 2) (b := 10) (by decide) (by omega)
  have rp := row_pos h (2 * Builtin.Int.intBits n)
  have rl := row_len (x := x) (2 * Builtin.Int.intBits n)
  generalize rowN x (2 * Builtin.Int.intBits n) = R at *
  obtain ⟨y4, y5, y6, lp⟩ := dg_loop (some (.dat (nm x))) (some (.dat (.int n))) (some (.dat (.lst (R.map DV.int)))) spl0 R.reverse [] n none none h0 zn (fun s hs => rp s (List.mem_reverse.mp hs)) (by rw [List.length_nil, List.length_reverse, rl]; omega)
  have e9 : dacc [] (gr R.reverse n) = (dz (gr (rowN x 220).reverse n)).map DV.int := by
    unfold dacc
    rw [if_pos rfl, same]
    rfl
  rw [e9] at lp
  have eb : b_digits = sSeq (sAsg (eA (aCons (eV 0) (aCons (e2 (eC (.int 2)) (e1 (eV 1) dBits) dMul) (aNil))) m_lengths) (gNm 2))
    (sSeq (sOwn 3 (lDs (aNil))) (sSeq (sAsg (eV 1) (gNm 4)) (sSeq (sFr (iRev (eV 2)) (gNm 5) dgBody) (sSeq (sRevO 3) (sRt (e1 (eV 3) dTupOf)))))) := rfl
  have s1 := d1_ok (d0 := nm x) (n := n) (l := [none, none, none, none]) (o2 := none) (sp := spl0) f c1'
  have s2 := own0_ok (i := 3) ⟨[some (.dat (nm x)), some (.dat (.int n)), some (.dat (.lst (R.map DV.int))), none, none, none, none], spl0⟩
  have s3 : sAsg (eV 1) (gNm 4) ⟨[some (.dat (nm x)), some (.dat (.int n)), some (.dat (.lst (R.map DV.int))), some (.own []), none, none, none], spl0⟩ = some (.nx ⟨[some (.dat (nm x)), some (.dat (.int n)), some (.dat (.lst (R.map DV.int))), some (.own []), some (.dat (.int n)), none, none], spl0⟩) := rfl
  have i4 : iRev (eV 2) ⟨[some (.dat (nm x)), some (.dat (.int n)), some (.dat (.lst (R.map DV.int))), some (.own []), some (.dat (.int n)), none, none], spl0⟩ = some (R.reverse.map DV.int, ⟨[some (.dat (nm x)), some (.dat (.int n)), some (.dat (.lst (R.map DV.int))), some (.own []), some (.dat (.int n)), none, none], spl0⟩) := by
    rw [List.map_reverse]
    rfl
  have s4 := (sFr_of (g := gNm 5) (B := dgBody) i4).trans lp
  generalize (dz (gr (rowN x 220).reverse n)).map DV.int = DD at *
  have s5 : sRevO 3 ⟨[some (.dat (nm x)), some (.dat (.int n)), some (.dat (.lst (R.map DV.int))), some (.own DD), y4, y5, y6], spl0⟩ = some (.nx ⟨[some (.dat (nm x)), some (.dat (.int n)), some (.dat (.lst (R.map DV.int))), some (.own DD.reverse), y4, y5, y6], spl0⟩) := rfl
  unfold m_digits
  rw [eb]
  refine bodyP_of (ds := [nm x, .int n]) rfl (t := ⟨[some (.dat (nm x)), some (.dat (.int n)), some (.dat (.lst (R.map DV.int))), some (.dat (.lst DD.reverse)), y4, y5, y6], spl0⟩) ?_
  refine (seq_nx s1).trans ((seq_nx s2).trans ((seq_nx s3).trans ((seq_nx s4).trans ((seq_nx s5).trans ?_))))
  rfl
end T4

set_option maxRecDepth 100000
set_option maxHeartbeats 4000000
set_option exponentiation.threshold 30000
namespace T4
open PySem L2 FD
local macro_rules | `(tactic| walk_at "fd") => `(tactic| simp only [bodyP, bodyS, sSeq, sIf, sNx, sRt, sAsg, sDr, sPar, sAug, tBl, tTr, tAn, tOo, tNo, eC, eV, eA, eIf, eAn, eOo, eNo, e1, e2, eIxN, FD.peek, aCons, aNil, gNm, gTp, gCo, gNi, dI, dAddI, dMulI, dAdd, dSub, dMul, dFdiv, dMod, dNeg, dGcd, dMax, dMin, dAbs, dSq, dEq_int, dNe_int, dIx, oTup, truD, List.length_cons, List.length_nil, List.map_cons, List.map_nil, List.cons_append, List.nil_append, List.replicate_succ, List.replicate_zero, List.getElem?_cons_zero, List.getElem?_cons_succ, List.set_cons_succ, List.set_cons_zero, Nat.reduceAdd, Nat.reduceSub, Nat.sub_self, if_true, decide_true, decide_false, Bool.not_true, Bool.not_false, Bool.false_eq_true, if_false, reduceCtorEq, *])

/-! ## the law's greedy digits -/
theorem copy_ok (a0 a1 a3 a4 : Option SV) (sp : Spl) : ∀ (ds acc : List DV), acc.length + ds.length ≤ 100000 → cpN ds 2 tY (eV 2) ⟨[a0, a1, none, a3, a4], sp⟩ acc = some (acc ++ ds, ⟨[a0, a1, none, a3, a4], sp⟩)
  | [], acc, _ => by rw [List.append_nil]; rfl
  | d :: ds, acc, h => by
    rw [List.length_cons] at h
    have za : acc.length < sizeLine := by rw [sizeLine_eq]; omega
    have ih := copy_ok a0 a1 a3 a4 sp ds (acc ++ [d]) (by rw [List.length_append, List.length_singleton]; omega)
    rw [List.append_assoc] at ih
    have e : cpN (d :: ds) 2 tY (eV 2) ⟨[a0, a1, none, a3, a4], sp⟩ acc = if acc.length < sizeLine then cpN ds 2 tY (eV 2) ⟨[a0, a1, none, a3, a4], sp⟩ (acc ++ [d]) else none := rfl
    rw [e, if_pos za, ih]
    rfl
def gBody : SF := (sSeq (sApp 4 (e2 (eV 1) (eV 2) dFdiv)) (sAsg (e2 (eV 1) (eV 2) dMod) (gNm 1)))
theorem gb {acc : List DV} {r s : Int} {d0 d3 : Option SV} {sp : Spl} (f : dFdiv (.int r) (.int s) = some (.int (r / s))) (m : dMod (.int r) (.int s) = some (.int (r % s))) (za : acc.length < sizeLine) :
    gBody ⟨[d0, some (.dat (.int r)), some (.dat (.int s)), d3, some (.own acc)], sp⟩ = some (.nx ⟨[d0, some (.dat (.int (r % s))), some (.dat (.int s)), d3, some (.own (acc ++ [.int (r / s)]))], sp⟩) := by
  unfold gBody
  simp only [sSeq, sApp, sAsg, e2, eV, f, m, za, gNm, List.length_cons, List.length_nil, List.map_cons, List.map_nil, List.cons_append, List.nil_append, List.replicate_succ, List.replicate_zero, List.getElem?_cons_zero, List.getElem?_cons_succ, List.set_cons_succ, List.set_cons_zero, Nat.reduceAdd, Nat.reduceSub, Nat.sub_self, if_true]
theorem div_two {r s : Int} (hs : 0 < s) (zs : s.natAbs < 2 ^ 8999) : dFdiv (.int r) (.int s) = some (.int (r / s)) ∧ dMod (.int r) (.int s) = some (.int (r % s)) := by
  have e1 : r.fdiv s = r / s := Int.fdiv_eq_ediv_of_nonneg r (by omega)
  have e2 : r.fmod s = r % s := Int.fmod_eq_emod_of_nonneg r (by omega)
  have hc : decide (s ≠ 0 ∧ s.natAbs.log2 < 9000) = true := decide_eq_true (div_ok (by omega) zs)
  have hm : decide (s ≠ 0) = true := decide_eq_true (by omega)
  constructor
  · show (if decide (s ≠ 0 ∧ s.natAbs.log2 < 9000) = true then some (DV.int (r.fdiv s)) else none) = _
    rw [if_pos hc, e1]
  · show (if decide (s ≠ 0) = true then some (DV.int (r.fmod s)) else none) = _
    rw [if_pos hm, e2]
theorem g_loop (d0 d3 : Option SV) (sp : Spl) : ∀ (ss : List Int) (acc : List DV) (r : Int) (x2 : Option SV), (∀ s ∈ ss, 0 < s ∧ s.natAbs < 2 ^ 8999) → acc.length + ss.length ≤ 100000 →
    ∃ y1 y2, frN (ss.map DV.int) (gNm 2) gBody ⟨[d0, some (.dat (.int r)), x2, d3, some (.own acc)], sp⟩ = some (.nx ⟨[d0, y1, y2, d3, some (.own (acc ++ (gr ss r).map DV.int))], sp⟩)
  | [], acc, r, x2, _, _ => ⟨some (.dat (.int r)), x2, by simp [frN, gr]⟩
  | s :: ss, acc, r, x2, hs, hl => by
    rw [List.length_cons] at hl
    obtain ⟨s0, zs⟩ := hs s List.mem_cons_self
    have za : acc.length < sizeLine := by rw [sizeLine_eq]; omega
    obtain ⟨f, m⟩ := div_two (r := r) s0 zs
    obtain ⟨y1, y2, ih⟩ := g_loop d0 d3 sp ss (acc ++ [.int (r / s)]) (r % s) (some (.dat (.int s))) (fun c hc => hs c (List.mem_cons_of_mem _ hc)) (by rw [List.length_append, List.length_singleton]; omega)
    refine ⟨y1, y2, ?_⟩
    have e : acc ++ (gr (s :: ss) r).map DV.int = acc ++ [.int (r / s)] ++ (gr ss (r % s)).map DV.int := by
      rw [List.append_assoc]
      rfl
    rw [e, ← ih]
    have b := gb (d0 := d0) (d3 := d3) (sp := sp) f m za
    rw [List.map_cons]
    conv => lhs; unfold frN
    simp only [gNm, List.set_cons_succ, List.set_cons_zero]
    rw [b]
/-! ### zeros in front -/
theorem cut_one (l : List Int) : dSl (.lst (l.map DV.int)) none (some 1) = some (.lst ((l.take 1).map DV.int)) := by
  show some (DV.lst (cutD (l.map DV.int) none (some 1))) = _
  unfold cutD
  have e2 : HT.sIx (l.map DV.int).length (l.map DV.int).length (some 1) = min 1 l.length := by
    rw [List.length_map]
    exact HT.sIx_nat _ _ 1
  have e1 : HT.sIx (l.map DV.int).length 0 none = 0 := rfl
  rw [e1, e2, List.drop_zero, Nat.sub_zero]
  cases l with
  | nil => rfl
  | cons a l =>
    rw [show min 1 (a :: l).length = 1 by rw [List.length_cons]; omega, List.map_take]
theorem cut_rest (a : Int) (l : List Int) : dSl (.lst ((a :: l).map DV.int)) (some 1) none = some (.lst (l.map DV.int)) := by
  show some (DV.lst (cutD ((a :: l).map DV.int) (some 1) none)) = _
  unfold cutD
  have e2 : HT.sIx ((a :: l).map DV.int).length 0 (some 1) = 1 := by
    rw [List.length_map, List.length_cons]
    refine (HT.sIx_nat _ _ 1).trans ?_
    omega
  have e1 : HT.sIx ((a :: l).map DV.int).length ((a :: l).map DV.int).length none = ((a :: l).map DV.int).length := rfl
  rw [e1, e2, List.map_cons, List.length_cons]
  show some (DV.lst (((l.map DV.int)).take _)) = _
  rw [List.take_of_length_le (by rw [List.length_map]; omega)]
theorem dEq_ints (a b : List Int) : dEq (.lst (a.map DV.int)) (.lst (b.map DV.int)) = some (.bl ((PyData.list (a.map PyData.int)).eqv (.list (b.map PyData.int)))) := by
  have h : ∀ l : List Int, toPy (.lst (l.map DV.int)) = some (.list (l.map PyData.int)) := fun l => by
    show (toPyL (l.map DV.int)).map PyData.list = _
    rw [toPyL_ints]
    rfl
  unfold dEq
  rw [h a, h b]
  dsimp only
  rw [shaped_ints, shaped_ints]
  rfl
theorem eq_zero_one (l : List Int) : dEq (.lst ((l.take 1).map DV.int)) (.lst [.int 0]) = some (.bl (match l with | [] => false | a :: _ => a == 0)) := by
  have e := dEq_ints (l.take 1) [0]
  rw [show ([(0 : Int)]).map DV.int = [.int 0] from rfl] at e
  rw [e]
  cases l with
  | nil => rfl
  | cons a l =>
    show some (DV.bl ((PyData.list [PyData.int a]).eqv (.list [.int 0]))) = _
    simp only [PyData.eqv, PyData.eqvAll, Bool.and_true]
def zTest : TF := (tBl (e2 (eSlN 4 (oNo) (oSo (eC (.int 1)))) (eA (aCons (eC (.int 0)) (aNil)) oLst) dEq))
def zBody : SF := (sAsg (eSlN 4 (oSo (eC (.int 1))) (oNo)) (gNm 4))
theorem z_test {IX : DV → Option Int → Option Int → Option DV} {d z : DV} {b : Bool} {t : S} (hp : FD.peek t 4 = some d) (h1 : dSl d none (some 1) = some z) (h2 : dEq z (.lst [.int 0]) = some (.bl b)) : zTest t = some (b, t) := by
  have k1 : (1 : Nat) ≤ sizeLine := by decide
  generalize hE : dEq = EQ at h2
  generalize hS : dSl = SL at h1
  unfold zTest eSlN
  rw [hE, hS]
  simp only [tBl, e2, oNo, oSo, eC, eA, aCons, aNil, oLst, hp, h1, h2, k1, List.length_cons, List.length_nil, List.map_cons, List.map_nil, List.cons_append, List.nil_append, List.replicate_succ, List.replicate_zero, List.getElem?_cons_zero, List.getElem?_cons_succ, List.set_cons_succ, List.set_cons_zero, Nat.reduceAdd, Nat.reduceSub, Nat.sub_self, if_true]
theorem z_body {d z : DV} {d0 d1 d2 d3 d4 : Option SV} {sp : Spl} (hp : FD.peek ⟨[d0, d1, d2, d3, d4], sp⟩ 4 = some d) (h1 : dSl d (some 1) none = some z) : zBody ⟨[d0, d1, d2, d3, d4], sp⟩ = some (.nx ⟨[d0, d1, d2, d3, some (.dat z)], sp⟩) := by
  generalize hS : dSl = SL at h1
  unfold zBody eSlN
  rw [hS]
  simp only [sAsg, oNo, oSo, eC, hp, h1, gNm, List.length_cons, List.length_nil, List.map_cons, List.map_nil, List.cons_append, List.nil_append, List.replicate_succ, List.replicate_zero, List.getElem?_cons_zero, List.getElem?_cons_succ, List.set_cons_succ, List.set_cons_zero, Nat.reduceAdd, Nat.reduceSub, Nat.sub_self, if_true]
theorem z_loop (d0 d1 d2 d3 : Option SV) (sp : Spl) : ∀ (l : List Int) (m : Nat) (d4 : Option SV), l.length ≤ m → (d4 = some (.own (l.map DV.int)) ∨ d4 = some (.dat (.lst (l.map DV.int)))) →
    ∃ y4, whN m zTest zBody ⟨[d0, d1, d2, d3, d4], sp⟩ = some (.nx ⟨[d0, d1, d2, d3, y4], sp⟩) ∧ (y4 = some (.own ((dz l).map DV.int)) ∨ y4 = some (.dat (.lst ((dz l).map DV.int)))) := by
  intro l
  induction l with
  | nil =>
    intro m d4 _ h
    have hp : FD.peek ⟨[d0, d1, d2, d3, d4], sp⟩ 4 = some (.lst (([] : List Int).map DV.int)) := by rcases h with h | h <;> subst h <;> rfl
    exact ⟨d4, whN_end (z_test (IX := dSl) hp (cut_one []) (eq_zero_one [])), h⟩
  | cons a l ih =>
    intro m d4 hm h
    have hp : FD.peek ⟨[d0, d1, d2, d3, d4], sp⟩ 4 = some (.lst ((a :: l).map DV.int)) := by rcases h with h | h <;> subst h <;> rfl
    have t := z_test (IX := dSl) hp (cut_one (a :: l)) (eq_zero_one (a :: l))
    by_cases z : a = 0
    · have z' : (a == 0) = true := beq_t z
      rw [List.length_cons] at hm
      obtain ⟨m, rfl⟩ : ∃ k, m = k + 1 := ⟨m - 1, by omega⟩
      obtain ⟨y4, r, hy⟩ := ih m (some (.dat (.lst (l.map DV.int)))) (by omega) (.inr rfl)
      have ed : dz (a :: l) = dz l := by rw [z]; rfl
      rw [ed]
      have t' : zTest ⟨[d0, d1, d2, d3, d4], sp⟩ = some (true, ⟨[d0, d1, d2, d3, d4], sp⟩) := by rw [t]; show some ((a == 0), _) = _; rw [z']
      exact ⟨y4, (whN_go t' (z_body hp (cut_rest a l))).trans r, hy⟩
    · have z' : (a == 0) = false := beq_f z
      have ed : dz (a :: l) = a :: l := by
        unfold dz
        rw [List.dropWhile_cons_of_neg (by simpa using z)]
      rw [ed]
      have t' : zTest ⟨[d0, d1, d2, d3, d4], sp⟩ = some (false, ⟨[d0, d1, d2, d3, d4], sp⟩) := by rw [t]; show some ((a == 0), _) = _; rw [z']
      exact ⟨d4, whN_end t', h⟩
def b_law_greedy : SF :=
  sSeq (sAsg (eL (lCp (iVal (eA (aCons (eV 0) (aNil)) m_law_word_sizes)) 2 (tY) (eV 2))) (gNm 3))
  (sSeq (sOwn 4 (lDs (aNil)))
  (sSeq (sFr (iVal (e1 (eV 3) dRev)) (gNm 2) (sSeq (sApp 4 (e2 (eV 1) (eV 2) dFdiv))
  (sAsg (e2 (eV 1) (eV 2) dMod) (gNm 1))))
  (sSeq (sWh (fun _ => 400) (tBl (e2 (eSlN 4 (oNo) (oSo (eC (.int 1)))) (eA (aCons (eC (.int 0)) (aNil)) oLst) dEq)) (sAsg (eSlN 4 (oSo (eC (.int 1))) (oNo)) (gNm 4)))
  (sRt (e1 (e1 (eV 4) dRev) dTupOf)))))
def m_law_greedy : List DV → Option DV := bodyP 2 5 b_law_greedy
theorem t_law_greedy : ∀ ds d, m_law_greedy ds = some d → bodyP 2 5 b_law_greedy ds = some d := fun _ _ h => h
theorem iW {M : List DV → Option DV} {d0 : DV} {ds : List DV} {l : List (Option SV)} {sp : Spl} (c : M [d0] = some (.lst ds)) : iVal (eA (aCons (eV 0) (aNil)) M) ⟨some (.dat d0) :: l, sp⟩ = some (ds, ⟨some (.dat d0) :: l, sp⟩) := by
  simp only [iVal, eA, aCons, aNil, eV, c, List.getElem?_cons_zero]
theorem lCp_of {it : LF} {i : Nat} {t : TF} {f : EF} {s s1 s2 : S} {ds es : List DV} (h1 : it s = some (ds, s1)) (h2 : cpN ds i t f { s1 with sl := s1.sl.set i none } [] = some (es, s2)) : eL (lCp it i t f) s = some (.lst es, s2) := by
  unfold eL lCp
  rw [h1]
  dsimp only
  rw [h2]
theorem asg_of {f : EF} {g : GF} {s s1 s2 : S} {d : DV} (h1 : f s = some (d, s1)) (h2 : g d s1 = some s2) : sAsg f g s = some (.nx s2) := by
  unfold sAsg
  rw [h1]
  dsimp only
  rw [h2]
theorem greedy_ok {cs : List Int} {n : Int} (h : SmQ cs) (hl : cs.length ≤ 300) (hs : ∀ s ∈ 1 :: szS cs 1 1, 0 < s ∧ s.natAbs < 2 ^ 8999) : m_law_greedy [.lst (cs.map DV.int), .int n] = some (.tup (((dz (gr (1 :: szS cs 1 1).reverse n)).map DV.int).reverse)) := by
  have c1 := word_sizes_ok h (by omega)
  have zl : (1 :: szS cs 1 1).length ≤ 301 := by rw [List.length_cons, szS_len]; omega
  generalize 1 :: szS cs 1 1 = R at *
  generalize cs.map DV.int = L at *
  have s1 : sAsg (eL (lCp (iVal (eA (aCons (eV 0) (aNil)) m_law_word_sizes)) 2 (tY) (eV 2))) (gNm 3) ⟨[some (.dat (.lst L)), some (.dat (.int n)), none, none, none], spl0⟩ = some (.nx ⟨[some (.dat (.lst L)), some (.dat (.int n)), none, some (.dat (.lst (R.map DV.int))), none], spl0⟩) :=
    asg_of (lCp_of (iW c1) (copy_ok (some (.dat (.lst L))) (some (.dat (.int n))) none none spl0 (R.map DV.int) [] (by rw [List.length_nil, List.length_map]; omega))) rfl
  have s2 := own0_ok (i := 4) ⟨[some (.dat (.lst L)), some (.dat (.int n)), none, some (.dat (.lst (R.map DV.int))), none], spl0⟩
  obtain ⟨y1, y2, lp⟩ := g_loop (some (.dat (.lst L))) (some (.dat (.lst (R.map DV.int)))) spl0 R.reverse [] n none (fun s hsm => hs s (List.mem_reverse.mp hsm)) (by rw [List.length_nil, List.length_reverse]; omega)
  rw [List.nil_append] at lp
  have i3 : iVal (e1 (eV 3) dRev) ⟨[some (.dat (.lst L)), some (.dat (.int n)), none, some (.dat (.lst (R.map DV.int))), some (.own [])], spl0⟩ = some (R.reverse.map DV.int, ⟨[some (.dat (.lst L)), some (.dat (.int n)), none, some (.dat (.lst (R.map DV.int))), some (.own [])], spl0⟩) := by
    rw [List.map_reverse]
    rfl
  have s3 := (sFr_of (g := gNm 2) (B := gBody) i3).trans lp
  have gl : (gr R.reverse n).length = R.length := by
    have k : ∀ (ss : List Int) (r : Int), (gr ss r).length = ss.length := by
      intro ss
      induction ss with
      | nil => intro r; rfl
      | cons s ss ih => intro r; exact congrArg Nat.succ (ih _)
    rw [k, List.length_reverse]
  obtain ⟨y4, wl, hy⟩ := z_loop (some (.dat (.lst L))) y1 y2 (some (.dat (.lst (R.map DV.int)))) spl0 (gr R.reverse n) 400 _ (by omega) (.inl rfl)
  have s4 : sWh (fun _ => 400) zTest zBody ⟨[some (.dat (.lst L)), y1, y2, some (.dat (.lst (R.map DV.int))), some (.own ((gr R.reverse n).map DV.int))], spl0⟩ = _ := sWh_of (m := 400) rfl wl
  have eb : b_law_greedy = sSeq (sAsg (eL (lCp (iVal (eA (aCons (eV 0) (aNil)) m_law_word_sizes)) 2 (tY) (eV 2))) (gNm 3)) (sSeq (sOwn 4 (lDs (aNil))) (sSeq (sFr (iVal (e1 (eV 3) dRev)) (gNm 2) gBody) (sSeq (sWh (fun _ => 400) zTest zBody) (sRt (e1 (e1 (eV 4) dRev) dTupOf))))) := rfl
  unfold m_law_greedy
  rw [eb]
  generalize (dz (gr R.reverse n)).map DV.int = DD at *
  refine bodyP_of (ds := [.lst L, .int n]) rfl (t := ⟨[some (.dat (.lst L)), y1, y2, some (.dat (.lst (R.map DV.int))), some (.dat (.lst DD))], spl0⟩) ?_
  refine (seq_nx s1).trans ((seq_nx s2).trans ((seq_nx s3).trans ((seq_nx s4).trans ?_)))
  rcases hy with hy | hy <;> subst hy <;> rfl
end T4

set_option maxRecDepth 100000
set_option maxHeartbeats 4000000
namespace T4
/-! ## words: the order, the map of the standard words, the greedy digits -/
def wk (F : Nat → Int) : Nat → Nat → Nat → List Nat
  | 0, _, _ => []
  | n + 1, i, j => if F (j + 1) ≤ (i : Int) then 98 :: wk F n i (j + 1) else 97 :: wk F n (i + 1) j
def rp (c : Nat) (l : List Nat) : List Nat := (List.replicate c l).flatten
def swS : List Int → List Nat → List Nat → List (List Nat)
  | [], _, l => [l]
  | c :: cs, b, l => l :: swS cs l (rp c.toNat l ++ b)
def ph (c : Nat) : List Nat → List Nat
  | [] => []
  | d :: l => (if d = 97 then List.replicate c 97 ++ [98] else [97]) ++ ph c l
theorem ph_append (c : Nat) : ∀ l m : List Nat, ph c (l ++ m) = ph c l ++ ph c m
  | [], m => rfl
  | d :: l, m => by
    show _ ++ ph c (l ++ m) = (_ ++ ph c l) ++ ph c m
    rw [ph_append c l m, List.append_assoc]
theorem rp_succ (k : Nat) (l : List Nat) : rp (k + 1) l = l ++ rp k l := by
  unfold rp
  rw [List.replicate_succ, List.flatten_cons]
theorem ph_rp (c k : Nat) (l : List Nat) : ph c (rp k l) = rp k (ph c l) := by
  induction k with
  | zero => rfl
  | succ k ih => rw [rp_succ, rp_succ, ph_append, ih]
theorem sw_ph (c : Nat) : ∀ (cs : List Int) (b l : List Nat), swS cs (ph c b) (ph c l) = (swS cs b l).map (ph c)
  | [], b, l => rfl
  | d :: cs, b, l => by
    show ph c l :: swS cs (ph c l) (rp d.toNat (ph c l) ++ ph c b) = ph c l :: (swS cs l (rp d.toNat l ++ b)).map (ph c)
    rw [← sw_ph c cs, ph_append, ph_rp]
theorem rp_one (c : Nat) : rp c [97] = List.replicate c 97 := by
  induction c with
  | zero => rfl
  | succ c ih => rw [rp_succ, ih]; rfl
theorem sw_cons (c : Int) (cs : List Int) : swS (c :: cs) [98] [97] = [97] :: (swS cs [98] [97]).map (ph c.toNat) := by
  show [97] :: swS cs [97] (rp c.toNat [97] ++ [98]) = _
  rw [← sw_ph, rp_one]
  show _ = [97] :: swS cs [97] ((List.replicate c.toNat 97 ++ [98]) ++ [])
  rw [List.append_nil]
theorem wk_len (F : Nat → Int) : ∀ n i j, (wk F n i j).length = n
  | 0, _, _ => rfl
  | n + 1, i, j => by
    unfold wk
    split
    · exact congrArg Nat.succ (wk_len F n _ _)
    · exact congrArg Nat.succ (wk_len F n _ _)
theorem wk_take (F : Nat → Int) : ∀ (n m i j : Nat), n ≤ m → (wk F m i j).take n = wk F n i j
  | 0, m, i, j, _ => by rw [List.take_zero]; rfl
  | n + 1, 0, i, j, h => by omega
  | n + 1, m + 1, i, j, h => by
    unfold wk
    split
    · rw [List.take_succ_cons, wk_take F n m _ _ (by omega)]
    · rw [List.take_succ_cons, wk_take F n m _ _ (by omega)]
structure Lk (c : Int) (F F' : Nat → Int) : Prop where
  c0 : 0 ≤ c
  one : F 1 = c
  lk : ∀ i j : Nat, F' (j + 1) ≤ (i : Int) ↔ (j : Int) + 1 ≤ F (i + 1) - c * ((i : Int) + 1)
  mono : ∀ i : Nat, F i - c * (i : Int) ≤ F (i + 1) - c * ((i : Int) + 1)
theorem wk_run (F : Nat → Int) (b N : Nat) : ∀ (t a : Nat), F (b + 1) = (a : Int) + t → wk F (t + 1 + N) a b = List.replicate t 97 ++ 98 :: wk F N (a + t) (b + 1)
  | 0, a, h => by
    have e1 : 0 + 1 + N = N + 1 := by omega
    rw [e1]
    show (if F (b + 1) ≤ (a : Int) then _ else _) = _
    rw [if_pos (by omega)]
    rfl
  | t + 1, a, h => by
    have e1 : t + 1 + 1 + N = (t + 1 + N) + 1 := by omega
    rw [e1]
    show (if F (b + 1) ≤ (a : Int) then _ else _) = _
    rw [if_neg (by omega), wk_run F b N t (a + 1) (by omega), List.replicate_succ]
    have e2 : a + 1 + t = a + (t + 1) := by omega
    rw [e2]
    rfl
theorem ph_walk {c : Nat} {F F' : Nat → Int} (h : Lk (c : Int) F F') : ∀ (m i j : Nat), (j : Int) ≤ F (i + 1) - c * ((i : Int) + 1) → ∃ N, wk F N (c * i + j) i = ph c (wk F' m i j)
  | 0, i, j, _ => ⟨0, rfl⟩
  | m + 1, i, j, hj => by
    have k := h.lk i j
    by_cases w : F' (j + 1) ≤ (i : Int)
    · have w2 := k.mp w
      obtain ⟨N, e⟩ := ph_walk h m i (j + 1) (by omega)
      refine ⟨N + 1, ?_⟩
      have p1 : (c : Int) * ((i : Int) + 1) = c * i + c := by rw [Int.mul_add, Int.mul_one]
      have e1 : wk F' (m + 1) i j = 98 :: wk F' m i (j + 1) := by
        show (if F' (j + 1) ≤ (i : Int) then _ else _) = _
        rw [if_pos w]
      have e2 : wk F (N + 1) (c * i + j) i = 97 :: wk F N (c * i + j + 1) i := by
        show (if F (i + 1) ≤ ((c * i + j : Nat) : Int) then _ else _) = _
        rw [if_neg]
        rw [Int.natCast_add, Int.natCast_mul]
        omega
      rw [e1, e2]
      show _ = [97] ++ ph c _
      rw [← e]
      rfl
    · have w2 : ¬ _ := fun z => w (k.mpr z)
      obtain ⟨N, e⟩ := ph_walk h m (i + 1) j (by
        have := h.mono (i + 1)
        rw [Int.natCast_add] at this ⊢
        have e5 : ((1 : Nat) : Int) = 1 := rfl
        rw [e5] at this ⊢
        omega)
      refine ⟨c + 1 + N, ?_⟩
      have e1 : wk F' (m + 1) i j = 97 :: wk F' m (i + 1) j := by
        show (if F' (j + 1) ≤ (i : Int) then _ else _) = _
        rw [if_neg w]
      have p1 : (c : Int) * ((i : Int) + 1) = c * i + c := by rw [Int.mul_add, Int.mul_one]
      rw [e1, wk_run F i N c (c * i + j) (by rw [Int.natCast_add, Int.natCast_mul]; omega)]
      show _ = (List.replicate c 97 ++ [98]) ++ ph c _
      rw [← e]
      have e3 : c * i + j + c = c * (i + 1) + j := by rw [Nat.mul_add, Nat.mul_one]; omega
      rw [e3, List.append_assoc]
      rfl
/-- a beginning of the order -/
def Beg (F : Nat → Int) (L : List Nat) : Prop := wk F L.length 0 0 = L
theorem Beg.ph {c : Nat} {F F' : Nat → Int} (h : Lk (c : Int) F F') {L : List Nat} (b : Beg F' L) (hp : 0 ≤ F 1 - c) : Beg F (ph c L) := by
  obtain ⟨N, e⟩ := ph_walk h L.length 0 0 (by
    show ((0 : Nat) : Int) ≤ F (0 + 1) - c * ((0 : Int) + 1)
    rw [Int.zero_add, Int.mul_one]
    exact hp)
  unfold Beg at b ⊢
  rw [b] at e
  have e2 : wk F N 0 0 = T4.ph c L := e
  have := congrArg List.length e2
  rw [wk_len] at this
  rw [← this]
  exact e2
def Ch : List Int → (Nat → Int) → Prop
  | [], _ => True
  | c :: cs, F => ∃ F', Lk c F F' ∧ Ch cs F'
theorem ch_beg : ∀ (cs : List Int) (F : Nat → Int), Ch cs F → ∀ w ∈ (swS cs [98] [97]).tail, Beg F w
  | [], F, _, w, hw => by cases hw
  | c :: cs, F, ⟨F', lk, ch⟩, w, hw => by
    have cc : ((c.toNat : Nat) : Int) = c := Int.toNat_of_nonneg lk.c0
    have lk' : Lk (c.toNat : Int) F F' := by rw [cc]; exact lk
    rw [sw_cons] at hw
    obtain ⟨v, hv, rfl⟩ := List.mem_map.mp hw
    have b0 : Beg F (T4.ph c.toNat [97]) := by
      have e1 : T4.ph c.toNat [97] = List.replicate c.toNat 97 ++ [98] := by
        show (List.replicate c.toNat 97 ++ [98]) ++ [] = _
        rw [List.append_nil]
      rw [e1]
      unfold Beg
      rw [List.length_append, List.length_replicate]
      have := wk_run F 0 0 c.toNat 0 (by
        show F 1 = ((0 : Nat) : Int) + (c.toNat : Int)
        rw [lk.one, cc]
        omega)
      exact this
    have hd : ∃ tl, swS cs [98] [97] = [97] :: tl := by cases cs with
      | nil => exact ⟨[], rfl⟩
      | cons c cs => exact ⟨_, rfl⟩
    obtain ⟨tl, ht⟩ := hd
    have ih := ch_beg cs F' ch
    rw [ht] at hv ih
    rcases List.mem_cons.mp hv with rfl | hv
    · exact b0
    · exact Beg.ph lk' (ih v hv) (by have := lk'.one; omega)
end T4

set_option maxRecDepth 100000
set_option maxHeartbeats 4000000
namespace T4
def fl : List (List Nat) → List Int → List Nat
  | w :: ws, d :: ds => rp d.toNat w ++ fl ws ds
  | _, _ => []
def lens (ws : List (List Nat)) : List Int := ws.map fun w => (w.length : Int)
inductive St : List (List Nat) → Prop
  | base : St [[97]]
  | step {w v u : List Nat} {vs : List (List Nat)} (c : Nat) : w = rp c v ++ u → u.length ≤ v.length → (∀ t, t < u.length → u.take t = v.take t) → 0 < v.length → St (v :: vs) → St (w :: v :: vs)
theorem tk_add : ∀ (v X : List Nat) (i : Nat), (v ++ X).take (v.length + i) = v ++ X.take i
  | [], X, i => by
    show X.take (0 + i) = X.take i
    rw [Nat.zero_add]
  | a :: v, X, i => by
    have e1 : (a :: v).length + i = (v.length + i) + 1 := by rw [List.length_cons]; omega
    rw [e1, List.cons_append, List.take_succ_cons, tk_add v X i]
    rfl
theorem rp_len (c : Nat) (v : List Nat) : (rp c v).length = c * v.length := by
  induction c with
  | zero => rw [Nat.zero_mul]; rfl
  | succ c ih => rw [rp_succ, List.length_append, ih, Nat.add_mul, Nat.one_mul, Nat.add_comm]
theorem take_rp (v u : List Nat) (t : Nat) (ht : t ≤ v.length) : ∀ (e c : Nat), e < c → (rp c v ++ u).take (e * v.length + t) = rp e v ++ v.take t
  | 0, c + 1, _ => by
    rw [rp_succ, Nat.zero_mul, Nat.zero_add, List.append_assoc, List.take_append_of_le_length ht]
    rfl
  | e + 1, c + 1, h => by
    have e1 : (e + 1) * v.length + t = v.length + (e * v.length + t) := by rw [Nat.add_mul, Nat.one_mul]; omega
    rw [rp_succ, rp_succ, e1, List.append_assoc, tk_add, take_rp v u t ht e c (by omega), List.append_assoc]
  | 0, 0, h => by omega
  | e + 1, 0, h => by omega
theorem gw_take : ∀ (ws : List (List Nat)) (w : List Nat) (n : Nat), St (w :: ws) → n < w.length → fl ws (gr (lens ws) (n : Int)) = w.take n
  | [], w, n, h, hn => by
    cases h
    have : n = 0 := by
      have : n < 1 := hn
      omega
    subst this
    rfl
  | v :: vs, w, n, h, hn => by
    cases h with
    | @step _ _ u _ c hw hu ht hv hs =>
    have ih := gw_take vs v (n % v.length) hs (Nat.mod_lt _ hv)
    have e0 : fl (v :: vs) (gr (lens (v :: vs)) (n : Int)) = rp (n / v.length) v ++ fl vs (gr (lens vs) ((n % v.length : Nat) : Int)) := rfl
    rw [e0, ih, hw]
    have dm : v.length * (n / v.length) + n % v.length = n := Nat.div_add_mod n v.length
    have e1 : n = (n / v.length) * v.length + n % v.length := by rw [Nat.mul_comm]; exact dm.symm
    have ml : n % v.length < v.length := Nat.mod_lt _ hv
    rw [hw, List.length_append, rp_len] at hn
    by_cases z : n / v.length < c
    · have := take_rp v u (n % v.length) (Nat.le_of_lt ml) (n / v.length) c z
      rw [← e1] at this
      exact this.symm
    · have z2 : n / v.length < c + 1 := Nat.div_lt_of_lt_mul (by rw [Nat.mul_add, Nat.mul_one, Nat.mul_comm]; omega)
      have z3 : n / v.length = c := by omega
      rw [z3] at e1 dm ⊢
      generalize n % v.length = t at *
      have ht2 : t < u.length := by omega
      rw [← ht t ht2]
      have := tk_add (rp c v) u t
      rw [rp_len] at this
      rw [e1]
      exact this.symm
theorem rp_pre {c : Nat} (hc : 1 ≤ c) (l b : List Nat) : ∃ X, rp c l ++ b = l ++ X := by
  obtain ⟨k, rfl⟩ : ∃ k, c = k + 1 := ⟨c - 1, by omega⟩
  exact ⟨rp k l ++ b, by rw [rp_succ, List.append_assoc]⟩
theorem st_sw : ∀ (cs : List Int) (b l : List Nat) (vs : List (List Nat)), (∀ c ∈ cs, 1 ≤ c) → St (l :: vs) → b.length ≤ l.length → (∀ t, t < b.length → b.take t = l.take t) → 0 < l.length →
    ∀ k, k ≤ cs.length → St (((swS cs b l).take (k + 1)).reverse ++ vs)
  | cs, b, l, vs, _, h, _, _, _, 0, _ => by
    have e1 : ∃ tl, swS cs b l = l :: tl := by cases cs with
      | nil => exact ⟨[], rfl⟩
      | cons c cs => exact ⟨_, rfl⟩
    obtain ⟨tl, e1⟩ := e1
    rw [e1]
    exact h
  | [], b, l, vs, _, h, _, _, _, k + 1, hk => by
    rw [List.length_nil] at hk
    omega
  | c :: cs, b, l, vs, hc, h, hb, ht, hl, k + 1, hk => by
    have c1 := hc c List.mem_cons_self
    obtain ⟨X, hX⟩ := rp_pre (c := c.toNat) (by omega) l b
    have s2 : St ((rp c.toNat l ++ b) :: l :: vs) := St.step c.toNat rfl hb ht hl h
    have := st_sw cs l (rp c.toNat l ++ b) (l :: vs) (fun d hd => hc d (List.mem_cons_of_mem _ hd)) s2 (by rw [hX, List.length_append]; omega) (fun t h2 => by rw [hX, List.take_append_of_le_length (Nat.le_of_lt h2)]) (by rw [hX, List.length_append]; omega) k (by rw [List.length_cons] at hk; omega)
    show St ((l :: (swS cs l (rp c.toNat l ++ b)).take (k + 1)).reverse ++ vs)
    rw [List.reverse_cons, List.append_assoc]
    exact this
theorem st_all (c : Int) (cs : List Int) (hc : ∀ d ∈ cs, 1 ≤ d) (k : Nat) (hk : k ≤ cs.length) : St (((swS (c :: cs) [98] [97]).take (k + 2)).reverse) := by
  have s2 : St ((rp c.toNat [97] ++ [98]) :: [97] :: []) := St.step c.toNat rfl (Nat.le_refl _) (fun t ht => by
    have : t = 0 := by
      have : t < 1 := ht
      omega
    subst this
    rfl) (by decide) St.base
  have := st_sw cs [97] (rp c.toNat [97] ++ [98]) [[97]] hc s2 (by rw [List.length_append]; show 1 ≤ _ + 1; omega) (fun t ht => by
    have : t = 0 := by
      have : t < 1 := ht
      omega
    subst this
    rfl) (by rw [List.length_append]; show 0 < _ + 1; omega) k hk
  show St (([97] :: (swS cs [97] (rp c.toNat [97] ++ [98])).take (k + 1)).reverse)
  rw [List.reverse_cons]
  exact this
/-! ## put together from the lowest level on -/
def ta : List (List Nat) → List Int → List Nat
  | w :: ws, d :: ds => ta ws ds ++ rp d.toNat w
  | _, _ => []
theorem fl_snoc : ∀ (A : List (List Nat)) (B : List Int) (w : List Nat) (d : Int), A.length = B.length → fl (A ++ [w]) (B ++ [d]) = fl A B ++ rp d.toNat w
  | [], [], w, d, _ => by
    show rp d.toNat w ++ [] = [] ++ rp d.toNat w
    rw [List.append_nil, List.nil_append]
  | a :: A, b :: B, w, d, h => by
    show rp b.toNat a ++ fl (A ++ [w]) (B ++ [d]) = (rp b.toNat a ++ fl A B) ++ _
    rw [fl_snoc A B w d (by simpa using h), List.append_assoc]
  | [], b :: B, w, d, h => by simp at h
  | a :: A, [], w, d, h => by simp at h
theorem ta_fl : ∀ (ws : List (List Nat)) (ds : List Int), ws.length = ds.length → ta ws ds = fl ws.reverse ds.reverse
  | [], [], _ => rfl
  | w :: ws, d :: ds, h => by
    rw [List.reverse_cons, List.reverse_cons, fl_snoc _ _ _ _ (by rw [List.length_reverse, List.length_reverse]; simpa using h), ← ta_fl ws ds (by simpa using h)]
    rfl
  | [], d :: ds, h => by simp at h
  | w :: ws, [], h => by simp at h
theorem ta_zeros : ∀ (ws : List (List Nat)) (m : Nat), ta ws (List.replicate m 0) = []
  | [], m => rfl
  | w :: ws, 0 => rfl
  | w :: ws, m + 1 => by
    show ta ws (List.replicate m 0) ++ rp 0 w = []
    rw [ta_zeros ws m]
    rfl
theorem ta_pad : ∀ (ws : List (List Nat)) (ds : List Int) (m : Nat), ta ws (ds ++ List.replicate m 0) = ta ws ds
  | [], ds, m => rfl
  | w :: ws, [], m => ta_zeros _ m
  | w :: ws, d :: ds, m => by
    show ta ws (ds ++ List.replicate m 0) ++ _ = _
    rw [ta_pad ws ds m]
    rfl
theorem dz_pad : ∀ l : List Int, ∃ m, l.reverse = (dz l).reverse ++ List.replicate m 0
  | [] => ⟨0, rfl⟩
  | d :: l => by
    by_cases z : d = 0
    · subst z
      obtain ⟨m, e⟩ := dz_pad l
      refine ⟨m + 1, ?_⟩
      show (0 :: l).reverse = (dz l).reverse ++ _
      rw [List.reverse_cons, e, List.replicate_succ', List.append_assoc]
    · refine ⟨0, ?_⟩
      have : dz (d :: l) = d :: l := by
        unfold dz
        rw [List.dropWhile_cons_of_neg (by simpa using z)]
      rw [this, List.replicate_zero, List.append_nil]
theorem dz_le : ∀ l : List Int, (dz l).length ≤ l.length
  | [] => Nat.le_refl _
  | d :: l => by
    have := dz_le l
    unfold dz at this ⊢
    rw [List.dropWhile_cons, List.length_cons]
    split
    · omega
    · rw [List.length_cons]; omega
theorem gr_len : ∀ (ss : List Int) (r : Int), (gr ss r).length = ss.length
  | [], r => rfl
  | s :: ss, r => congrArg Nat.succ (gr_len ss _)
theorem ta_take : ∀ (ws : List (List Nat)) (ds : List Int) (k : Nat), ds.length ≤ k → ta ws ds = ta (ws.take k) ds
  | [], ds, k, _ => by rw [List.take_nil]
  | w :: ws, [], k, _ => by cases k <;> rfl
  | w :: ws, d :: ds, 0, h => by simp at h
  | w :: ws, d :: ds, k + 1, h => by
    rw [List.take_succ_cons]
    show ta ws ds ++ _ = ta (ws.take k) ds ++ _
    rw [← ta_take ws ds k (by simpa using h)]
theorem words_ok {W : List (List Nat)} {K n : Nat} {w : List Nat} (hs : St (w :: (W.take K).reverse)) (hK : K ≤ W.length) (hn : n < w.length) :
    ta W ((dz (gr (lens (W.take K)).reverse (n : Int))).reverse) = w.take n := by
  have hl : (W.take K).length = K := by rw [List.length_take]; omega
  have l1 : (lens (W.take K)).reverse.length = K := by unfold lens; rw [List.length_reverse, List.length_map, hl]
  have g1 := gr_len (lens (W.take K)).reverse (n : Int)
  rw [ta_take W _ K (by rw [List.length_reverse]; have := dz_le (gr (lens (W.take K)).reverse (n : Int)); omega)]
  obtain ⟨m, e⟩ := dz_pad (gr (lens (W.take K)).reverse (n : Int))
  rw [← ta_pad _ _ m, ← e, ta_fl _ _ (by rw [List.length_reverse, g1, l1, hl]), List.reverse_reverse]
  have e2 : (lens (W.take K)).reverse = lens (W.take K).reverse := by unfold lens; rw [List.map_reverse]
  rw [e2]
  exact gw_take _ w n hs hn
theorem sw_len : ∀ (cs : List Int) (b l : List Nat), (∀ c ∈ cs, 0 ≤ c) → lens (swS cs b l) = (l.length : Int) :: szS cs b.length l.length
  | [], b, l, _ => rfl
  | c :: cs, b, l, h => by
    have c0 := h c List.mem_cons_self
    have e1 : ((rp c.toNat l ++ b).length : Int) = c * l.length + b.length := by
      rw [List.length_append, rp_len, Int.natCast_add, Int.natCast_mul, Int.toNat_of_nonneg c0]
    show (l.length : Int) :: lens (swS cs l (rp c.toNat l ++ b)) = _ :: (c * l.length + b.length) :: szS cs l.length (c * l.length + b.length)
    rw [sw_len cs l _ fun d hd => h d (List.mem_cons_of_mem _ hd), e1]
theorem szS_ge : ∀ (cs : List Int) (b l : Int), (∀ c ∈ cs, 1 ≤ c) → 0 ≤ b → 0 ≤ l → ∀ z ∈ szS cs b l, l ≤ z
  | [], b, l, _, _, _, z, hz => by cases hz
  | c :: cs, b, l, h, h1, h2, z, hz => by
    have c1 := h c List.mem_cons_self
    have p : l ≤ c * l + b := by
      have := Int.mul_le_mul_of_nonneg_right c1 h2
      omega
    rcases List.mem_cons.mp hz with rfl | w
    · exact p
    · have := szS_ge cs l (c * l + b) (fun d hd => h d (List.mem_cons_of_mem _ hd)) h2 (by omega) z w
      omega
end T4

set_option maxRecDepth 100000
set_option maxHeartbeats 4000000
namespace T4
open PySem L2 FD
/-! ## the chain of the ratios behind the quotients -/
def Fy (e : Int) (y : Num) : Nat → Int := fun j => flo ((j : Int) * y.1) ((j : Int) * y.2.1) e y.2.2.2
structure Yk (e : Int) (y : Num) : Prop where
  he : 0 < e ∧ Irr e
  can : Can e y
  q0 : y.2.1 ≠ 0
  pos : 0 < sgS y.1 y.2.1 e
def rest1 (y : Num) (c : Int) : Num := invN (addN y (0 - c, 0, 0, 1))
section
variable {e : Int} {y : Num}
theorem Yk.fl (h : Yk e y) (j : Nat) (f : Int) : Fy e y j < f ↔ sgS ((j : Int) * y.1 - f * y.2.2.2) ((j : Int) * y.2.1) e < 0 := (sg_flo h.can.1 (Int.le_of_lt h.he.1)).symm
theorem Yk.one (h : Yk e y) : Fy e y 1 = flo y.1 y.2.1 e y.2.2.2 := by
  unfold Fy
  have : ((1 : Nat) : Int) = 1 := rfl
  rw [this, Int.one_mul, Int.one_mul]
theorem Yk.c0 (h : Yk e y) : 0 ≤ Fy e y 1 := by
  refine Int.not_lt.mp fun w => ?_
  have := (h.fl 1 0).mp w
  have e1 : ((1 : Nat) : Int) = 1 := rfl
  rw [e1, Int.one_mul, Int.one_mul, Int.zero_mul, Int.sub_zero] at this
  have := h.pos
  omega
theorem Yk.zpos (h : Yk e y) : sgS (y.1 - Fy e y 1 * y.2.2.2) y.2.1 e = 1 := by
  have k := (h.fl 1 (Fy e y 1))
  have e1 : ((1 : Nat) : Int) = 1 := rfl
  rw [e1, Int.one_mul, Int.one_mul] at k
  have n1 : ¬ sgS (y.1 - Fy e y 1 * y.2.2.2) y.2.1 e < 0 := fun w => by have := k.mpr w; omega
  have n2 : ¬ sgS (y.1 - Fy e y 1 * y.2.2.2) y.2.1 e = 0 := fun w => h.q0 (sg_0 ⟨Int.le_of_lt h.he.1, .inr h.he⟩ w).2
  rcases sg_tri (y.1 - Fy e y 1 * y.2.2.2) y.2.1 e with w | w | w <;> omega
theorem Yk.zrep (h : Yk e y) (c : Int) : Rep e (addN y (0 - c, 0, 0, 1)) (y.1 - c * y.2.2.2) y.2.1 y.2.2.2 := by
  have := rep_add h.he.1 (rep_self h.can) (rep_self (can_int e (0 - c)))
  dsimp only at this
  have e1 : y.1 * 1 + (0 - c) * y.2.2.2 = y.1 - c * y.2.2.2 := by grind
  have e2 : y.2.1 * 1 + 0 * y.2.2.2 = y.2.1 := by grind
  have e3 : y.2.2.2 * 1 = y.2.2.2 := by grind
  rw [e1, e2, e3] at this
  exact this
/-- a, b, t of the rest: (a + b root e) (p - c s + q root e) = s t -/
theorem Yk.rest (h : Yk e y) : ∃ a b t : Int, (rest1 y (Fy e y 1)).1 = a ∧ (rest1 y (Fy e y 1)).2.1 = b ∧ (rest1 y (Fy e y 1)).2.2.2 = t ∧ 0 < t ∧ Can e (rest1 y (Fy e y 1)) ∧
    a * (y.1 - Fy e y 1 * y.2.2.2) + b * y.2.1 * e = y.2.2.2 * t ∧ a * y.2.1 + b * (y.1 - Fy e y 1 * y.2.2.2) = 0 ∧ b ≠ 0 := by
  have zr := h.zrep (Fy e y 1)
  have zp := h.zpos
  have nn : (y.1 - Fy e y 1 * y.2.2.2) * (y.1 - Fy e y 1 * y.2.2.2) - y.2.1 * y.2.1 * e ≠ 0 := norm_ne (y := (y.1 - Fy e y 1 * y.2.2.2, y.2.1, e, y.2.2.2)) h.he zp
  have ri := rep_inv' zr nn
  have q0 := h.q0
  have s0 := h.can.1
  unfold rest1
  generalize invN (addN y (0 - Fy e y 1, 0, 0, 1)) = r at *
  obtain ⟨cr, _, r1, r2⟩ := ri
  have t0 := cr.1
  refine ⟨r.1, r.2.1, r.2.2.2, rfl, rfl, rfl, t0, cr, ?_, ?_, ?_⟩
  · generalize y.1 - Fy e y 1 * y.2.2.2 = Z at *
    have : (r.1 * Z + r.2.1 * y.2.1 * e) * (Z * Z - y.2.1 * y.2.1 * e) = (y.2.2.2 * r.2.2.2) * (Z * Z - y.2.1 * y.2.1 * e) := by grind
    exact Int.eq_of_mul_eq_mul_right nn this
  · generalize y.1 - Fy e y 1 * y.2.2.2 = Z at *
    have : (r.1 * y.2.1 + r.2.1 * Z) * (Z * Z - y.2.1 * y.2.1 * e) = 0 * (Z * Z - y.2.1 * y.2.1 * e) := by grind
    exact Int.eq_of_mul_eq_mul_right nn this
  · intro w
    rw [w, Int.zero_mul] at r2
    have := r2.symm
    rcases Int.mul_eq_zero.mp this with u | u
    · rcases Int.mul_eq_zero.mp u with v | v
      · omega
      · omega
    · omega
theorem Yk.next (h : Yk e y) : Yk e (rest1 y (Fy e y 1)) := by
  obtain ⟨a, b, t, e1, e2, e3, t0, cr, k1, k2, b0⟩ := h.rest
  refine ⟨h.he, cr, by rw [e2]; exact b0, ?_⟩
  rw [e1, e2]
  have m := sg_mul (P := a) (Q := b) (P' := y.1 - Fy e y 1 * y.2.2.2) (Q' := y.2.1) h.he
  rw [h.zpos, Int.mul_one, k1, k2, sg_rat] at m
  rw [← m]
  have : 0 < y.2.2.2 * t := Int.mul_pos h.can.1 t0
  unfold isg
  split <;> (try split) <;> omega
theorem Yk.lk (h : Yk e y) : Lk (Fy e y 1) (Fy e y) (Fy e (rest1 y (Fy e y 1))) where
  c0 := h.c0
  one := rfl
  lk := fun i j => by
    obtain ⟨a, b, t, e1, e2, e3, t0, cr, k1, k2, b0⟩ := h.rest
    have f1 := h.next.fl (j + 1) ((i : Int) + 1)
    have f2 := h.fl (i + 1) ((j : Int) + 1 + Fy e y 1 * ((i : Int) + 1))
    rw [e1, e2, e3] at f1
    have m := sg_mul (P := ((j : Int) + 1) * a - ((i : Int) + 1) * t) (Q := ((j : Int) + 1) * b) (P' := y.1 - Fy e y 1 * y.2.2.2) (Q' := y.2.1) h.he
    rw [h.zpos, Int.mul_one] at m
    have c1 : (((j + 1 : Nat) : Int)) = (j : Int) + 1 := rfl
    have c2 : (((i + 1 : Nat) : Int)) = (i : Int) + 1 := rfl
    rw [c1] at f1
    rw [c2] at f2
    generalize hZ : y.1 - Fy e y 1 * y.2.2.2 = Z at *
    have p1 : (((j : Int) + 1) * a - ((i : Int) + 1) * t) * Z + ((j : Int) + 1) * b * y.2.1 * e = -((((i : Int) + 1) * Z - ((j : Int) + 1) * y.2.2.2) * t) := by grind
    have p2 : (((j : Int) + 1) * a - ((i : Int) + 1) * t) * y.2.1 + ((j : Int) + 1) * b * Z = -((((i : Int) + 1) * y.2.1) * t) := by grind
    rw [p1, p2, sg_negs, sg_scale (P := (((i : Int) + 1) * Z - ((j : Int) + 1) * y.2.2.2) * t) (Q := (((i : Int) + 1) * y.2.1) * t) (P' := ((i : Int) + 1) * Z - ((j : Int) + 1) * y.2.2.2) (Q' := ((i : Int) + 1) * y.2.1) (k := 1) (m := t) (by decide) t0 (by rw [Int.mul_one]) (by rw [Int.mul_one])] at m
    have p3 : ((i : Int) + 1) * y.1 - ((j : Int) + 1 + Fy e y 1 * ((i : Int) + 1)) * y.2.2.2 = ((i : Int) + 1) * Z - ((j : Int) + 1) * y.2.2.2 := by rw [← hZ]; grind
    rw [p3] at f2
    have nz : ¬ sgS (((i : Int) + 1) * Z - ((j : Int) + 1) * y.2.2.2) (((i : Int) + 1) * y.2.1) e = 0 := fun w => by
      have := (sg_0 ⟨Int.le_of_lt h.he.1, .inr h.he⟩ w).2
      rcases Int.mul_eq_zero.mp this with u | u
      · omega
      · exact h.q0 u
    generalize sgS (((i : Int) + 1) * Z - ((j : Int) + 1) * y.2.2.2) (((i : Int) + 1) * y.2.1) e = G1 at *
    generalize sgS (((j : Int) + 1) * a - ((i : Int) + 1) * t) (((j : Int) + 1) * b) e = G2 at *
    constructor
    · intro w
      have := f1.mp (by omega)
      have n2 : ¬ _ := fun w => by have := f2.mp w; omega
      omega
    · intro w
      have n2 : ¬ G1 < 0 := fun w => by have := f2.mpr w; omega
      have := f1.mpr (by omega)
      omega
  mono := fun i => by
    have f2 := h.fl (i + 1) (Fy e y i + Fy e y 1)
    have f1 := h.fl i (Fy e y i)
    have c2 : (((i + 1 : Nat) : Int)) = (i : Int) + 1 := rfl
    rw [c2] at f2
    have a1 : 0 ≤ sgS ((i : Int) * y.1 - Fy e y i * y.2.2.2) ((i : Int) * y.2.1) e := Int.not_lt.mp fun w => by have := f1.mpr w; omega
    have a2 := sg_add (P := (i : Int) * y.1 - Fy e y i * y.2.2.2) (Q := (i : Int) * y.2.1) (P' := y.1 - Fy e y 1 * y.2.2.2) (Q' := y.2.1) (d := e) ⟨Int.le_of_lt h.he.1, .inr h.he⟩ ⟨Int.le_of_lt h.he.1, .inr h.he⟩ a1 (by rw [h.zpos]; decide)
    have p1 : (i : Int) * y.1 - Fy e y i * y.2.2.2 + (y.1 - Fy e y 1 * y.2.2.2) = ((i : Int) + 1) * y.1 - (Fy e y i + Fy e y 1) * y.2.2.2 := by grind
    have p2 : (i : Int) * y.2.1 + y.2.1 = ((i : Int) + 1) * y.2.1 := by grind
    rw [p1, p2] at a2
    have n2 : ¬ Fy e y (i + 1) < Fy e y i + Fy e y 1 := fun w => by have := f2.mp w; omega
    have p3 : Fy e y 1 * ((i : Int) + 1) = Fy e y 1 * (i : Int) + Fy e y 1 := by rw [Int.mul_add, Int.mul_one]
    omega
end
theorem ch_qs {e K fr : Int} (k : KOk e K fr) : ∀ (n : Nat) (t : SStt) (y : Num), SOk e K fr t → Rep e y t.P K t.S → Yk e y → Ch (qsS fr n t) (Fy e y)
  | 0, t, y, _, _, _ => trivial
  | n + 1, t, y, so, r, h => by
    have q := q_floor k so r
    rw [flo_can h.can, ← h.one] at q
    have rn := rep_next k so r
    show ∃ F', Lk (qOf fr t) (Fy e y) F' ∧ Ch (qsS fr n (stepS fr t)) F'
    rw [← q] at rn ⊢
    have e2 : stepS fr t = stepS fr t := rfl
    exact ⟨Fy e (rest1 y (Fy e y 1)), h.lk, ch_qs k n (stepS fr t) _ (so.step k) rn h.next⟩
theorem Rr.yk {e : Int} {x : Num} (h : Rr e x) : Yk e x := ⟨⟨h.rt.pos, h.rt.irr⟩, h.g.can, h.q0, h.pos⟩
theorem Rr.ch {e : Int} {x : Num} (h : Rr e x) (n : Nat) : Ch (qsN x n) (Fy e x) := by
  obtain ⟨ko, so, r⟩ := st0_ok h.g.can h.q0 ⟨h.rt.pos, h.rt.irr⟩
  exact ch_qs ko n (st0 x) x so r h.yk
end T4

set_option maxRecDepth 100000
set_option maxHeartbeats 4000000
namespace FD
open PySem PySem.Spec PyProof.Rows L2
section
variable {X : Cx} {C : Cn} {e a b c : Expr} {es elts : List Expr} {pos p tpos p2 apos tg : Pos} {f g h : EF} {ff : AF}
/-! ## a text times a number -/
def repS (x : Str) (n : Nat) : Str := ⟨(List.replicate n x.cps).foldl (· ++ ·) #[]⟩
def rRepS : R2 := fun x y H Q => ∃ i k, x = .str i ∧ y = .int k ∧ 0 ≤ k ∧ k < 2 ^ 63 ∧ i.length * k.toNat ≤ sizeLine ∧ Q (.str (repS i k.toNat)) H
theorem foldl_nil : ∀ n : Nat, (List.replicate n (#[] : Array Nat)).foldl (· ++ ·) #[] = #[]
  | 0 => rfl
  | n + 1 => by
    rw [List.replicate_succ, List.foldl_cons]
    exact foldl_nil n
theorem foldl_list (x : Array Nat) : ∀ (n : Nat) (acc : Array Nat), ((List.replicate n x).foldl (· ++ ·) acc).toList = acc.toList ++ (List.replicate n x.toList).flatten
  | 0, acc => by
    show acc.toList = acc.toList ++ []
    rw [List.append_nil]
  | n + 1, acc => by
    rw [List.replicate_succ, List.foldl_cons, foldl_list x n, List.replicate_succ, List.flatten_cons, Array.toList_append, List.append_assoc]
theorem repS_of (l : List Nat) (n : Nat) : repS ⟨l.toArray⟩ n = ⟨((List.replicate n l).flatten).toArray⟩ := by
  unfold repS
  congr 1
  apply Array.ext'
  rw [foldl_list]
  rfl
theorem flat_len (l : List Nat) : ∀ n : Nat, ((List.replicate n l).flatten).length = n * l.length
  | 0 => by rw [Nat.zero_mul]; rfl
  | n + 1 => by rw [List.replicate_succ, List.flatten_cons, List.length_append, flat_len l n, Nat.add_mul, Nat.one_mul, Nat.add_comm]
theorem repS_len (x : Str) (n : Nat) : (repS x n).length = x.length * n := by
  have e : x = ⟨x.cps.toList.toArray⟩ := by cases x; rfl
  rw [e, repS_of]
  show ((List.replicate n x.cps.toList).flatten).toArray.size = x.cps.toList.toArray.size * n
  rw [List.size_toArray, List.size_toArray, flat_len, Nat.mul_comm]
theorem op_repS : OpR X (binaryOp .Mult) rRepS := by
  intro pins s σ H x y v u Q I rx ry h
  obtain ⟨i, k, rfl, rfl, h0, h1, hz, q⟩ := h
  obtain ⟨t, rfl⟩ := rx
  obtain ⟨t', rfl⟩ := ry
  have hcap : sizeLine ≤ 2 ^ 63 - 1 := by decide
  refine PySem.P.mul_str ?_ ?_ ?_ ?_
  · rw [decide_eq_false (by omega), decide_eq_false (by omega)]
    rfl
  · intro n1 _ w
    have k1 : 0 < k := by omega
    have : (i.length : Int) * k ≤ 2 ^ 63 - 1 := by
      have e1 : ((i.length * k.toNat : Nat) : Int) = i.length * k := by rw [Int.natCast_mul, Int.toNat_of_nonneg h0]
      rw [← e1]
      omega
    have := (Int.le_ediv_iff_mul_le k1).mpr this
    omega
  · intro _ _
    unfold Builtin.Str.tooLong
    exact decide_eq_false (by omega)
  · by_cases z1 : k < 1
    · rw [if_pos z1]
      have : k = 0 := by omega
      subst this
      exact ⟨by decide, ⟨.str (repS i 0), H, I.tok _, ⟨_, rfl⟩, q⟩⟩
    · rw [if_neg z1]
      by_cases z2 : (k == 1 || i.length == 0) = true
      · rw [if_pos z2]
        have e : repS i k.toNat = i := by
          rcases Bool.or_eq_true _ _ ▸ z2 with w | w
          · have : k = 1 := by simpa using w
            subst this
            unfold repS
            show (⟨#[] ++ i.cps⟩ : Str) = i
            rw [Array.empty_append]
          · have w' : i.length = 0 := by simpa using w
            have w2 : i.cps = #[] := Array.eq_empty_of_size_eq_zero w'
            unfold repS
            rw [w2, foldl_nil, ← w2]
        rw [e] at q
        exact ⟨.str i, H, I, ⟨t, rfl⟩, q⟩
      · rw [if_neg z2]
        refine ⟨?_, ⟨.str (repS i k.toNat), H, I.tok _, ⟨_, rfl⟩, q⟩⟩
        have := repS_len i k.toNat
        unfold repS at this
        rw [this]
        exact hz
def dMulS : DV → DV → Option DV
  | .str x, .int k => if decide (0 ≤ k ∧ k < 2 ^ 63 ∧ x.length * k.toNat ≤ sizeLine) then some (.str (repS x k.toNat)) else none
  | _, _ => none
theorem o_mulS {K : PySem.W.Frag} : Op2 K rRepS dMulS := by
  intro C G H σ s x y d e z A r1 r2 ho Q q
  unfold dMulS at ho
  split at ho
  · split at ho
    · rename_i hl
      cases ho
      obtain ⟨l1, l2, l3⟩ := of_decide_eq_true hl
      exact ⟨_, _, r1, r2, l1, l2, l3, q _ H G (Fw.refl A.gh) rfl⟩
    · cases ho
  · cases ho
theorem fe_mulS (h1 : FE X C a f) (h2 : FE X C b g) : FE X C (.BinOp a .Mult b pos) (e2 f g dMulS) := fe_op op_repS o_mulS h1 h2
/-! ## a, b = x, [..] -/
def sPaO (i j : Nat) (f : EF) (g : LF) : SF := fun s => match f s with
  | some (d, s1) => match g s1 with
    | some (ds, s2) => some (.nx { s2 with sl := (s2.sl.set i (some (.dat d))).set j (some (.own ds)) })
    | none => none
  | none => none
theorem fs_paO (i j : Nat) {x y : Str} {ff : LF} {px py pt : Pos} {kt k2 pt2} (h1 : FE X C a f) (h2 : FL X C b ff) (hc : X.calm = true) (hN : X.N.Nodup) (hi : X.N[i]? = some x := by rfl) (hj : X.N[j]? = some y := by rfl) (hij : i ≠ j := by decide)
    (hx : X.env.scope.names.lookup x = some .local := by rfl) (hy : X.env.scope.names.lookup y = some .local := by rfl)
    (hs1 : starEach [a, b] X.env = (false, eval a X.env) :: starEach [b] X.env := by rfl) (hs2 : starEach [b] X.env = (false, eval b X.env) :: starEach [] X.env := by rfl)
    (hw : swappedStores [.Tuple [.Name x px, .Name y py] kt pt] (.Tuple [a, b] k2 pt2) X.env = pure (some [x, y]) := by rfl)
    (hs : swapsWithSole [.Tuple [.Name x px, .Name y py] kt pt] (.Tuple [a, b] k2 pt2) pos.line X.env = pure false := by rfl) :
    FS X C (.Assign [.Tuple [.Name x px, .Name y py] kt pt] (.Tuple [a, b] k2 pt2) pos) (sPaO i j f ff) := by
  obtain ⟨t1, p1, q1⟩ := h1
  obtain ⟨t2, p2, q2⟩ := h2
  refine ⟨_, ps_par hc hN hi hj hij hx hy (pa_cons p1 (pa_cons p2 pa_nil hs2) hs1) hw hs, ?_⟩
  intro G H σ s o A e1 D k
  unfold sPaO at e1
  split at e1
  · rename_i d s1 e2
    split at e1
    · rename_i ds s2 e3
      cases e1
      refine q1 G H σ s d s1 A e2 _ fun v H1 G1 g1 A1 r1 => ?_
      refine q2 G1 H1 σ s1 ds s2 A1 e3 _ fun q vs H2 G2 g2 A2 n => ?_
      refine ⟨v, .ref q, rfl, k _ H2 G2 (g1.trans g2) ((A2.set_dat (i := i) (Rp.mono g2 d v r1)).set_own n.at_ n.rp n.g n.h0 n.sp fun j' es h3 h4 => ?_)⟩
      by_cases z : i = j'
      · subst z
        rw [List.getElem?_set] at h3
        split at h3
        · split at h3
          · cases h3
          · cases h3
        · rename_i w
          exact w rfl
      · rw [List.getElem?_set_ne z] at h3 h4
        exact n.no j' es h3 h4
    · cases e1
  · cases e1
end
end FD

set_option maxRecDepth 100000
set_option maxHeartbeats 4000000
set_option exponentiation.threshold 30000
namespace T4
open PySem L2 FD
local macro_rules | `(tactic| walk_at "fd") => `(tactic| simp only [bodyP, bodyS, sSeq, sIf, sNx, sRt, sAsg, sDr, sPar, sAug, tBl, tTr, tAn, tOo, tNo, eC, eV, eA, eIf, eAn, eOo, eNo, e1, e2, eIxN, FD.peek, aCons, aNil, gNm, gTp, gCo, gNi, dI, dAddI, dMulI, dAdd, dSub, dMul, dFdiv, dMod, dNeg, dGcd, dMax, dMin, dAbs, dSq, dEq_int, dNe_int, dIx, oTup, truD, List.length_cons, List.length_nil, List.map_cons, List.map_nil, List.cons_append, List.nil_append, List.replicate_succ, List.replicate_zero, List.getElem?_cons_zero, List.getElem?_cons_succ, List.set_cons_succ, List.set_cons_zero, Nat.reduceAdd, Nat.reduceSub, Nat.sub_self, if_true, decide_true, decide_false, Bool.not_true, Bool.not_false, Bool.false_eq_true, if_false, reduceCtorEq, *])

/-! ## drawn ratios are small; the order as a walk -/
theorem drawn_ratio4 {n : Nat} {sp : Spl} (hp : Pl n sp) (hn : n ≤ 50000) : ∃ x e sp', m_law_drawn_ratio [] sp = some (nm x, sp') ∧ Good 4 4 e x ∧ (Rt e ∧ e ≤ 21) ∧ 0 < sgS x.1 x.2.1 e ∧ Pl (n + 10) sp' := by
  obtain ⟨v, c1, hv⟩ := choice_at [.int 2, .int 3, .int 5, .int 5, .int 6, .int 7, .int 13, .int 21] sp n hp (by omega) (by simp) (by simp)
  have c1' : m_law_choice [.lst [.int 2, .int 3, .int 5, .int 5, .int 6, .int 7, .int 13, .int 21]] sp = some (v, upS sp 8) := c1
  clear c1
  obtain ⟨d, rfl, rd, r21⟩ : ∃ d : Int, v = .int d ∧ (Rt d ∧ d ≤ 21) := by
    simp only [List.mem_cons, List.not_mem_nil, or_false] at hv
    rcases hv with h | h | h | h | h | h | h | h <;> exact ⟨_, h, by unfold Rt; omega, by omega⟩
  clear hv
  have p1 := pl_up (b := 8) hp
  generalize upS sp 8 = sp1 at *
  obtain ⟨v, c2, hv⟩ := choice_at [.int 1, .int 2, .int 3, .int 5] sp1 _ p1 (by omega) (by simp) (by simp)
  have c2' : m_law_choice [.lst [.int 1, .int 2, .int 3, .int 5]] sp1 = some (v, upS sp1 4) := c2
  clear c2
  obtain ⟨size, rfl, z1, z2⟩ : ∃ z : Int, v = .int z ∧ 0 < z ∧ z ≤ 5 := by
    simp only [List.mem_cons, List.not_mem_nil, or_false] at hv
    rcases hv with h | h | h | h <;> exact ⟨_, h, by decide, by decide⟩
  clear hv
  have p2 := pl_up (b := 4) p1
  generalize upS sp1 4 = sp2 at *
  obtain ⟨x, sp3, c3, g0, p3⟩ := drawn_ok (c := 4) (d := d) (size := size) p2 (by omega) (by have := rd.pos; omega) z1 (by omega) (by omega)
  have c4 := sign_law (g0.up (by decide) (by decide) : Good 1000 1000 d x) rd
  rw [sg_can g0.can] at c4
  have k8 : (8 : Nat) ≤ sizeLine := by decide
  have k4 : (4 : Nat) ≤ sizeLine := by decide
  have k2 : (2 : Nat) ≤ sizeLine := by decide
  by_cases neg : sgS x.1 x.2.1 d < 0
  · have d1 : decide (sgS x.1 x.2.1 d < 0) = true := decide_eq_true neg
    have c5 := neg_law x
    have g1 := neg_good g0
    have s1 : 0 < sgS (0 - x.1) (0 - x.2.1) d := by rw [Int.zero_sub, Int.zero_sub, sg_negs]; omega
    have nz : ¬ ((0 - x.1) = 0 ∧ (0 - x.2.1) = 0) := fun w => by rw [w.1, w.2, sg_zero] at s1; omega
    have c6 := dNe_two (0 - x.1) (0 - x.2.1)
    rw [decide_eq_false nz] at c6
    have c7 := dNe_two' (0 - x.1) (0 - x.2.1) x.2.2.1 x.2.2.2
    have en : nm (0 - x.1, 0 - x.2.1, x.2.2.1, x.2.2.2) = .tup [.int (0 - x.1), .int (0 - x.2.1), .int x.2.2.1, .int x.2.2.2] := rfl
    refine ⟨(0 - x.1, 0 - x.2.1, x.2.2.1, x.2.2.2), d, sp3, ?_, g1, ⟨rd, r21⟩, s1, by unfold Pl at *; omega⟩
    rw [en] at c5 ⊢
    clear hp hn p1 p2 p3 z1 z2 g0 neg g1 s1 nz rd r21 en
    unfold m_law_drawn_ratio b_law_drawn_ratio
    simp only [bodyS, sSeq, sIf, sNx, sRt, sAsg, eS, tBl, eC, eV, eA, eIf, e2, eSlN, FD.peek, oNo, oSo, aCons, aNil, gNm, dI, oTup, oLst, List.length_cons, List.length_nil, List.map_cons, List.map_nil, List.cons_append, List.nil_append, List.replicate_succ, List.replicate_zero, List.getElem?_cons_zero, List.getElem?_cons_succ, List.set_cons_succ, List.set_cons_zero, Nat.reduceAdd, Nat.reduceSub, Nat.sub_self, if_true, c1', c2', c3, c4, c5, c6, c7, d1, k8, k4, k2, Bool.not_false, Bool.not_true]
  · have d1 : decide (sgS x.1 x.2.1 d < 0) = false := decide_eq_false neg
    have c6 := dNe_two x.1 x.2.1
    have c7 := dNe_two' x.1 x.2.1 x.2.2.1 x.2.2.2
    have en : nm x = .tup [.int x.1, .int x.2.1, .int x.2.2.1, .int x.2.2.2] := rfl
    by_cases z : x.1 = 0 ∧ x.2.1 = 0
    · rw [decide_eq_true z] at c6
      refine ⟨(1, 1, 5, 2), 5, sp3, ?_, ⟨by decide, rfl, by decide, by decide, by decide, by decide⟩, ⟨ra_default.rt, by decide⟩, ra_default.pos, by unfold Pl at *; omega⟩
      have e2' : nm (1, 1, 5, 2) = .tup [.int 1, .int 1, .int 5, .int 2] := rfl
      rw [e2']
      rw [en] at c3 c4
      clear hp hn p1 p2 p3 z1 z2 g0 neg z rd r21 en e2'
      unfold m_law_drawn_ratio b_law_drawn_ratio
      simp only [bodyS, sSeq, sIf, sNx, sRt, sAsg, eS, tBl, eC, eV, eA, eIf, e2, eSlN, FD.peek, oNo, oSo, aCons, aNil, gNm, dI, oTup, oLst, List.length_cons, List.length_nil, List.map_cons, List.map_nil, List.cons_append, List.nil_append, List.replicate_succ, List.replicate_zero, List.getElem?_cons_zero, List.getElem?_cons_succ, List.set_cons_succ, List.set_cons_zero, Nat.reduceAdd, Nat.reduceSub, Nat.sub_self, if_true, c1', c2', c3, c4, c6, c7, d1, k8, k4, k2, Bool.not_false, Bool.not_true]
    · rw [decide_eq_false z] at c6
      have s1 : 0 < sgS x.1 x.2.1 d := by
        rcases sg_tri x.1 x.2.1 d with w | w | w
        · omega
        · exact absurd (sg_0 ⟨Int.le_of_lt rd.pos, .inr ⟨rd.pos, rd.irr⟩⟩ w) z
        · omega
      refine ⟨x, d, sp3, ?_, g0, ⟨rd, r21⟩, s1, by unfold Pl at *; omega⟩
      rw [en] at c3 c4 ⊢
      clear hp hn p1 p2 p3 z1 z2 g0 neg z rd r21 en s1
      unfold m_law_drawn_ratio b_law_drawn_ratio
      simp only [bodyS, sSeq, sIf, sNx, sRt, sAsg, eS, tBl, eC, eV, eA, eIf, e2, eSlN, FD.peek, oNo, oSo, aCons, aNil, gNm, dI, oTup, oLst, List.length_cons, List.length_nil, List.map_cons, List.map_nil, List.cons_append, List.nil_append, List.replicate_succ, List.replicate_zero, List.getElem?_cons_zero, List.getElem?_cons_succ, List.set_cons_succ, List.set_cons_zero, Nat.reduceAdd, Nat.reduceSub, Nat.sub_self, if_true, c1', c2', c3, c4, c6, c7, d1, k8, k4, k2, Bool.not_false, Bool.not_true]
structure Rs (e : Int) (x : Num) : Prop where
  g : Good 4 4 e x
  rt : Rt e
  e21 : e ≤ 21
  q0 : x.2.1 ≠ 0
  pos : 0 < sgS x.1 x.2.1 e
def b_law_rooted_ratio : SF :=
  sSeq (sAsg (eS 0 (aNil) m_law_drawn_ratio) (gNm 1))
  (sSeq (sAsg (eA (aCons (eA (aCons (eC (.int 1)) (aCons (eC (.int 1)) (aCons (eC (.int 5)) (aCons (eC (.int 2)) (aNil))))) oTup) (aCons (eA (aCons (eC (.int 0)) (aCons (eC (.int 1)) (aCons (eC (.int 2)) (aCons (eC (.int 1)) (aNil))))) oTup) (aCons (eA (aCons (eC (.int 1)) (aCons (eC (.int 1)) (aCons (eC (.int 3)) (aCons (eC (.int 1)) (aNil))))) oTup) (aCons (eA (aCons (e2 (eC (.int 0)) (eC (.int 1)) dSub) (aCons (eC (.int 1)) (aCons (eC (.int 5)) (aCons (eC (.int 2)) (aNil))))) oTup) (aNil))))) oLst) (gNm 2))
  (sRt (eIf (tBl (e2 (eIxN 1 (eC (.int 1))) (eC (.int 0)) dNe)) (eV 1) (eS 0 (aCons (eV 2) (aNil)) m_law_choice))))
def m_law_rooted_ratio : List DV → Spl → Option (DV × Spl) := bodyS 1 3 b_law_rooted_ratio
theorem t_law_rooted_ratio : ∀ ds s d, m_law_rooted_ratio ds s = some d → bodyS 1 3 b_law_rooted_ratio ds s = some d := fun _ _ _ h => h
theorem some_rs (e : Int) (x : Num) (h : (e = 5 ∧ x = (1, 1, 5, 2)) ∨ (e = 2 ∧ x = (0, 1, 2, 1)) ∨ (e = 3 ∧ x = (1, 1, 3, 1)) ∨ (e = 5 ∧ x = (-1, 1, 5, 2))) : Rs e x := by
  rcases h with ⟨rfl, rfl⟩ | ⟨rfl, rfl⟩ | ⟨rfl, rfl⟩ | ⟨rfl, rfl⟩ <;> exact ⟨⟨by decide, rfl, by decide, by decide, by decide, by decide⟩, by unfold Rt; omega, by decide, by decide, by decide⟩
theorem rooted_ok {n : Nat} {sp : Spl} (hp : Pl n sp) (hn : n ≤ 40000) : ∃ x e sp', m_law_rooted_ratio [] sp = some (nm x, sp') ∧ Rs e x ∧ Pl (n + 20) sp' := by
  obtain ⟨x, e, sp1, c1, g, ⟨rt, e21⟩, pos, p1⟩ := drawn_ratio4 hp (by omega)
  obtain ⟨v, c2, hv⟩ := choice_at [nm (1, 1, 5, 2), nm (0, 1, 2, 1), nm (1, 1, 3, 1), nm (-1, 1, 5, 2)] sp1 _ p1 (by omega) (by simp) (by simp)
  have c2' : m_law_choice [.lst [.tup [.int 1, .int 1, .int 5, .int 2], .tup [.int 0, .int 1, .int 2, .int 1], .tup [.int 1, .int 1, .int 3, .int 1], .tup [.int (-1), .int 1, .int 5, .int 2]]] sp1 = some (v, upS sp1 4) := c2
  have p2 := pl_up (b := 4) p1
  clear c2
  have en : nm x = .tup [.int x.1, .int x.2.1, .int x.2.2.1, .int x.2.2.2] := rfl
  have k4 : (4 : Nat) ≤ sizeLine := by decide
  have m1 : dSub (.int 0) (.int 1) = some (.int (-1)) := rfl
  have ix : dIx (.tup [.int x.1, .int x.2.1, .int x.2.2.1, .int x.2.2.2]) (.int 1) = some (.int x.2.1) := rfl
  by_cases z : x.2.1 = 0
  · have ne : dNe (.int x.2.1) (.int 0) = some (.bl false) := by rw [dNe_int, z]; rfl
    obtain ⟨y, f, hy, rs⟩ : ∃ y f, v = nm y ∧ Rs f y := by
      simp only [List.mem_cons, List.not_mem_nil, or_false] at hv
      rcases hv with h | h | h | h
      · exact ⟨_, 5, h, some_rs _ _ (.inl ⟨rfl, rfl⟩)⟩
      · exact ⟨_, 2, h, some_rs _ _ (.inr (.inl ⟨rfl, rfl⟩))⟩
      · exact ⟨_, 3, h, some_rs _ _ (.inr (.inr (.inl ⟨rfl, rfl⟩)))⟩
      · exact ⟨_, 5, h, some_rs _ _ (.inr (.inr (.inr ⟨rfl, rfl⟩)))⟩
    refine ⟨y, f, upS sp1 4, ?_, rs, by unfold Pl at *; omega⟩
    rw [← hy]
    rw [en] at c1
    clear hp hn p1 p2 g rt e21 pos hv hy rs en z
    generalize x.2.1 = Q at *
    unfold m_law_rooted_ratio b_law_rooted_ratio
    simp only [bodyS, sSeq, sIf, sNx, sRt, sAsg, eS, tBl, eC, eV, eA, eIf, e2, eIxN, FD.peek, aCons, aNil, gNm, oTup, oLst, List.length_cons, List.length_nil, List.map_cons, List.map_nil, List.cons_append, List.nil_append, List.replicate_succ, List.replicate_zero, List.getElem?_cons_zero, List.getElem?_cons_succ, List.set_cons_succ, List.set_cons_zero, Nat.reduceAdd, Nat.reduceSub, Nat.sub_self, if_true, c1, c2', ix, ne, m1, k4, Bool.not_false, Bool.not_true]
  · have ne : dNe (.int x.2.1) (.int 0) = some (.bl true) := by rw [dNe_int]; simp [z]
    refine ⟨x, e, sp1, ?_, ⟨g, rt, e21, z, pos⟩, by unfold Pl at *; omega⟩
    rw [en] at c1 ⊢
    clear hp hn p1 p2 g rt e21 pos hv en z c2'
    unfold m_law_rooted_ratio b_law_rooted_ratio
    simp only [bodyS, sSeq, sIf, sNx, sRt, sAsg, eS, tBl, eC, eV, eA, eIf, e2, eIxN, FD.peek, aCons, aNil, gNm, oTup, oLst, List.length_cons, List.length_nil, List.map_cons, List.map_nil, List.cons_append, List.nil_append, List.replicate_succ, List.replicate_zero, List.getElem?_cons_zero, List.getElem?_cons_succ, List.set_cons_succ, List.set_cons_zero, Nat.reduceAdd, Nat.reduceSub, Nat.sub_self, if_true, c1, ix, ne, m1, k4, Bool.not_false, Bool.not_true]
section
variable {e : Int} {x : Num}
theorem Rs.rr (h : Rs e x) : Rr e x := ⟨h.g.up (by decide) (by decide), h.rt, h.q0, h.pos⟩
theorem Rs.ra (h : Rs e x) : Ra e x := ⟨h.g.up (by decide) (by decide), h.rt, h.pos⟩
theorem wk_wd (h : Ra e x) : ∀ (m k : Nat), wk (Fy e x) m ((k : Int) - doneN x k).toNat (doneN x k).toNat = (List.range' k m).map fun (i : Nat) => code e x ((i : Int) + 1)
  | 0, k => rfl
  | m + 1, k => by
    have nn := done_nn h (show (0 : Int) ≤ (k : Int) by omega)
    have dl := done_le h (show (0 : Int) ≤ (k : Int) by omega)
    have nx := next_is h (k : Int)
    have st := done_step h (k : Int)
    have ih := wk_wd h m (k + 1)
    have ck : ((k + 1 : Nat) : Int) = (k : Int) + 1 := rfl
    rw [ck] at ih
    have ef : Fy e x ((doneN x k).toNat + 1) = flo ((doneN x k + 1) * x.1) ((doneN x k + 1) * x.2.1) e x.2.2.2 := by
      unfold Fy
      have : (((doneN x k).toNat + 1 : Nat) : Int) = doneN x k + 1 := by omega
      rw [this]
    rw [← ef] at nx
    rw [List.range'_succ, List.map_cons, ← ih]
    show (if _ then 98 :: wk (Fy e x) m _ _ else 97 :: wk (Fy e x) m _ _) = code e x ((k : Int) + 1) :: wk (Fy e x) m _ _
    unfold code
    by_cases z : GB e x (doneN x ((k : Int) + 1)) = (k : Int) + 1
    · rw [if_pos z] at st ⊢
      rw [if_pos (by
        have n2 : ¬ _ := fun w => (nx.mp w) z
        omega)]
      have a1 : ((k : Int) + 1 - doneN x ((k : Int) + 1)).toNat = ((k : Int) - doneN x k).toNat := by omega
      have a2 : (doneN x ((k : Int) + 1)).toNat = (doneN x k).toNat + 1 := by omega
      rw [a1, a2]
    · rw [if_neg z] at st ⊢
      rw [if_neg (by
        have := nx.mpr z
        omega)]
      have a1 : ((k : Int) + 1 - doneN x ((k : Int) + 1)).toNat = ((k : Int) - doneN x k).toNat + 1 := by omega
      have a2 : (doneN x ((k : Int) + 1)).toNat = (doneN x k).toNat := by omega
      rw [a1, a2]
theorem walk_wd (h : Ra e x) (n : Nat) : wk (Fy e x) n 0 0 = wd e x n := by
  have := wk_wd h n 0
  have z := done_zero h
  have c0 : ((0 : Nat) : Int) = 0 := rfl
  rw [c0, z] at this
  unfold wd
  rw [List.range_eq_range']
  exact this
/-! ## quotients of drawn ratios are small -/
theorem qsS_bd {e K fr : Int} (k : KOk e K fr) : ∀ (n : Nat) (t : SStt) (M : Int), SOk e K fr t → SBd fr M t → 0 ≤ M → ∀ c ∈ qsS fr n t, (c.natAbs : Int) ≤ M + n * (2 * fr + 1)
  | 0, t, M, _, _, _, c, hc => by cases hc
  | n + 1, t, M, so, b, hM, c, hc => by
    obtain ⟨f0, _, _⟩ := k.spec
    have e1 : (((n + 1 : Nat) : Int)) * (2 * fr + 1) = n * (2 * fr + 1) + (2 * fr + 1) := by
      rw [Int.natCast_add, Int.add_mul]
      omega
    have n0 : 0 ≤ (n : Int) * (2 * fr + 1) := Int.mul_nonneg (by omega) (by omega)
    rcases List.mem_cons.mp hc with w | w
    · have := b.p
      have q : c.natAbs ≤ (t.P + fr).natAbs ∨ c.natAbs ≤ (t.P + fr + 1).natAbs := by
        rw [w]
        unfold qOf
        split
        · exact .inl (fdiv_any so.s0)
        · exact .inr (fdiv_any so.s0)
      rw [e1]
      generalize (n : Int) * (2 * fr + 1) = U at *
      omega
    · have := qsS_bd k n (stepS fr t) (M + 2 * fr + 1) (so.step k) (b.step k so) (by omega) c w
      rw [e1]
      generalize (n : Int) * (2 * fr + 1) = U at *
      omega
theorem lt16 {a : Int} (h : a.natAbs < 2 ^ 4) : a.natAbs ≤ 15 := by omega
theorem mul15 {a b : Int} (h : a.natAbs < 2 ^ 4) (k : b.natAbs < 2 ^ 4) : (a * b).natAbs ≤ 225 := by
  rw [Int.natAbs_mul]
  exact Nat.mul_le_mul (lt16 h) (lt16 k)
theorem Rs.qb (h : Rs e x) (n : Nat) : ∀ c ∈ qsN x n, (c.natAbs : Int) ≤ 225 + n * 2063 := by
  obtain ⟨ko, so, r⟩ := st0_ok h.g.can h.q0 ⟨h.rt.pos, h.rt.irr⟩
  have zw := wide_sz (x := x) h.g.zs (by decide)
  have zK : (K0 x).natAbs ≤ 225 := mul15 (sgn1_sz h.g.zq) zw
  have zP : (st0 x).P.natAbs ≤ 225 := mul15 (sgn1_sz h.g.zp) zw
  have zS : (st0 x).S.natAbs ≤ 225 := mul15 (sgn1_sz h.g.zs) zw
  obtain ⟨f0, f1, f2⟩ := ko.spec
  have hf : sq (n0 x) ≤ 1031 := by
    refine Int.not_lt.mp fun w => ?_
    have a1 : 1032 * 1032 ≤ sq (n0 x) * sq (n0 x) := Int.mul_le_mul w w (by decide) f0
    have a2 : (K0 x) * (K0 x) ≤ 225 * 225 := by
      have : (K0 x) * (K0 x) = ((K0 x).natAbs : Int) * ((K0 x).natAbs : Int) := (Int.natAbs_mul_self).symm
      rw [this]
      exact Int.mul_le_mul (by omega) (by omega) (by omega) (by decide)
    have a3 : (K0 x) * (K0 x) * e ≤ 225 * 225 * 21 := Int.mul_le_mul a2 h.e21 (Int.le_of_lt h.rt.pos) (by decide)
    omega
  intro c hc
  have := qsS_bd ko n (st0 x) 225 so ⟨by omega, by omega⟩ (by decide) c hc
  have a4 := Int.mul_le_mul_of_nonneg_left (show 2 * sq (n0 x) + 1 ≤ 2063 by omega) (show 0 ≤ (n : Int) by omega)
  omega
theorem szS_sz : ∀ (cs : List Int) (b l : Int) (m : Nat), (∀ c ∈ cs, c.natAbs < 2 ^ 20) → b.natAbs < 2 ^ m → l.natAbs < 2 ^ m → ∀ z ∈ szS cs b l, z.natAbs < 2 ^ (m + 21 * cs.length)
  | [], b, l, m, _, _, _, z, hz => by cases hz
  | c :: cs, b, l, m, h, hb, hl, z, hz => by
    have c1 := h c List.mem_cons_self
    have u : (c * l + b).natAbs < 2 ^ (m + 21) := by
      have a1 : (c * l).natAbs < 2 ^ (20 + m) := mul_lt c1 hl
      have a2 := add_lt a1 (lt_up hb (by omega) : b.natAbs < 2 ^ (20 + m))
      exact lt_up a2 (by omega)
    have e1 : m + 21 + 21 * cs.length = m + 21 * (c :: cs).length := by rw [List.length_cons]; omega
    rcases List.mem_cons.mp hz with w | w
    · rw [w]
      exact Nat.lt_of_lt_of_le u (Nat.pow_le_pow_right (by decide) (by omega))
    · have := szS_sz cs l (c * l + b) (m + 21) (fun d hd => h d (List.mem_cons_of_mem _ hd)) (Nat.lt_of_lt_of_le hl (Nat.pow_le_pow_right (by decide) (by omega))) u z w
      rw [e1] at this
      exact this
theorem Rs.smq (h : Rs e x) (n : Nat) (hn : n ≤ 300) : SmQ (qsN x n) := fun c hc => by
  have := h.qb n c hc
  have : c.natAbs < 2 ^ 20 := by omega
  exact lt_up this
theorem Rs.szs (h : Rs e x) : ∀ s ∈ 1 :: szS (qsN x 220) 1 1, 0 < s ∧ s.natAbs < 2 ^ 8999 := by
  intro s hs
  refine ⟨row_pos h.rr 220 s hs, ?_⟩
  rcases List.mem_cons.mp hs with w | w
  · rw [w]
    exact Nat.one_lt_two_pow (by decide)
  · have := szS_sz (qsN x 220) 1 1 1 (fun c hc => by have := h.qb 220 c hc; omega) (by decide) (by decide) s w
    rw [show (qsN x 220).length = 220 from qsS_len _ _ _] at this
    exact Nat.lt_of_lt_of_le this (Nat.pow_le_pow_right (by decide) (by decide))
theorem greedy_at (h : Rs e x) (n : Int) : m_law_greedy [.lst ((qsN x 220).map DV.int), .int n] = some (.tup (((dz (gr (rowN x 220).reverse n)).map DV.int).reverse)) :=
  greedy_ok (h.smq 220 (by decide)) (by rw [show (qsN x 220).length = 220 from qsS_len _ _ _]; decide) h.szs
end
end T4

set_option maxRecDepth 100000
set_option maxHeartbeats 4000000
set_option exponentiation.threshold 30000
namespace T4
open PySem L2 FD
local macro_rules | `(tactic| walk_at "fd") => `(tactic| simp only [bodyP, bodyS, sSeq, sIf, sNx, sRt, sAsg, sDr, sPar, sAug, tBl, tTr, tAn, tOo, tNo, eC, eV, eA, eIf, eAn, eOo, eNo, e1, e2, eIxN, FD.peek, aCons, aNil, gNm, gTp, gCo, gNi, dI, dAddI, dMulI, dAdd, dSub, dMul, dFdiv, dMod, dNeg, dGcd, dMax, dMin, dAbs, dSq, dEq_int, dNe_int, dIx, oTup, truD, List.length_cons, List.length_nil, List.map_cons, List.map_nil, List.cons_append, List.nil_append, List.replicate_succ, List.replicate_zero, List.getElem?_cons_zero, List.getElem?_cons_succ, List.set_cons_succ, List.set_cons_zero, Nat.reduceAdd, Nat.reduceSub, Nat.sub_self, if_true, decide_true, decide_false, Bool.not_true, Bool.not_false, Bool.false_eq_true, if_false, reduceCtorEq, *])

/-! ## the law's standard words -/
def tx (l : List Nat) : Str := ⟨l.toArray⟩
def txD (l : List Nat) : DV := .str (tx l)
theorem tx_len (l : List Nat) : (tx l).length = l.length := by
  show l.toArray.size = l.length
  rw [List.size_toArray]
theorem tx_rep (l : List Nat) (n : Nat) : repS (tx l) n = tx (rp n l) := repS_of l n
theorem tx_app (l m : List Nat) : tx l ++ tx m = tx (l ++ m) := by
  show (⟨l.toArray ++ m.toArray⟩ : Str) = ⟨(l ++ m).toArray⟩
  rw [List.append_toArray]
theorem sz_eq : sizeLine = 16777216 := rfl
theorem mulS_ok {l : List Nat} {c : Int} (c0 : 0 ≤ c) (hc : c ≤ 80000) (hl : l.length ≤ 200) : dMulS (txD l) (.int c) = some (txD (rp c.toNat l)) := by
  show (if decide (0 ≤ c ∧ c < 2 ^ 63 ∧ (tx l).length * c.toNat ≤ sizeLine) then some (DV.str (repS (tx l) c.toNat)) else none) = _
  have h3 : (tx l).length * c.toNat ≤ sizeLine := by
    rw [tx_len]
    have : l.length * c.toNat ≤ 200 * 80000 := Nat.mul_le_mul hl (by omega)
    have : sizeLine = 16777216 := rfl
    omega
  rw [decide_eq_true ⟨c0, by omega, h3⟩, if_pos rfl, tx_rep]
  rfl
theorem addS_ok {l m : List Nat} (h : l.length + m.length ≤ 16777216) : dAdd (txD l) (txD m) = some (txD (l ++ m)) := by
  show (if (tx l).length + (tx m).length ≤ sizeLine then some (DV.str (tx l ++ tx m)) else none) = _
  rw [tx_len, tx_len, if_pos (show _ ≤ sizeLine by rw [sz_eq]; exact h), tx_app]
  rfl
theorem lenS_ok {l : List Nat} (h : l.length ≤ 16777216) : dLen [txD l] = some (.int l.length) := by
  show (if (tx l).length ≤ sizeLine then some (DV.int (tx l).length) else none) = _
  rw [tx_len, if_pos (show _ ≤ sizeLine by rw [sz_eq]; exact h)]
def swBody : SF := (sIf (tBl (e2 (eA (aCons (eIxN 2 (e1 (eC (.int 1)) dNeg)) (aNil)) dLen) (eC (.int 200)) dLt)) (sSeq (sApp 2 (e2 (e2 (eIxN 2 (e1 (eC (.int 1)) dNeg)) (eV 3) dMulS) (eV 1) dAdd))
  (sAsg (eIxN 2 (e1 (eC (.int 2)) dNeg)) (gNm 1))) (sNx))
theorem swb_go {acc : List DV} {l r w b : DV} {n c : Int} {d0 : Option SV} {sp : Spl} (h1 : dLen [l] = some (.int n)) (h2 : decide (n < 200) = true) (h3 : dMulS l (.int c) = some r) (h4 : dAdd r b = some w) (za : (acc ++ [l]).length < sizeLine) :
    swBody ⟨[d0, some (.dat b), some (.own (acc ++ [l])), some (.dat (.int c))], sp⟩ = some (.nx ⟨[d0, some (.dat l), some (.own (acc ++ [l] ++ [w])), some (.dat (.int c))], sp⟩) := by
  have k := last_ix acc l
  have k2 := prev_ix acc l w
  generalize acc ++ [l] = A at *
  unfold swBody
  generalize dMulS = MS at *
  generalize dAdd = AD at *
  generalize dLen = LN at *
  simp only [sSeq, sIf, sNx, sAsg, sApp, eIxN, FD.peek, tBl, eA, aCons, aNil, eC, eV, FD.e1, dNeg, e2, dI, k, k2, h1, h2, h3, h4, za, gNm, List.length_cons, List.length_nil, List.map_cons, List.map_nil, List.cons_append, List.nil_append, List.replicate_succ, List.replicate_zero, List.getElem?_cons_zero, List.getElem?_cons_succ, List.set_cons_succ, List.set_cons_zero, Nat.reduceAdd, Nat.reduceSub, Nat.sub_self, if_true]
theorem swb_stop {acc : List DV} {l b : DV} {n c : Int} {d0 : Option SV} {sp : Spl} (h1 : dLen [l] = some (.int n)) (h2 : decide (n < 200) = false) :
    swBody ⟨[d0, some (.dat b), some (.own (acc ++ [l])), some (.dat (.int c))], sp⟩ = some (.nx ⟨[d0, some (.dat b), some (.own (acc ++ [l])), some (.dat (.int c))], sp⟩) := by
  have k := last_ix acc l
  generalize acc ++ [l] = A at *
  unfold swBody
  generalize dLen = LN at *
  simp only [sSeq, sIf, sNx, sAsg, sApp, eIxN, FD.peek, tBl, eA, aCons, aNil, eC, eV, FD.e1, dNeg, e2, dI, k, h1, h2, gNm, List.length_cons, List.length_nil, List.map_cons, List.map_nil, List.cons_append, List.nil_append, List.replicate_succ, List.replicate_zero, List.getElem?_cons_zero, List.getElem?_cons_succ, List.set_cons_succ, List.set_cons_zero, Nat.reduceAdd, Nat.reduceSub, Nat.sub_self, if_true, Bool.false_eq_true, if_false]
theorem sw_still (d0 : Option SV) (sp : Spl) {b l : DV} {n : Int} {acc : List DV} (h1 : dLen [l] = some (.int n)) (h2 : decide (n < 200) = false) : ∀ (cs : List Int) (x3 : Option SV),
    ∃ y3, frN (cs.map DV.int) (gNm 3) swBody ⟨[d0, some (.dat b), some (.own (acc ++ [l])), x3], sp⟩ = some (.nx ⟨[d0, some (.dat b), some (.own (acc ++ [l])), y3], sp⟩)
  | [], x3 => ⟨x3, rfl⟩
  | c :: cs, x3 => by
    obtain ⟨y3, r⟩ := sw_still d0 sp h1 h2 cs (some (.dat (.int c)))
    refine ⟨y3, ?_⟩
    rw [← r]
    have lb := swb_stop (d0 := d0) (sp := sp) (acc := acc) (l := l) (b := b) (c := c) h1 h2
    rw [List.map_cons]
    conv => lhs; unfold frN
    simp only [gNm, List.set_cons_succ, List.set_cons_zero]
    rw [lb]
theorem swS_head (cs : List Int) (b l : List Nat) : ∃ tl, swS cs b l = l :: tl := by
  cases cs with
  | nil => exact ⟨[], rfl⟩
  | cons c cs => exact ⟨_, rfl⟩
theorem sw_loop (d0 : Option SV) (sp : Spl) : ∀ (cs : List Int) (acc : List (List Nat)) (b l : List Nat) (x3 : Option SV), (∀ c ∈ cs, 0 ≤ c ∧ c ≤ 80000) → b.length ≤ 200 → l.length ≤ 16777216 → acc.length + cs.length ≤ 1000 →
    ∃ k w b' y3, k ≤ cs.length ∧ (swS cs b l)[k]? = some w ∧ (k = cs.length ∨ 200 ≤ w.length) ∧ frN (cs.map DV.int) (gNm 3) swBody ⟨[d0, some (.dat (txD b)), some (.own (acc.map txD ++ [txD l])), x3], sp⟩ = some (.nx ⟨[d0, b', some (.own ((acc ++ (swS cs b l).take (k + 1)).map txD)), y3], sp⟩)
  | [], acc, b, l, x3, _, _, _, _ => ⟨0, l, some (.dat (txD b)), x3, Nat.le_refl _, rfl, .inl rfl, by
      show _ = some (Out.nx ⟨[d0, some (.dat (txD b)), some (.own ((acc ++ [l]).map txD)), x3], sp⟩)
      rw [List.map_append]
      rfl⟩
  | c :: cs, acc, b, l, x3, hc, hb, hl, ha => by
    have ln := lenS_ok hl
    by_cases z : l.length < 200
    · have c1 := hc c List.mem_cons_self
      have h2 : decide ((l.length : Int) < 200) = true := decide_eq_true (by omega)
      have h3 := mulS_ok (l := l) c1.1 c1.2 (Nat.le_of_lt z)
      have rl : (rp c.toNat l).length ≤ 80000 * 200 := by
        rw [rp_len]
        exact Nat.mul_le_mul (by omega) (Nat.le_of_lt z)
      have h4 := addS_ok (l := rp c.toNat l) (m := b) (by omega)
      have za : (acc.map txD ++ [txD l]).length < sizeLine := by
        rw [List.length_append, List.length_map, List.length_singleton, sz_eq]
        rw [List.length_cons] at ha
        omega
      obtain ⟨k, w, b', y3, hk, hw, hs, r⟩ := sw_loop d0 sp cs (acc ++ [l]) l (rp c.toNat l ++ b) (some (.dat (.int c))) (fun d hd => hc d (List.mem_cons_of_mem _ hd)) (Nat.le_of_lt z) (by rw [List.length_append]; omega) (by rw [List.length_append, List.length_singleton]; rw [List.length_cons] at ha; omega)
      refine ⟨k + 1, w, b', y3, by rw [List.length_cons]; omega, hw, by rw [List.length_cons]; omega, ?_⟩
      have e1 : acc ++ (swS (c :: cs) b l).take (k + 1 + 1) = acc ++ [l] ++ (swS cs l (rp c.toNat l ++ b)).take (k + 1) := by
        rw [List.append_assoc]
        rfl
      rw [e1, ← r]
      have lb := swb_go (d0 := d0) (sp := sp) (acc := acc.map txD) (b := txD b) (c := c) ln h2 h3 h4 za
      rw [List.map_cons]
      conv => lhs; unfold frN
      simp only [gNm, List.set_cons_succ, List.set_cons_zero]
      rw [lb]
      rw [List.map_append (l₁ := acc)]
      rfl
    · have h2 : decide ((l.length : Int) < 200) = false := decide_eq_false (by omega)
      obtain ⟨y3, r⟩ := sw_still d0 sp (b := txD b) (acc := acc.map txD) ln h2 (c :: cs) x3
      refine ⟨0, l, some (.dat (txD b)), y3, Nat.zero_le _, rfl, .inr (by omega), ?_⟩
      rw [r]
      show _ = some (Out.nx ⟨[d0, some (.dat (txD b)), some (.own ((acc ++ [l]).map txD)), y3], sp⟩)
      rw [List.map_append]
      rfl
def b_law_standard_words : SF :=
  sSeq (sPaO 1 2 (eC (.str "b")) (lDs (aCons (eC (.str "a")) (aNil))))
  (sSeq (sFr (iVal (eV 0)) (gNm 3) (sIf (tBl (e2 (eA (aCons (eIxN 2 (e1 (eC (.int 1)) dNeg)) (aNil)) dLen) (eC (.int 200)) dLt)) (sSeq (sApp 2 (e2 (e2 (eIxN 2 (e1 (eC (.int 1)) dNeg)) (eV 3) dMulS) (eV 1) dAdd))
  (sAsg (eIxN 2 (e1 (eC (.int 2)) dNeg)) (gNm 1))) (sNx)))
  (sRt (eV 2)))
def m_law_standard_words : List DV → Option DV := bodyP 1 4 b_law_standard_words
theorem t_law_standard_words : ∀ ds d, m_law_standard_words ds = some d → bodyP 1 4 b_law_standard_words ds = some d := fun _ _ h => h
theorem standard_words_ok {cs : List Int} (hc : ∀ c ∈ cs, 0 ≤ c ∧ c ≤ 80000) (hl : cs.length ≤ 500) :
    ∃ k w, k ≤ cs.length ∧ (swS cs [98] [97])[k]? = some w ∧ (k = cs.length ∨ 200 ≤ w.length) ∧ m_law_standard_words [.lst (cs.map DV.int)] = some (.lst (((swS cs [98] [97]).take (k + 1)).map txD)) := by
  obtain ⟨k, w, b', y3, hk, hw, hs, lp⟩ := sw_loop (some (.dat (.lst (cs.map DV.int)))) spl0 cs [] [98] [97] none hc (by decide) (by decide) (by rw [List.length_nil]; omega)
  refine ⟨k, w, hk, hw, hs, ?_⟩
  rw [List.nil_append] at lp
  have eb : b_law_standard_words = sSeq (sPaO 1 2 (eC (.str "b")) (lDs (aCons (eC (.str "a")) (aNil)))) (sSeq (sFr (iVal (eV 0)) (gNm 3) swBody) (sRt (eV 2))) := rfl
  have sa : txD [97] = .str (("a" : String) : Str) := by rw [txt_a]; rfl
  have sb : txD [98] = .str (("b" : String) : Str) := by rw [txt_b]; rfl
  have s1 : sPaO 1 2 (eC (.str "b")) (lDs (aCons (eC (.str "a")) (aNil))) ⟨[some (.dat (.lst (cs.map DV.int))), none, none, none], spl0⟩ = some (.nx ⟨[some (.dat (.lst (cs.map DV.int))), some (.dat (txD [98])), some (.own (([] : List (List Nat)).map txD ++ [txD [97]])), none], spl0⟩) := by
    rw [sa, sb]
    rfl
  have i2 : iVal (eV 0) ⟨[some (.dat (.lst (cs.map DV.int))), some (.dat (txD [98])), some (.own (([] : List (List Nat)).map txD ++ [txD [97]])), none], spl0⟩ = some (cs.map DV.int, ⟨[some (.dat (.lst (cs.map DV.int))), some (.dat (txD [98])), some (.own (([] : List (List Nat)).map txD ++ [txD [97]])), none], spl0⟩) := rfl
  have s2 := (sFr_of (g := gNm 3) (B := swBody) i2).trans lp
  generalize ((swS cs [98] [97]).take (k + 1)).map txD = WW at *
  generalize cs.map DV.int = L at *
  unfold m_law_standard_words
  rw [eb]
  refine bodyP_of (ds := [.lst L]) rfl (t := ⟨[some (.dat (.lst L)), b', some (.dat (.lst WW)), y3], spl0⟩) ?_
  refine (seq_nx s1).trans ((seq_nx s2).trans ?_)
  rfl
end T4

set_option maxRecDepth 100000
set_option maxHeartbeats 4000000
set_option exponentiation.threshold 30000
namespace T4
open PySem L2 FD
local macro_rules | `(tactic| walk_at "fd") => `(tactic| simp only [bodyP, bodyS, sSeq, sIf, sNx, sRt, sAsg, sDr, sPar, sAug, tBl, tTr, tAn, tOo, tNo, eC, eV, eA, eIf, eAn, eOo, eNo, e1, e2, eIxN, FD.peek, aCons, aNil, gNm, gTp, gCo, gNi, dI, dAddI, dMulI, dAdd, dSub, dMul, dFdiv, dMod, dNeg, dGcd, dMax, dMin, dAbs, dSq, dEq_int, dNe_int, dIx, oTup, truD, List.length_cons, List.length_nil, List.map_cons, List.map_nil, List.cons_append, List.nil_append, List.replicate_succ, List.replicate_zero, List.getElem?_cons_zero, List.getElem?_cons_succ, List.set_cons_succ, List.set_cons_zero, Nat.reduceAdd, Nat.reduceSub, Nat.sub_self, if_true, decide_true, decide_false, Bool.not_true, Bool.not_false, Bool.false_eq_true, if_false, reduceCtorEq, *])

/-! ## what the law compares -/
theorem okWs_ints : ∀ l : List Int, (∀ d ∈ l, d.natAbs < 2 ^ 200) → okWs (l.map PyData.int) = true
  | [], _ => rfl
  | d :: l, h => by
    show (okW (.int d) && okWs (l.map PyData.int)) = true
    rw [okWs_ints l fun c hc => h c (List.mem_cons_of_mem _ hc)]
    simp only [okW, log_sz (h d List.mem_cons_self), Bool.and_self]
theorem okStrs_ints : ∀ l : List Int, okStrs (l.map PyData.int) = true
  | [] => rfl
  | d :: l => by
    show (okStr (.int d) && okStrs (l.map PyData.int)) = true
    rw [okStrs_ints l]
    rfl
theorem dep_ints : ∀ l : List Int, PyData.depthAll (l.map PyData.int) = 0
  | [] => by simp [PyData.depthAll]
  | d :: l => by
    rw [List.map_cons]
    simp only [PyData.depthAll, PyData.depth, dep_ints l]
    rfl
theorem wid_ints : ∀ l : List Int, wids (l.map PyData.int) = 4304 * l.length
  | [] => rfl
  | d :: l => by
    have ih := wid_ints l
    show wid (.int d) + 2 + wids (l.map PyData.int) = _
    rw [ih, List.length_cons]
    have : wid (.int d) = 4302 := rfl
    omega
theorem alike_ints {l : List Int} (h : ∀ d ∈ l, d.natAbs < 2 ^ 200) (hl : l.length ≤ 1000) : m_law_alike [.tup (l.map DV.int), .tup (l.map DV.int)] = some (.bl true) := by
  refine alike_of (p := .tuple (l.map PyData.int)) ?_ ?_ ?_ ?_ ?_
  · show (toPyL (l.map DV.int)).map PyData.tuple = _
    rw [toPyL_ints]
    rfl
  · show okWs (l.map PyData.int) = true
    exact okWs_ints l h
  · exact okStrs_ints l
  · show PyData.depthAll (l.map PyData.int) + 1 ≤ 64
    rw [dep_ints]
    omega
  · show wids (l.map PyData.int) + 3 ≤ 16777216
    rw [wid_ints]
    omega
section
variable {e : Int} {x : Num}
def dgN (x : Num) (n : Int) : List Int := dz (gr (rowN x 220).reverse n)
theorem dz_mem {l : List Int} {d : Int} (h : d ∈ dz l) : d ∈ l := (List.dropWhile_sublist _).subset h
theorem dg_mem (h : Rs e x) {n : Int} (h0 : 0 ≤ n) : ∀ d ∈ dgN x n, 0 ≤ d ∧ d ≤ n := fun d hd => by
  have m := dz_mem hd
  have rp : ∀ s ∈ (rowN x 220).reverse, 0 < s := fun s hs => row_pos h.rr 220 s (List.mem_reverse.mp hs)
  exact ⟨gr_nn _ _ h0 rp d m, gr_le _ _ h0 rp d m⟩
theorem dg_len (n : Int) : (dgN x n).length ≤ 221 := by
  have := dz_le (gr (rowN x 220).reverse n)
  rw [gr_len, List.length_reverse, row_len] at this
  exact this
theorem qs_take : (qsN x 220).take 20 = qsN x 20 := by
  have : qsN x (20 + 200) = _ := qsS_append (sq (n0 x)) 20 200 (st0 x)
  rw [show (220 : Nat) = 20 + 200 from rfl, this]
  have l : (qsS (sq (n0 x)) 20 (st0 x)).length = 20 := qsS_len _ _ _
  rw [List.take_append_of_le_length (by omega), List.take_of_length_le (by omega)]
  rfl
theorem szS_sorted : ∀ (cs : List Int) (b l : Int), (∀ c ∈ cs, 1 ≤ c) → 0 ≤ b → 0 ≤ l → List.Pairwise (· ≤ ·) (l :: szS cs b l)
  | [], b, l, _, _, _ => List.pairwise_singleton _ _
  | c :: cs, b, l, h, h1, h2 => by
    refine List.pairwise_cons.mpr ⟨szS_ge (c :: cs) b l h h1 h2, ?_⟩
    have c1 := h c List.mem_cons_self
    have := Int.mul_le_mul_of_nonneg_right c1 h2
    exact szS_sorted cs l (c * l + b) (fun d hd => h d (List.mem_cons_of_mem _ hd)) h2 (by omega)
theorem row_sorted (h : Rr e x) (n : Nat) : List.Pairwise (· ≤ ·) (rowN x (n + 1)) := by
  have f := h.first
  have p := row_pos h (n + 1)
  rw [row_succ] at p ⊢
  refine List.pairwise_cons.mpr ⟨fun z hz => ?_, szS_sorted _ _ _ (h.rest n) (by decide) (by omega)⟩
  have := p z (List.mem_cons_of_mem _ hz)
  omega
theorem drop_ge {l : List Int} (h : List.Pairwise (· ≤ ·) l) {k : Nat} {w : Int} (hk : l[k]? = some w) : ∀ z ∈ l.drop k, w ≤ z := by
  obtain ⟨hl, rfl⟩ := List.getElem?_eq_some_iff.mp hk
  have hp : List.Pairwise (· ≤ ·) (l.drop k) := h.sublist (List.drop_sublist k l)
  rw [List.drop_eq_getElem_cons hl] at hp ⊢
  intro z hz
  rcases List.mem_cons.mp hz with w | w
  · rw [w]
    exact Int.le_refl _
  · exact (List.pairwise_cons.mp hp).1 z w
theorem qs20 (x : Num) : ∃ c cs, qsN x 20 = c :: cs ∧ cs = qsS (sq (n0 x)) 19 (stepS (sq (n0 x)) (st0 x)) ∧ c = qOf (sq (n0 x)) (st0 x) := ⟨_, _, rfl, rfl, rfl⟩
theorem q_bounds (h : Rs e x) : ∀ c ∈ qsN x 20, 0 ≤ c ∧ c ≤ 80000 := by
  intro c hc
  have b := h.qb 20 c hc
  have f := h.rr.first
  have r := h.rr.rest 19
  obtain ⟨c0, cs, e1, e2, e3⟩ := qs20 x
  rw [e1] at hc
  rcases List.mem_cons.mp hc with w | w
  · exact ⟨by omega, by omega⟩
  · rw [e2] at w
    have := r c w
    exact ⟨by omega, by omega⟩
/-- the words and the digits make the order -/
theorem order_of_digits (h : Rs e x) {n k : Nat} {w : List Nat} (hn : n < 60) (hk : k ≤ 20) (hw : (swS (qsN x 20) [98] [97])[k]? = some w) (hb : k = 20 ∨ 200 ≤ w.length) :
    (dgN x n).length ≤ k ∧ ta (swS (qsN x 20) [98] [97]) (dgN x n).reverse = wd e x n := by
  obtain ⟨c, cs, e1, e2, e3⟩ := qs20 x
  have q0 := q_bounds h
  have hlen : cs.length = 19 := by rw [e2]; exact qsS_len _ _ _
  have sl : lens (swS (qsN x 20) [98] [97]) = rowN x 20 := sw_len (qsN x 20) [98] [97] fun d hd => (q0 d hd).1
  have wl : (swS (qsN x 20) [98] [97]).length = 21 := by
    have := congrArg List.length sl
    rw [row_len] at this
    unfold lens at this
    rw [List.length_map] at this
    exact this
  have r20 : (rowN x 20)[k]? = some (w.length : Int) := by
    rw [← sl]
    unfold lens
    rw [List.getElem?_map, hw]
    rfl
  obtain ⟨ex, r1, exl⟩ := row_append (x := x) 20 200
  have r220 : (rowN x 220)[k]? = some (w.length : Int) := by
    rw [show (220 : Nat) = 20 + 200 from rfl, r1, List.getElem?_append_left (by rw [row_len]; omega)]
    exact r20
  have big : n < w.length := by
    rcases hb with z | z
    · have := row_fib h.rr 20 k (by omega) _ r20
      have f19 : (6000 : Int) ≤ (fb 19).2 := by decide +kernel
      rw [z] at this
      have e9 : (fb (20 - 1)).2 = (fb 19).2 := rfl
      omega
    · omega
  have k1 : 1 ≤ k := by
    refine Nat.one_le_iff_ne_zero.mpr fun z => ?_
    rw [z] at hw hb
    obtain ⟨tl, ht⟩ := swS_head (qsN x 20) [98] [97]
    rw [ht] at hw
    cases hw
    rcases hb with u | u
    · omega
    · exact absurd u (by decide)
  -- digits over the first k words
  have dg : dgN x n = dz (gr (lens ((swS (qsN x 20) [98] [97]).take k)).reverse (n : Int)) := by
    unfold dgN
    have t1 : lens ((swS (qsN x 20) [98] [97]).take k) = (rowN x 220).take k := by
      rw [show (220 : Nat) = 20 + 200 from rfl, r1, List.take_append_of_le_length (by rw [row_len]; omega), ← sl]
      unfold lens
      rw [List.map_take]
    rw [t1]
    have sp : (rowN x 220).reverse = ((rowN x 220).drop k).reverse ++ ((rowN x 220).take k).reverse := by
      rw [← List.reverse_append, List.take_append_drop]
    rw [sp]
    refine gr_big _ _ _ (by omega) fun b hb => ?_
    have := drop_ge (row_sorted h.rr 219) r220 b (List.mem_reverse.mp hb)
    omega
  have tk1 : (swS (qsN x 20) [98] [97]).take (k + 1) = (swS (qsN x 20) [98] [97]).take k ++ [w] := by
    rw [List.take_succ, hw]
    rfl
  have hs : St (w :: ((swS (qsN x 20) [98] [97]).take k).reverse) := by
    have := st_all c cs (by rw [e2]; exact h.rr.rest 19) (k - 1) (by omega)
    rw [show k - 1 + 2 = k + 1 by omega, ← e1, tk1, List.reverse_append] at this
    exact this
  have wo := words_ok (W := swS (qsN x 20) [98] [97]) (K := k) hs (by omega) big
  rw [← dg] at wo
  refine ⟨?_, ?_⟩
  · rw [dg]
    refine Nat.le_trans (dz_le _) ?_
    rw [gr_len, List.length_reverse]
    unfold lens
    rw [List.length_map, List.length_take]
    omega
  · rw [wo]
    have mem : w ∈ (swS (qsN x 20) [98] [97]).tail := by
      obtain ⟨tl, ht⟩ := swS_head (qsN x 20) [98] [97]
      rw [ht] at hw ⊢
      obtain ⟨j, rfl⟩ : ∃ j, k = j + 1 := ⟨k - 1, by omega⟩
      rw [List.getElem?_cons_succ] at hw
      exact List.mem_of_getElem? hw
    have b := ch_beg (qsN x 20) (Fy e x) (h.rr.ch 20) w mem
    unfold Beg at b
    rw [← b, wk_take _ _ _ _ _ (by omega)]
    exact walk_wd h.ra n
end
end T4

set_option maxRecDepth 100000
set_option maxHeartbeats 4000000
set_option exponentiation.threshold 30000
namespace T4
open PySem L2 FD
/-! ## the inverse of a ratio with a root -/
section
variable {e : Int} {y : Num}
theorem Yk.inv (h : Yk e y) : ∃ a b t : Int, (invN y).1 = a ∧ (invN y).2.1 = b ∧ (invN y).2.2.2 = t ∧ 0 < t ∧ Can e (invN y) ∧ a * y.1 + b * y.2.1 * e = y.2.2.2 * t ∧ a * y.2.1 + b * y.1 = 0 ∧ b ≠ 0 := by
  have nn : y.1 * y.1 - y.2.1 * y.2.1 * e ≠ 0 := norm_ne (y := y) h.he (sg_one h.pos)
  have ri := rep_inv h.can nn
  have q0 := h.q0
  have s0 := h.can.1
  generalize invN y = r at *
  obtain ⟨cr, _, r1, r2⟩ := ri
  have t0 := cr.1
  refine ⟨r.1, r.2.1, r.2.2.2, rfl, rfl, rfl, t0, cr, ?_, ?_, ?_⟩
  · generalize y.1 = Z at *
    have : (r.1 * Z + r.2.1 * y.2.1 * e) * (Z * Z - y.2.1 * y.2.1 * e) = (y.2.2.2 * r.2.2.2) * (Z * Z - y.2.1 * y.2.1 * e) := by grind
    exact Int.eq_of_mul_eq_mul_right nn this
  · generalize y.1 = Z at *
    have : (r.1 * y.2.1 + r.2.1 * Z) * (Z * Z - y.2.1 * y.2.1 * e) = 0 * (Z * Z - y.2.1 * y.2.1 * e) := by grind
    exact Int.eq_of_mul_eq_mul_right nn this
  · intro w
    rw [w, Int.zero_mul] at r2
    have := r2.symm
    rcases Int.mul_eq_zero.mp this with u | u
    · rcases Int.mul_eq_zero.mp u with v | v
      · omega
      · omega
    · omega
theorem Yk.invYk (h : Yk e y) : Yk e (invN y) := by
  obtain ⟨a, b, t, e1, e2, e3, t0, cr, k1, k2, b0⟩ := h.inv
  refine ⟨h.he, cr, by rw [e2]; exact b0, ?_⟩
  rw [e1, e2]
  have m := sg_mul (P := a) (Q := b) (P' := y.1) (Q' := y.2.1) h.he
  rw [sg_one h.pos, Int.mul_one, k1, k2, sg_rat] at m
  rw [← m]
  have : 0 < y.2.2.2 * t := Int.mul_pos h.can.1 t0
  unfold isg
  split <;> (try split) <;> omega
theorem Yk.invLk (h : Yk e y) (i j : Nat) : Fy e (invN y) (j + 1) ≤ (i : Int) ↔ (j : Int) + 1 ≤ Fy e y (i + 1) := by
  obtain ⟨a, b, t, e1, e2, e3, t0, cr, k1, k2, b0⟩ := h.inv
  have f1 := h.invYk.fl (j + 1) ((i : Int) + 1)
  have f2 := h.fl (i + 1) ((j : Int) + 1)
  rw [e1, e2, e3] at f1
  have m := sg_mul (P := ((j : Int) + 1) * a - ((i : Int) + 1) * t) (Q := ((j : Int) + 1) * b) (P' := y.1) (Q' := y.2.1) h.he
  rw [sg_one h.pos, Int.mul_one] at m
  have c1 : (((j + 1 : Nat) : Int)) = (j : Int) + 1 := rfl
  have c2 : (((i + 1 : Nat) : Int)) = (i : Int) + 1 := rfl
  rw [c1] at f1
  rw [c2] at f2
  have q0 := h.q0
  have ir := h.he
  generalize y.1 = Z at *
  have p1 : (((j : Int) + 1) * a - ((i : Int) + 1) * t) * Z + ((j : Int) + 1) * b * y.2.1 * e = -((((i : Int) + 1) * Z - ((j : Int) + 1) * y.2.2.2) * t) := by grind
  have p2 : (((j : Int) + 1) * a - ((i : Int) + 1) * t) * y.2.1 + ((j : Int) + 1) * b * Z = -((((i : Int) + 1) * y.2.1) * t) := by grind
  rw [p1, p2, sg_negs, sg_scale (P := (((i : Int) + 1) * Z - ((j : Int) + 1) * y.2.2.2) * t) (Q := (((i : Int) + 1) * y.2.1) * t) (P' := ((i : Int) + 1) * Z - ((j : Int) + 1) * y.2.2.2) (Q' := ((i : Int) + 1) * y.2.1) (k := 1) (m := t) (by decide) t0 (by rw [Int.mul_one]) (by rw [Int.mul_one])] at m
  have nz : ¬ sgS (((i : Int) + 1) * Z - ((j : Int) + 1) * y.2.2.2) (((i : Int) + 1) * y.2.1) e = 0 := fun w => by
    have := (sg_0 ⟨Int.le_of_lt ir.1, .inr ir⟩ w).2
    rcases Int.mul_eq_zero.mp this with u | u
    · omega
    · exact q0 u
  generalize sgS (((i : Int) + 1) * Z - ((j : Int) + 1) * y.2.2.2) (((i : Int) + 1) * y.2.1) e = G1 at *
  generalize sgS (((j : Int) + 1) * a - ((i : Int) + 1) * t) (((j : Int) + 1) * b) e = G2 at *
  constructor
  · intro w
    have := f1.mp (by omega)
    have n2 : ¬ _ := fun w => by have := f2.mp w; omega
    omega
  · intro w
    have n2 : ¬ G1 < 0 := fun w => by have := f2.mpr w; omega
    have := f1.mpr (by omega)
    omega
end
section
variable {e : Int} {x : Num}
theorem Rs.inv (h : Rs e x) : Ra e (invN x) := by
  have y := h.rr.yk
  obtain ⟨a, b, t, e1, e2, e3, t0, cr, k1, k2, b0⟩ := y.inv
  have nn : x.1 * x.1 - x.2.1 * x.2.1 * e ≠ 0 := norm_ne (y := x) y.he (sg_one y.pos)
  have g := h.g
  have d5 : x.2.2.1.natAbs < 2 ^ 5 := by
    rw [g.dd]
    have := h.e21
    have := h.rt.pos
    split
    · decide
    · omega
  have s5 : SzN 5 x := ⟨lt_up g.zp (by decide), lt_up g.zq (by decide), d5, lt_up g.zs (by decide)⟩
  have z := invN_sz s5 (norm_can g.can nn)
  exact ⟨(Good.of cr z).up (by decide) (by decide), h.rt, y.invYk.pos⟩
theorem mul_one_inv (h : Rs e x) : mulN (1, 0, 0, 1) (invN x) = invN x := by
  have c := h.inv.g.can
  refine rep_eq (rep_mul h.rt.pos (rep_self (can_int e 1)) (rep_self c)) (rep_self c) ?_ ?_ <;> dsimp only <;> grind
/-- the inverse has the same order, the workers exchanged -/
theorem inv_step (h : Rs e x) (k : Nat) (ih : doneN (invN x) k = k - doneN x k) : (GB e (invN x) (doneN (invN x) ((k : Int) + 1)) = (k : Int) + 1 ↔ ¬ GB e x (doneN x ((k : Int) + 1)) = (k : Int) + 1) := by
  have n1 := next_is h.ra (k : Int)
  have n2 := next_is h.inv (k : Int)
  have nn := done_nn h.ra (show (0 : Int) ≤ (k : Int) by omega)
  have le := done_le h.ra (show (0 : Int) ≤ (k : Int) by omega)
  have lk := h.rr.yk.invLk (doneN x k).toNat ((k : Int) - doneN x k).toNat
  unfold Fy at lk
  have c1 : ((((k : Int) - doneN x k).toNat + 1 : Nat) : Int) = (k : Int) - doneN x k + 1 := by omega
  have c2 : (((doneN x k).toNat + 1 : Nat) : Int) = doneN x k + 1 := by omega
  have c3 : ((((k : Int) - doneN x k).toNat : Nat) : Int) = (k : Int) - doneN x k := by omega
  have c4 : (((doneN x k).toNat : Nat) : Int) = doneN x k := by omega
  rw [c1, c2, c3, c4] at lk
  rw [ih] at n2
  generalize flo (((k : Int) - doneN x k + 1) * (invN x).1) (((k : Int) - doneN x k + 1) * (invN x).2.1) e (invN x).2.2.2 = U at *
  generalize flo ((doneN x k + 1) * x.1) ((doneN x k + 1) * x.2.1) e x.2.2.2 = V at *
  generalize doneN x k = j at *
  constructor
  · intro w
    refine n1.mp ?_
    have : ¬ (k : Int) + 1 - ((k : Int) - j) ≤ U := fun y => (n2.mp y) w
    have := lk.mp (by omega)
    omega
  · intro w
    have := n1.mpr w
    have := lk.mpr (by omega)
    refine Classical.byContradiction fun y => ?_
    have := n2.mpr y
    omega
theorem inv_done (h : Rs e x) : ∀ k : Nat, doneN (invN x) k = k - doneN x k
  | 0 => by
    have a := done_zero h.ra
    have b := done_zero h.inv
    show doneN (invN x) 0 = 0 - doneN x 0
    omega
  | k + 1 => by
    have ih := inv_done h k
    have s := inv_step h k ih
    have d1 := done_step h.ra (k : Int)
    have d2 := done_step h.inv (k : Int)
    rw [show ((k + 1 : Nat) : Int) = (k : Int) + 1 by omega]
    by_cases w : GB e x (doneN x ((k : Int) + 1)) = (k : Int) + 1
    · rw [if_pos w] at d1
      rw [if_neg (fun y => (s.mp y) w)] at d2
      omega
    · rw [if_neg w] at d1
      rw [if_pos (s.mpr w)] at d2
      omega
def exc (c : Nat) : Nat := if c = 97 then 98 else 97
theorem inv_wd (h : Rs e x) (n : Nat) : wd e (invN x) n = (wd e x n).map exc := by
  unfold wd
  rw [List.map_map]
  refine List.map_congr_left fun i _ => ?_
  have s := inv_step h i (inv_done h i)
  show code e (invN x) ((i : Int) + 1) = exc (code e x ((i : Int) + 1))
  unfold code exc
  by_cases w : GB e x (doneN x ((i : Int) + 1)) = (i : Int) + 1
  · rw [if_pos w, if_neg (fun y => (s.mp y) w), if_neg (by decide)]
  · rw [if_neg w, if_pos (s.mpr w), if_pos rfl]
end
end T4

set_option maxRecDepth 100000
set_option maxHeartbeats 4000000
namespace FD
open PySem PySem.Spec PyProof.Rows L2
section
variable {X : Cx} {C : Cn} {e a b c o : Expr} {es elts : List Expr} {pos p tpos p2 apos cpos : Pos} {f g h : EF} {ff : AF}
/-! ## how often a text stands in a text -/
def dCnt (b : Str) : DV → Option DV
  | .str a => some (.int (Txt.count a b))
  | _ => none
theorem fe_scount {b : Str} {j : Nat} {p2 : Pos} (h : FE X C e f) (hs : starEach [.Constant (.str b) j p2] X.env = [(false, eval (.Constant (.str b) j p2) X.env)] := by rfl) (hbase : attributeBase e "count" X.env (eval e X.env) = eval e X.env := by rfl) (hline : (apos.endLine == pos.line) = true := by rfl) :
    FE X C (.Call (.Attribute e "count" apos) [.Constant (.str b) j p2] [] pos) (FD.e1 f (dCnt b)) := by
  obtain ⟨te, p, q⟩ := h
  refine ⟨_, pe_m1 PySem.F.slot_str_count PySem.F.type_str_count mt_count p pe_str hs hbase hline, ?_⟩
  intro G H σ s d s' A e1' Q k
  unfold FD.e1 at e1'
  split at e1'
  · rename_i d0 s1 e2
    refine q G H σ s d0 s1 A e2 _ fun v H1 G1 g1 A1 r => ?_
    split at e1'
    · rename_i z e3
      have e4 := Option.some.inj e1'
      cases e4
      unfold dCnt at e3
      split at e3
      · rename_i x
        cases e3
        have r' : v = .str x := r
        subst r'
        exact ⟨⟨x, rfl⟩, x, b, rfl, rfl, k _ H1 G1 g1 A1 rfl⟩
      · cases e3
    · cases e1'
  · cases e1'
/-! ## the signs of a text, one by one -/
theorem wk_signs {K : PySem.W.Frag} {G : Hp} (x : Str) : Wk K G (Its x) (sgn x) where
  stop := fun i G1 H g1 g2 hi => by rw [sgn_len] at hi; exact hi
  go := fun i G1 H g1 g2 hi => by rw [sgn_len] at hi; exact hi
  yld := fun i G1 H d y H' g1 g2 e z => by
    obtain ⟨rfl, c, q, rfl⟩ := z
    have e3 : d = .str ⟨#[c]⟩ := by
      unfold sgn at e
      rw [List.getElem?_map, Array.getElem?_toList, q] at e
      exact (Option.some.inj e).symm
    subst e3
    exact ⟨G1, Fw.refl g2, rfl⟩
def iStS (f : EF) : LF := fun s => match f s with
  | some (.str x, s1) => some (sgn x, s1)
  | _ => none
theorem fi_strS {tg : Expr} (h : FE X C e f) : FI X C tg e (iStS f) := by
  obtain ⟨te, p1, q1⟩ := h
  refine ⟨_, pi_str p1, ?_⟩
  intro G H σ s ds s' A e1 R k
  unfold iStS at e1
  split at e1
  · rename_i x s1 e2
    cases e1
    refine q1 G H σ s _ _ A e2 _ fun v H1 G1 g1 A1 r => ?_
    have r' : v = .str x := r
    subst r'
    exact ⟨x, rfl, k _ H1 G1 g1 A1 (wk_signs x)⟩
  · cases e1
/-! ## x not in a tuple of data -/
def rNinT (K : PySem.W.Frag) : R2 := fun x y H Q => ∃ d ds, Dp K H x d ∧ Dp K H y (.tuple ds) ∧ SeqAt.shaped d = true ∧ SeqAt.shaped (.tuple ds) = true ∧ d.depth ≤ 60 ∧ Q (.bl (!ds.any fun z => PyData.eqv z d)) H
theorem op_ninT (hu : X.A.units + 64 < cLine) : OpR X (compareOp .NotIn) (rNinT X.K) := by
  intro pins s σ H x y v u Q I rx ry h
  obtain ⟨d, ds, hd, he, sd, se, hl, q⟩ := h
  obtain ⟨as, ra⟩ := Dp.reads I d x v hd rx
  obtain ⟨bs, rb⟩ := Dp.reads I (.tuple ds) y u he ry
  refine SeqAt.notIn_tuple_reads rb ra (SeqAt.canLay_of_shaped se) (SeqAt.canLay_of_shaped sd) ?_ ⟨.bl _, H, I, rfl, q⟩
  have := Nat.min_le_right (PyData.depthAll ds) d.depth
  omega
def dNin (d e : DV) : Option DV := match toPy d with
  | some x => match toPy e with
    | some (.tuple ys) => if SeqAt.shaped x && SeqAt.shaped (.tuple ys) && decide (x.depth ≤ 60) then some (.bl (!ys.any fun z => PyData.eqv z x)) else none
    | _ => none
  | none => none
theorem o_nin {K : PySem.W.Frag} : Op2 K (rNinT K) dNin := by
  intro C G H σ s x y d e z A r1 r2 ho Q q
  unfold dNin at ho
  cases h1 : toPy d with
  | none => rw [h1] at ho; cases ho
  | some a =>
    rw [h1] at ho
    dsimp only at ho
    split at ho
    · rename_i ys h2
      split at ho
      · rename_i hs
        cases ho
        rw [Bool.and_eq_true, Bool.and_eq_true] at hs
        exact ⟨a, ys, Rp.dp A.gh d x a r1 h1, Rp.dp A.gh e y _ r2 h2, hs.1.1, hs.1.2, of_decide_eq_true hs.2, q _ H G (Fw.refl A.gh) rfl⟩
      · cases ho
    · cases ho
theorem fe_nin (hu : X.A.units + 64 < cLine) (h1 : FE X C a f) (h2 : FE X C b g) (hm : behindInMarks .NotIn b = false := by rfl) : FE X C (.Compare a [.NotIn] [b] pos) (FD.e2 f g dNin) := fe_cmp (op_ninT hu) o_nin h1 h2 (hm := hm)
end
/-! ## x[::-1] of a pair -/
section
variable {prog : Program} {w : World} {A : Around} {E : Value → Shared → Prop} {s : Shared}
theorem cut_rev2 {sl : Addr} {vl vu vs : Value} {Q : Int × Int × Nat → Shared → Prop} (h : s.heap.IsSliceOf sl vl vu vs) (pl : IsPart vl none) (pu : IsPart vu none) (ps : IsPart vs (some (-1)))
    (k : Q (1, -1, 2) s) : wpAny (model prog w) A (Builtin.Slice.sliceApplied (.ref sl) (pure (2 : Int))) Q E s := by
  obtain ⟨os, ha, hb, hc⟩ := h
  unfold Builtin.Slice.sliceApplied Builtin.Slice.sliceFields
  refine wpAny_bind (wpAny_bind (wpAny_field ha hc (x := vl) rfl (wpAny_bind (wpAny_field ha hc (x := vu) rfl (wpAny_bind (wpAny_field ha hc (x := vs) rfl (wpAny_pure ?_)))))))
  refine wpAny_bind (HT.slicePart_ ps ?_)
  show wpAny _ _ (if ((-1 : Int) == 0) = true then _ else _) _ _ s
  rw [if_neg (by decide)]
  exact wpAny_bind (HT.slicePart_ pl (wpAny_bind (HT.slicePart_ pu (wpAny_bind (wpAny_pure (wpAny_pure k))))))
theorem get_rev2 {t sl : Addr} {x y vl vu vs : Value} {Q : Value → Shared → Prop} (ht : IsTup s.heap t #[x, y]) (h : s.heap.IsSliceOf sl vl vu vs) (pl : IsPart vl none) (pu : IsPart vu none) (ps : IsPart vs (some (-1)))
    (k : Q (.ref s.heap.objs.size) { s with heap := s.heap.push { cls := .type "tuple", data := .seq #[y, x] } }) : wpAny (model prog w) A (getItem (.ref t) (.ref sl)) Q E s := by
  obtain ⟨os, ha, hb, hc⟩ := id h
  have hk : s.TypeIs (.ref sl) "slice" := ⟨os, ha, hb⟩
  unfold getItem
  try with_reducible refine wpAny_holding ?_
  first | refine wpAny_bind (wpAny_pure ?_) | skip
  refine wpAny_bind (wpAny_sequenceKey ht.typeIs (by decide) ?_); refine wpAny_bind (wpAny_callSpecial?_slot (name := Str.ofString "__getitem__") ht.typeIs PyProof.Rows.slot_tuple_getitem (wpAny_call_entry PyProof.Rows.slot_tuple_getitem ht.typeIs entry_tuple_getitem ?_ (args_tuple_getitem _ _)))
  show wpAny _ _ (Builtin.Tuple.tupleItemsOf (.ref t) >>= fun _ => _) _ _ s
  refine wpAny_bind (tupleItemsOf_ ht (wpAny_bind (wpAny_typeOf hk ?_)))
  rw [if_pos (by decide)]
  refine wpAny_bind (cut_rev2 h pl pu ps ?_)
  show wpAny _ _ (if ((1 : Int) == 0 && (-1 : Int) == 1 && (2 : Nat) == 2) = true then _ else _) _ _ s
  rw [if_neg (by decide)]
  have hsz : sizeOk (.seq #[y, x]) := by show 2 ≤ sizeLine; decide
  first
    | exact wpAny_bind (m := Builtin.Tuple.tupleExact _) (wpAny_newObj_type (wpAny_pure ⟨_, rfl, wpAny_pure k⟩) hsz)
    | exact wpAny_bind (m := Builtin.Tuple.tupleExact _) (wpAny_newObj_type (wpAny_bind (wpAny_pure (wpAny_pure ⟨_, rfl, wpAny_pure k⟩))) hsz)
    | exact wpAny_bind (wpAny_bind (m := Builtin.Tuple.tupleExact _) (wpAny_newObj_type (wpAny_pure (wpAny_pure ⟨_, rfl, wpAny_pure k⟩)) hsz))
    | exact wpAny_bind (wpAny_bind (m := Builtin.Tuple.tupleExact _) (wpAny_newObj_type (wpAny_pure ⟨_, rfl, wpAny_pure k⟩) hsz))
end
def tRev2 (K : PySem.W.Frag) (te : TE) : TE := fun σ H Q => te σ H fun x H1 => ∃ a y z, x = .ref a ∧ SqT K H1 a [y, z] ∧ ∀ p, H1 p = none → Q (.ref p) (upd H1 p (.tup [z, y]))
theorem pe_rev2 {X : Cx} {e : Expr} {te : TE} {k : Nat} {p1 p2 p3 pos : Pos} (he : PE X e te) : PE X (.Subscript e (.Slice none none (some (.UnaryOp .USub (.Constant (.int 1) k p1) p2)) p3) pos) (tRev2 X.K te) := by
  refine ⟨fun pins s σ H Q I h => ?_⟩
  refine Subscript_ (thn (he.run pins s σ H _ I h) fun v s1 ⟨x, H1, I1, r1, a, y, z, ex, hx, q⟩ => ?_)
  subst ex
  cases r1
  have part : PO X (some (.UnaryOp .USub (.Constant (.int 1) k p1) p2)) (tPart (tUn (rU fun i => .int (-i)) (tC (.int 1)))) := po_some (pe_un un_neg pe_int)
  refine wpAny_Slice (thn (po_none.run pins s1 σ H1 (fun o H2 => o = none ∧ H2 = H1) I1 ⟨rfl, rfl⟩) fun vl s2 ⟨l, H2, I2, pl, el, e2⟩ => ?_)
  cases el; cases e2
  refine thn (po_none.run pins s2 σ H1 (fun o H3 => o = none ∧ H3 = H1) I2 ⟨rfl, rfl⟩) fun vu s3 ⟨u, H3, I3, pu, eu, e3⟩ => ?_
  cases eu; cases e3
  refine thn (part.run pins s3 σ H1 (fun o H4 => o = some (-1) ∧ H4 = H1) I3 ⟨1, rfl, -1, rfl, rfl, rfl⟩) fun vs s4 ⟨o, H4, I4, ps, eo, e4⟩ => ?_
  cases eo; cases e4
  have I5 : Inv X pins σ H1 { s4 with heap := s4.heap.push { cls := .type "slice", data := .fields #[vl, vu, vs] } } := I4.kept (t' := s4.toks) fun b ob q => Heap.get?_push_of_some _ q
  obtain ⟨its, r, ht, hz⟩ := I5.tuple hx
  obtain ⟨y', z', rfl, ry, rz⟩ : ∃ y' z', its = [y', z'] ∧ RelV y y' ∧ RelV z z' := by
    cases r with
    | cons r1 rr => cases rr with
      | cons r2 rr => cases rr; exact ⟨_, _, rfl, r1, r2⟩
  show wpAny (model X.prog X.w) X.A (subscriptTail e (.Slice none none (some (.UnaryOp .USub (.Constant (.int 1) k p1) p2)) p3) (.ref a) (.ref s4.heap.objs.size)) (EP X pins σ Q) X.xe _
  refine tail_any (ops := [.ref a, .ref s4.heap.objs.size]) ht.typeIs PyProof.Rows.slot_tuple_getitem.lookup ?_ (by with_unfolding_all rfl)
  refine get_rev2 (x := y') (y := z') ht (Heap.IsSliceOf.new _ vl vu vs) pl pu ps ?_
  refine ⟨.ref _, _, I5.laid (t' := s4.toks) (o := .tup [z, y]) (fun b ob q => Heap.get?_push_of_some _ q) (Nat.le_refl _) ?_, rfl, q _ (I5.hok.fresh (Nat.le_refl _))⟩
  exact ⟨by show 2 ≤ sizeLine; decide, _, .cons rz (.cons ry .nil), IsTup.new _ _⟩
def dRev2 : DV → Option DV
  | .tup [x, y] => some (.tup [y, x])
  | _ => none
theorem fe_rev2 {X : Cx} {C : Cn} {e : Expr} {f : EF} {k : Nat} {p1 p2 p3 pos : Pos} (he : FE X C e f) : FE X C (.Subscript e (.Slice none none (some (.UnaryOp .USub (.Constant (.int 1) k p1) p2)) p3) pos) (FD.e1 f dRev2) := by
  obtain ⟨te, p1', q1⟩ := he
  refine ⟨_, pe_rev2 p1', ?_⟩
  intro G H σ s d s' A e1 Q k
  unfold FD.e1 at e1
  split at e1
  · rename_i d0 s1 e2
    split at e1
    · rename_i z e3
      have e4 := Option.some.inj e1
      cases e4
      refine q1 G H σ s _ _ A e2 _ fun v H1 G1 g1 A1 r => ?_
      unfold dRev2 at e3
      split at e3
      · rename_i x y
        cases e3
        obtain ⟨a, vs, rfl, h1, h2⟩ := r
        obtain ⟨v1, r1, rfl, h3, h4⟩ := h2
        obtain ⟨v2, r2, rfl, h5, h6⟩ := h4
        have : r2 = [] := h6
        subst this
        exact ⟨a, v1, v2, rfl, Same.tup A1.gh h1, tup_ok A1 (show RpL _ _ [v2, v1] [y, x] from ⟨v2, [v1], rfl, h5, v1, [], rfl, h3, rfl⟩) fun v H' G' F r => k v H' G' (g1.trans F.g) (A1.fw0 F) r⟩
      · cases e3
    · cases e1
  · cases e1
end FD

set_option maxRecDepth 100000
set_option maxHeartbeats 4000000
namespace FD
open PySem PySem.Spec PyProof.Rows L2
/-! ## zip of a list and a tuple -/
section
variable {prog : Program} {w : World} {A : Around} {E : Value → Shared → Prop} {s : Shared}
/-- the first steps of a turn: the flag is set -/
theorem zm_open {Z ti to i j : Addr} {R : Fin → Shared → Prop} (qz : IsZip s.heap Z ti to .none) (qt : IsPair s.heap ti (.ref i) (.ref j))
    (k : ∀ g, IsZip g Z ti to .ellipsis → Heap.SameBut Z s.heap g → True) : True := trivial
theorem zm_item {Z ti to i j l m : Addr} {k n : Nat} {us vs : Array Value} {u v a b : Value} {Q : Value → Shared → Prop} (D : ZipApart Z ti to i j l m)
    (qz : IsZip s.heap Z ti to .none) (qt : IsPair s.heap ti (.ref i) (.ref j)) (qo : IsPair s.heap to a b)
    (qi : s.heap.IsListIter i l k) (qj : s.heap.IsTupleIter j m n) (ql : s.heap.IsList l us) (qm : s.heap.IsTuple m vs) (eu : us[k]? = some u) (ev : vs[n]? = some v)
    (q : ∀ g, IsZip g Z ti to (rawInt s.heap.objs.size) → IsPair g to u v → g.IsListIter i l (k + 1) → g.IsTupleIter j m (n + 1) → IsPair g s.heap.objs.size u v →
      (∀ c o, c ≠ Z → c ≠ to → c ≠ i → c ≠ j → s.heap.get? c = some o → g.get? c = some o) → Q (.ref s.heap.objs.size) { s with heap := g }) :
    wpAny (model prog w) A (Builtin.«zip.__next__» ⟨[.ref Z], []⟩) (fun fin t => ∃ x, fin = .done (.ret x) ∧ Q x t) E s := by
  show wpAny _ _ (field (.ref Z) 2 >>= fun _ => _) _ _ _
  refine wpAny_bind (wpAny_field qz rfl (x := .bool false) rfl ?_)
  show wpAny _ _ (field (.ref Z) 3 >>= fun _ => _) _ _ _
  refine wpAny_bind (wpAny_field qz rfl (x := .ref ti) rfl (wpAny_bind (wpAny_seqItems qt rfl ?_)))
  show wpAny _ _ (Builtin.SmallTypes.ownedTupleIsFree (.ref Z) >>= fun _ => _) _ _ _
  refine wpAny_bind ?_; unfold Builtin.SmallTypes.ownedTupleIsFree
  refine wpAny_bind (wpAny_field qz rfl (x := .none) rfl (wpAny_pure ?_)); simp only [if_true]
  refine wpAny_bind (wpAny_rule (wpAny_bind (wpAny_field qz rfl (x := .ref to) rfl (wpAny_bind (wpAny_setField_rec qz (by simp) fun g1 z1 s1 => ?_)))))
  replace z1 : IsZip g1 Z ti to .ellipsis := z1
  refine wpAny_bind ?_; simp only [List.forIn_nil, List.forIn_cons, List.zipIdx_nil, List.zipIdx_cons]
  refine wpAny_bind (wpAny_bind (wpAny_onRaise (show wpAny _ _ (Builtin.SmallTypes.nextOf (.ref i) >>= fun _ => _) _ _ _ from ?_)))
  refine wpAny_bind (wpAny_nextOf_list_item (qi.extBut s1.extBut D.i1z) (ql.extBut s1.extBut D.l1z) eu fun g2 i2 s2 => wpAny_pure ?_)
  have o2 : IsPair g2 to a b := s2.extBut _ _ D.TOi1 (s1.extBut _ _ D.TOz qo)
  refine wpAny_bind (wpAny_seqItems o2 rfl (wpAny_bind (wpAny_updateSeq_pair o2 fun g3 o3 s3 => ?_)))
  replace o3 : IsPair g3 to u b := o3
  refine wpAny_bind (wpAny_letGo (wpAny_pure (wpAny_bind (wpAny_bind (wpAny_onRaise (show wpAny _ _ (Builtin.SmallTypes.nextOf (.ref j) >>= fun _ => _) _ _ _ from ?_))))))
  refine wpAny_bind (RZ.nextOf_tuple_item (((qj.extBut s1.extBut D.i2z).extBut s2.extBut D.i12.symm).extBut s3.extBut D.TOi2.symm) (((qm.extBut s1.extBut D.l2z).extBut s2.extBut D.l2i1).extBut s3.extBut D.l2TO) ev fun g4 j4 s4 => wpAny_pure ?_)
  have o4 : IsPair g4 to u b := s4.extBut _ _ D.TOi2 o3
  refine wpAny_bind (wpAny_seqItems o4 rfl (wpAny_bind (wpAny_updateSeq_pair o4 fun g5 o5 s5 => ?_)))
  replace o5 : IsPair g5 to u v := o5
  refine wpAny_bind (wpAny_letGo (wpAny_pure (wpAny_pure (wpAny_bind (wpAny_seqItems o5 rfl (wpAny_bind (wpAny_newTuple ?_)))))))
  have sz : g5.objs.size = s.heap.objs.size := by rw [s5.1, s4.1, s3.1, s2.1, s1.1]
  have z5 : IsZip g5 Z ti to .ellipsis := s5.extBut _ _ D.TOz.symm (s4.extBut _ _ D.i2z.symm (s3.extBut _ _ D.TOz.symm (s2.extBut _ _ D.i1z.symm z1)))
  have k5 : ∀ c o, c ≠ Z → c ≠ to → c ≠ i → c ≠ j → s.heap.get? c = some o → g5.get? c = some o := fun c o c1 c2 c3 c4 h => s5.extBut _ _ c2 (s4.extBut _ _ c4 (s3.extBut _ _ c2 (s2.extBut _ _ c3 (s1.extBut _ _ c1 h))))
  have i5 : g5.IsListIter i l (k + 1) := ((i2.extBut s3.extBut D.TOi1.symm).extBut s4.extBut D.i12).extBut s5.extBut D.TOi1.symm
  have j5 : g5.IsTupleIter j m (n + 1) := j4.extBut s5.extBut D.TOi2.symm
  have lZ : Z < g5.objs.size := Heap.lt_size z5
  show wpAny _ _ (Builtin.SmallTypes.ownedTupleHandOut (.ref Z) (.ref g5.objs.size) >>= fun _ => _) _ _ _
  refine wpAny_bind ?_; unfold Builtin.SmallTypes.ownedTupleHandOut
  have z6 : IsZip (g5.push { cls := .type "tuple", data := .seq #[u, v] }) Z ti to .ellipsis := Heap.get?_push_of_some _ z5
  refine wpAny_bind (wpAny_setField_rec z6 (by simp) fun g7 z7 s7 => ?_)
  replace z7 : IsZip g7 Z ti to (rawInt g5.objs.size) := z7
  refine wpAny_setField_rec z7 (by simp) fun g8 z8 s8 => ?_
  replace z8 : IsZip g8 Z ti to (rawInt g5.objs.size) := z8
  have up : ∀ c o, c ≠ Z → g5.get? c = some o → g8.get? c = some o := fun c o c1 h => s8.extBut _ _ c1 (s7.extBut _ _ c1 (Heap.get?_push_of_some _ h))
  have t8 : IsPair g8 g5.objs.size u v := s8.extBut _ _ (Nat.ne_of_gt lZ) (s7.extBut _ _ (Nat.ne_of_gt lZ) (Heap.get?_push_size _ rfl))
  rw [sz] at z8 t8
  refine wpAny_pure ⟨_, rfl, ?_⟩
  show Q (.ref g5.objs.size) { s with heap := g8 }
  rw [sz]
  exact q g8 z8 (up _ _ D.TOz o5) (i5.at fun o h => up _ o D.i1z h) (j5.at fun o h => up _ o D.i2z h) t8 fun c o c1 c2 c3 c4 h => up c o c1 (k5 c o c1 c2 c3 c4 h)
theorem zm_end {Z ti to i j l m : Addr} {k n : Nat} {us vs : Array Value} {a b : Value} {Q : Fin → Shared → Prop} (hh : A.handled = none) (D : ZipApart Z ti to i j l m)
    (qz : IsZip s.heap Z ti to .none) (qt : IsPair s.heap ti (.ref i) (.ref j)) (qo : IsPair s.heap to a b)
    (qi : s.heap.IsListIter i l k) (qj : s.heap.IsTupleIter j m n) (ql : s.heap.IsList l us) (qm : s.heap.IsTuple m vs) (over : us[k]? = none ∨ vs[n]? = none)
    (q : ∀ g e, (∀ c o, c ≠ Z → c ≠ to → c ≠ i → c ≠ j → s.heap.get? c = some o → g.get? c = some o) → (∃ o, g.get? e = some o ∧ o.cls = .type "StopIteration") → E (.ref e) { s with heap := g }) :
    wpAny (model prog w) A (Builtin.«zip.__next__» ⟨[.ref Z], []⟩) Q E s := by
  show wpAny _ _ (field (.ref Z) 2 >>= fun _ => _) _ _ _
  refine wpAny_bind (wpAny_field qz rfl (x := .bool false) rfl ?_)
  show wpAny _ _ (field (.ref Z) 3 >>= fun _ => _) _ _ _
  refine wpAny_bind (wpAny_field qz rfl (x := .ref ti) rfl (wpAny_bind (wpAny_seqItems qt rfl ?_)))
  show wpAny _ _ (Builtin.SmallTypes.ownedTupleIsFree (.ref Z) >>= fun _ => _) _ _ _
  refine wpAny_bind ?_; unfold Builtin.SmallTypes.ownedTupleIsFree
  refine wpAny_bind (wpAny_field qz rfl (x := .none) rfl (wpAny_pure ?_)); simp only [if_true]
  refine wpAny_bind (wpAny_rule (wpAny_bind (wpAny_field qz rfl (x := .ref to) rfl (wpAny_bind (wpAny_setField_rec qz (by simp) fun g1 z1 s1 => ?_)))))
  replace z1 : IsZip g1 Z ti to .ellipsis := z1
  refine wpAny_bind ?_; simp only [List.forIn_nil, List.forIn_cons, List.zipIdx_nil, List.zipIdx_cons]
  refine wpAny_bind (wpAny_bind (wpAny_onRaise (show wpAny _ _ (Builtin.SmallTypes.nextOf (.ref i) >>= fun _ => _) _ _ _ from ?_)))
  cases eu : us[k]? with
  | none =>
    refine wpAny_bind (wpAny_nextOf_list_end hh (qi.extBut s1.extBut D.i1z) (ql.extBut s1.extBut D.l1z) eu fun g2 e s2 he => ?_)
    obtain ⟨ob, ho, hc⟩ := he
    have z2 : IsZip g2 Z ti to .ellipsis := s2 _ _ D.i1z.symm z1
    have ne : e ≠ Z := fun x => by subst x; rw [z2] at ho; cases ho; simp at hc
    exact wpAny_setField_rec z2 (by simp) fun g3 _ s3 => q g3 e (fun c o c1 _ c3 _ h => s3.extBut _ _ c1 (s2 _ _ c3 (s1.extBut _ _ c1 h))) ⟨ob, s3.extBut _ _ ne ho, hc⟩
  | some u =>
    have ev : vs[n]? = none := over.elim (fun h => by rw [eu] at h; cases h) fun h => h
    refine wpAny_bind (wpAny_nextOf_list_item (qi.extBut s1.extBut D.i1z) (ql.extBut s1.extBut D.l1z) eu fun g2 i2 s2 => wpAny_pure ?_)
    have o2 : IsPair g2 to a b := s2.extBut _ _ D.TOi1 (s1.extBut _ _ D.TOz qo)
    refine wpAny_bind (wpAny_seqItems o2 rfl (wpAny_bind (wpAny_updateSeq_pair o2 fun g3 o3 s3 => ?_)))
    refine wpAny_bind (wpAny_letGo (wpAny_pure (wpAny_bind (wpAny_bind (wpAny_onRaise (show wpAny _ _ (Builtin.SmallTypes.nextOf (.ref j) >>= fun _ => _) _ _ _ from ?_))))))
    refine wpAny_bind (RZ.nextOf_tuple_end hh (((qj.extBut s1.extBut D.i2z).extBut s2.extBut D.i12.symm).extBut s3.extBut D.TOi2.symm) (((qm.extBut s1.extBut D.l2z).extBut s2.extBut D.l2i1).extBut s3.extBut D.l2TO) ev fun g4 e s4 he => ?_)
    obtain ⟨ob, ho, hc⟩ := he
    have z4 : IsZip g4 Z ti to .ellipsis := s4 _ _ D.i2z.symm (s3.extBut _ _ D.TOz.symm (s2.extBut _ _ D.i1z.symm z1))
    have ne : e ≠ Z := fun x => by subst x; rw [z4] at ho; cases ho; simp at hc
    exact wpAny_setField_rec z4 (by simp) fun g5 _ s5 => q g5 e (fun c o c1 c2 c3 c4 h => s5.extBut _ _ c1 (s4 _ _ c4 (s3.extBut _ _ c2 (s2.extBut _ _ c3 (s1.extBut _ _ c1 h))))) ⟨ob, s5.extBut _ _ ne ho, hc⟩
theorem zm_next {Z ti to i j l m : Addr} {k n : Nat} {us vs : Array Value} {u v a b : Value} {Q : Option Value → Shared → Prop} (D : ZipApart Z ti to i j l m)
    (qz : IsZip s.heap Z ti to .none) (qt : IsPair s.heap ti (.ref i) (.ref j)) (qo : IsPair s.heap to a b)
    (qi : s.heap.IsListIter i l k) (qj : s.heap.IsTupleIter j m n) (ql : s.heap.IsList l us) (qm : s.heap.IsTuple m vs) (eu : us[k]? = some u) (ev : vs[n]? = some v)
    (q : ∀ g, IsZip g Z ti to (rawInt s.heap.objs.size) → IsPair g to u v → g.IsListIter i l (k + 1) → g.IsTupleIter j m (n + 1) → IsPair g s.heap.objs.size u v →
      (∀ c o, c ≠ Z → c ≠ to → c ≠ i → c ≠ j → s.heap.get? c = some o → g.get? c = some o) → Q (some (.ref s.heap.objs.size)) { s with heap := g }) :
    wpAny (model prog w) A (pyNext (.ref Z)) Q E s := by
  have ty : s.TypeIs (.ref Z) "zip" := ⟨_, qz, rfl⟩
  unfold pyNext
  exact wpAny_bind (wpAny_attempt (wpAny_callSpecial?_slot (name := Str.ofString "__next__") ty F.slot_zip_next (wpAny_call_entry F.slot_zip_next ty F.entry_zip_next
    (zm_item D qz qt qo qi qj ql qm eu ev fun g a1 a2 a3 a4 a5 a6 => wpAny_pure (q g a1 a2 a3 a4 a5 a6)) (F.args_zip_next_1 _))))
theorem zm_stop {Z ti to i j l m : Addr} {k n : Nat} {us vs : Array Value} {a b : Value} {Q : Option Value → Shared → Prop} (hh : A.handled = none) (D : ZipApart Z ti to i j l m)
    (qz : IsZip s.heap Z ti to .none) (qt : IsPair s.heap ti (.ref i) (.ref j)) (qo : IsPair s.heap to a b)
    (qi : s.heap.IsListIter i l k) (qj : s.heap.IsTupleIter j m n) (ql : s.heap.IsList l us) (qm : s.heap.IsTuple m vs) (over : us[k]? = none ∨ vs[n]? = none)
    (q : ∀ g, (∀ c o, c ≠ Z → c ≠ to → c ≠ i → c ≠ j → s.heap.get? c = some o → g.get? c = some o) → Q none { s with heap := g }) : wpAny (model prog w) A (pyNext (.ref Z)) Q E s := by
  have ty : s.TypeIs (.ref Z) "zip" := ⟨_, qz, rfl⟩
  unfold pyNext
  refine wpAny_bind (wpAny_attempt (wpAny_callSpecial?_slot (name := Str.ofString "__next__") ty F.slot_zip_next (wpAny_call_entry F.slot_zip_next ty F.entry_zip_next (zm_end hh D qz qt qo qi qj ql qm over fun g e hk he => ?_) (F.args_zip_next_1 _))))
  obtain ⟨o, ho, hc⟩ := he
  exact wpAny_bind (wpAny_isInstance (T := "StopIteration") (b := true) ⟨o, ho, hc⟩ isSubtype_stop (wpAny_pure (q _ hk)))
end
abbrev zmA (h : Heap) (l : Addr) : Heap := h.push { cls := .type "list_iterator", data := .fields #[.ref l, .int 0 0] }
abbrev zmB (h : Heap) (l m : Addr) : Heap := (zmA h l).push { cls := .type "tuple_iterator", data := .fields #[.ref m, .int 0 0] }
abbrev zmC (h : Heap) (l m : Addr) : Heap := (zmB h l m).push { cls := .type "tuple", data := .seq #[.ref h.objs.size, .ref (zmA h l).objs.size] }
abbrev zmD (h : Heap) (l m : Addr) : Heap := (zmC h l m).push { cls := .type "tuple", data := .seq #[.none, .none] }
abbrev zmE (h : Heap) (l m : Addr) : Heap := (zmD h l m).push { cls := .type "zip", data := .fields #[.none, .bool false, .bool false, .ref (zmB h l m).objs.size, .ref (zmC h l m).objs.size] }
theorem zm_new (l m : Addr) (us vs : Array Value) :
    Meets (Builtin.«zip.__new__» ⟨[.type "zip", .ref l, .ref m], []⟩) (fun _ R s => s.heap.IsList l us ∧ s.heap.IsTuple m vs ∧ R (.ok (.ret (.ref (zmD s.heap l m).objs.size))) { s with heap := zmE s.heap l m }) :=
  .of_wp fun prog w A R s h => by
    obtain ⟨hp, g, d, tk, os⟩ := s
    obtain ⟨a, b, h⟩ := h
    have hsub := sub_zip
    have la : Heap.IsList (Shared.heap ⟨hp, g, d, tk, os⟩) l us := a
    have lb : Heap.IsTuple (Shared.heap ⟨hp.push { cls := .type "list_iterator", data := .fields #[.ref l, .int 0 0] }, g, d, tk, os⟩) m vs := Heap.IsTuple.push b _
    wp_walk using wpAny_pyIter_list la, wpAny_pyIter_tuple lb
    exact ⟨_, rfl, h⟩
section
variable {prog : Program} {w : World} {A : Around} {E : Value → Shared → Prop} {s : Shared}
theorem zm_call {l m : Addr} {us vs : Array Value} {Q : Value → Shared → Prop} (ql : s.heap.IsList l us) (qm : s.heap.IsTuple m vs)
    (h : ∀ g, IsZip g (s.heap.objs.size + 4) (s.heap.objs.size + 2) (s.heap.objs.size + 3) .none → IsPair g (s.heap.objs.size + 2) (.ref s.heap.objs.size) (.ref (s.heap.objs.size + 1)) →
      IsPair g (s.heap.objs.size + 3) .none .none → g.IsListIter s.heap.objs.size l 0 → g.IsTupleIter (s.heap.objs.size + 1) m 0 → (∀ c o, s.heap.get? c = some o → g.get? c = some o) → Q (.ref (s.heap.objs.size + 4)) { s with heap := g }) :
    wpAny (model prog w) A (call (.type "zip") [.ref l, .ref m]) Q E s := by
  refine callType_new F.called_zip (by decide) (F.typeCall_zip_2 _ _) (F.newCall_zip_2 _ _) (fun ob => F.args_object_init_3 ob _ _) F.entry_zip_new (zm_new l m us vs) ⟨ql, qm, ?_⟩
  have n1 : (zmA s.heap l).objs.size = s.heap.objs.size + 1 := Heap.size_push ..
  have n2 : (zmB s.heap l m).objs.size = s.heap.objs.size + 2 := by rw [Heap.size_push, n1]
  have n3 : (zmC s.heap l m).objs.size = s.heap.objs.size + 3 := by rw [Heap.size_push, n2]
  have n4 : (zmD s.heap l m).objs.size = s.heap.objs.size + 4 := by rw [Heap.size_push, n3]
  have p5 : (zmE s.heap l m).get? (zmD s.heap l m).objs.size = some _ := Heap.get?_push_size _ rfl
  have p4 : (zmE s.heap l m).get? (zmC s.heap l m).objs.size = some _ := Heap.get?_push_of_some _ (Heap.get?_push_size _ rfl)
  have p3 : (zmE s.heap l m).get? (zmB s.heap l m).objs.size = some _ := Heap.get?_push_of_some _ (Heap.get?_push_of_some _ (Heap.get?_push_size _ rfl))
  have p2 : (zmE s.heap l m).get? (zmA s.heap l).objs.size = some _ := Heap.get?_push_of_some _ (Heap.get?_push_of_some _ (Heap.get?_push_of_some _ (Heap.get?_push_size _ rfl)))
  have p1 : (zmE s.heap l m).get? s.heap.objs.size = some _ := Heap.get?_push_of_some _ (Heap.get?_push_of_some _ (Heap.get?_push_of_some _ (Heap.get?_push_of_some _ (Heap.get?_push_size _ rfl))))
  show _ ∧ _
  rw [n2, n3, n4] at p5; rw [n1, n2] at p3; rw [n3] at p4; rw [n1] at p2; rw [n4]
  exact ⟨⟨_, p5, rfl⟩, h _ p5 p3 p4 ⟨_, p1, rfl, rfl⟩ ⟨_, p2, rfl, rfl⟩ fun c o x => Heap.get?_push_of_some _ (Heap.get?_push_of_some _ (Heap.get?_push_of_some _ (Heap.get?_push_of_some _ (Heap.get?_push_of_some _ x))))⟩
end
end FD

set_option maxRecDepth 100000
set_option maxHeartbeats 4000000
namespace FD
open PySem PySem.Spec PyProof.Rows L2
/-! ## a turn over zip of a list and a tuple -/
def ItzM (K : PySem.W.Frag) (a b : Addr) : It :=
  ⟨fun i H => ∃ (us vs : List V) (u v : V), SqL K H a us ∧ SqT K H b vs ∧ us[i]? = some u ∧ vs[i]? = some v,
    fun i H r H' => ∃ T u v, r = .ref T ∧ H T = none ∧ H' = upd H T (.tup [u, v]) ∧ (∀ us, SqL K H a us → us[i]? = some u) ∧ ∀ vs, SqT K H b vs → vs[i]? = some v,
    fun i H => ∃ us vs : List V, SqL K H a us ∧ SqT K H b vs ∧ (us.length ≤ i ∨ vs.length ≤ i)⟩
theorem turn_zm {P : Program} {w : World} {K : PySem.W.Frag} {elts : List Expr} {kk : Nat} {tpos : Pos} {a b Z ti to p q : Addr} (D : ZipApart Z ti to p q a b) :
    Turn P w K (.Tuple elts kk tpos) (ItzM K a b) [Z, ti, to, p, q] Z (fun i h => IsZip h Z ti to .none ∧ IsPair h ti (.ref p) (.ref q) ∧ (∃ x y, IsPair h to x y) ∧ h.IsListIter p a i ∧ h.IsTupleIter q b i) where
  mem := by simp
  obj := fun i h st c hc => by
    obtain ⟨qz, qt, ⟨x, y, qo⟩, ⟨o1, e1, _, d1⟩, ⟨o2, e2, _, d2⟩⟩ := st
    have e' : c = Z ∨ c = ti ∨ c = to ∨ c = p ∨ c = q := by simpa using hc
    rcases e' with r | r | r | r | r
    · rw [r]; exact ⟨_, qz, fun v y => nomatch y⟩
    · rw [r]; exact ⟨_, qt, fun v y => nomatch y⟩
    · rw [r]; exact ⟨_, qo, fun v y => nomatch y⟩
    · rw [r]; exact ⟨o1, e1, fun v y => by rw [d1] at y; cases y⟩
    · rw [r]; exact ⟨o2, e2, fun v y => by rw [d2] at y; cases y⟩
  keep := fun i h h' st k => let ⟨qz, qt, ⟨x, y, qo⟩, h1, h2⟩ := st; ⟨k Z (by simp) _ qz, k ti (by simp) _ qt, ⟨x, y, k to (by simp) _ qo⟩, h1.at fun o r => k p (by simp) o r, h2.at fun o r => k q (by simp) o r⟩
  item := by
    intro X hP hw hK hc i pins s σ H E I hf st hg
    subst hP hw hK
    obtain ⟨qz, qt, ⟨x0, y0, qo⟩, h1, h2⟩ := st
    obtain ⟨us, vs, u, v, sa, sb', eu, ev⟩ := hg
    obtain ⟨its, rv, pl, _⟩ := I.list sa
    obtain ⟨its2, rv2, pt, _⟩ := I.tuple sb'
    obtain ⟨u1, hu1, ru1⟩ := rv.get eu
    obtain ⟨v1, hv1, rv1⟩ := rv2.get ev
    have lZ : Z < s.heap.objs.size := Heap.lt_size qz
    refine zm_next D qz qt qo h1 h2 pl.isList pt (u := u1) (v := v1) (by simpa using hu1) (by simpa using hv1) fun g z' o' i' j' hT hk => ?_
    refine ⟨_, rfl, wpAny_letOwnedTupleGo_zip (s := { s with heap := g }) z' fun g2 z2 sb => ?_⟩
    have hT2 : g2.get? s.heap.objs.size = some { cls := .type "tuple", data := .seq #[u1, v1] } := (sb.2 _ (Nat.ne_of_gt lZ)).trans hT
    have new : ObjOk X.prog X.w (upd H s.heap.objs.size (.tup [u, v])) g2 s.heap.objs.size (.tup [u, v]) := ⟨by show 2 ≤ sizeLine; decide, [u1, v1], .cons ru1 (.cons rv1 .nil), ⟨_, hT2, rfl, _, rfl⟩⟩
    have I1 : Inv X pins σ (upd H s.heap.objs.size (.tup [u, v])) { s with heap := g2 } :=
      I.turnedNew (t' := s.toks) (ch := [Z, ti, to, p, q]) (fun c o nb r => (sb.2 c (fun y => nb (by simp [y]))).trans (hk c o (fun y => nb (by simp [y])) (fun y => nb (by simp [y])) (fun y => nb (by simp [y])) (fun y => nb (by simp [y])) r)) hf (Nat.le_refl _) new
    refine ⟨.ref s.heap.objs.size, _, I1, rfl, ⟨_, u, v, rfl, I.hok.fresh (Nat.le_refl _), rfl, fun l hl => by rw [I.list_inj hl sa]; exact eu, fun l hl => by rw [I.tuple_inj hl sb']; exact ev⟩, ⟨z2, ?_, ⟨u1, v1, ?_⟩, ?_, ?_⟩, fun c hcm => ?_⟩
    · exact (sb.2 _ D.TIz).trans (hk _ _ D.TIz D.TITO D.TIi1 D.TIi2 qt)
    · exact (sb.2 _ D.TOz).trans o'
    · exact i'.at fun o r => (sb.2 _ D.i1z).trans r
    · exact j'.at fun o r => (sb.2 _ D.i2z).trans r
    · have lt : c < s.heap.objs.size := by
        have e' : c = Z ∨ c = ti ∨ c = to ∨ c = p ∨ c = q := by simpa using hcm
        rcases e' with r | r | r | r | r
        · rw [r]; exact lZ
        · rw [r]; exact Heap.lt_size qt
        · rw [r]; exact Heap.lt_size qo
        · rw [r]; obtain ⟨_, e1, _⟩ := h1; exact Heap.lt_size e1
        · rw [r]; obtain ⟨_, e1, _⟩ := h2; exact Heap.lt_size e1
      rw [upd_ne (Nat.ne_of_lt lt)]; exact (hf c hcm).1
  done := by
    intro X hP hw hK hc i pins s σ H E I hf st hg
    subst hP hw hK
    obtain ⟨qz, qt, ⟨x0, y0, qo⟩, h1, h2⟩ := st
    obtain ⟨us, vs, sa, sb', over⟩ := hg
    obtain ⟨its, rv, pl, _⟩ := I.list sa
    obtain ⟨its2, rv2, pt, _⟩ := I.tuple sb'
    have n1 := rv.length
    have n2 := rv2.length
    have he : its.toArray[i]? = none ∨ its2.toArray[i]? = none := over.elim (fun r => .inl (by simp; omega)) fun r => .inr (by simp; omega)
    exact zm_stop (I.ok.hd hc) D qz qt qo h1 h2 pl.isList pt he fun g hk => ⟨rfl, I.turnedL (t' := s.toks) (ch := [Z, ti, to, p, q]) (fun c o nb r => hk c o (fun y => nb (by simp [y])) (fun y => nb (by simp [y])) (fun y => nb (by simp [y])) (fun y => nb (by simp [y])) r) hf⟩
  self := fun A i s Q E st h => wpAny_pyIter_zip st.1 h
def iZipM (K : PySem.W.Frag) (ta : TA) : TI := fun σ H R => ta σ H fun rs H1 => ∃ a b us vs, rs = [.ref a, .ref b] ∧ SqL K H1 a us ∧ SqT K H1 b vs ∧ R (ItzM K a b) H1
theorem pi_zipM {X : Cx} {e e2 : Expr} {ta : TA} {p pos tpos : Pos} {elts : List Expr} {kk : Nat} (hg : Gl X "zip") (hm : X.mg "zip" = none) (ha : PA X [e, e2] ta)
    (hs : starEach [e, e2] X.env = (false, eval e X.env) :: starEach [e2] X.env := by rfl) (hpl : (backTo pos (starEach [e2] X.env)).any (fun z => z.1) = false := by rfl) :
    PI X (.Tuple elts kk tpos) (.Call (.Name "zip" p) [e, e2] [] pos) (iZipM X.K ta) := by
  refine ⟨fun pins s σ H R I h => ?_⟩
  refine Call_ (ld_blt I hg hm PyProof.Rows.boot_zip (PyProof.Rows.callWith_type1 (thn (ha.run pos pins s σ H _ I h) fun xs t ⟨rs, H1, I1, r1, a, b, us, vs, ex, sa, sb, q⟩ => ?_) hs hpl))
  subst ex
  cases r1 with
  | cons r rr => cases rr with
    | cons r' rr =>
      cases rr
      cases r
      cases r'
      obtain ⟨its, rv, p1, _⟩ := I1.list sa
      obtain ⟨its2, rv2, p2, _⟩ := I1.tuple sb
      obtain ⟨o2, ho2, _⟩ := id p2
      refine zm_call p1.isList (show t.heap.IsTuple b its2.toArray from p2) fun g qz qt qo h1 h2 hk => wpAny_pyIter_zip qz ?_
      have I2 : Inv X pins σ H1 { t with heap := g } := I1.kept (t' := t.toks) hk
      refine ⟨t.heap.objs.size + 4, [t.heap.objs.size + 4, t.heap.objs.size + 2, t.heap.objs.size + 3, t.heap.objs.size, t.heap.objs.size + 1], _, _, H1, rfl, I2, turn_zm (PySem.W.ktu_apart t.heap.objs.size a b p1.lt (Heap.lt_size ho2)), ⟨qz, qt, ⟨_, _, qo⟩, h1, h2⟩, fun c hcm => ?_, q⟩
      have e' : c = t.heap.objs.size + 4 ∨ c = t.heap.objs.size + 2 ∨ c = t.heap.objs.size + 3 ∨ c = t.heap.objs.size ∨ c = t.heap.objs.size + 1 := by simpa using hcm
      have le : t.heap.objs.size ≤ c := by rcases e' with r | r | r | r | r <;> rw [r] <;> first | exact Nat.le_add_right _ _ | exact Nat.le_refl _
      exact I1.fpOk le (I1.hok.fresh le)
/-- the pairs of two lists -/
def zpD : List DV → List DV → List DV
  | x :: xs, y :: ys => .tup [x, y] :: zpD xs ys
  | _, _ => []
theorem zpD_len : ∀ xs ys : List DV, (zpD xs ys).length = min xs.length ys.length
  | [], ys => by cases ys <;> simp [zpD]
  | x :: xs, [] => by simp [zpD]
  | x :: xs, y :: ys => by simp [zpD, zpD_len xs ys]
theorem zpD_get : ∀ (xs ys : List DV) (i : Nat) (d : DV), (zpD xs ys)[i]? = some d → ∃ x y, xs[i]? = some x ∧ ys[i]? = some y ∧ d = .tup [x, y]
  | [], ys, i, d, h => by cases ys <;> simp [zpD] at h
  | x :: xs, [], i, d, h => by simp [zpD] at h
  | x :: xs, y :: ys, 0, d, h => by
    have h' : DV.tup [x, y] = d := by simpa [zpD] using h
    exact ⟨x, y, rfl, rfl, h'.symm⟩
  | x :: xs, y :: ys, i + 1, d, h => by
    obtain ⟨u, v, h1, h2, h3⟩ := zpD_get xs ys i d (by simpa [zpD] using h)
    exact ⟨u, v, by simpa using h1, by simpa using h2, h3⟩
theorem wk_zip {K : PySem.W.Frag} {G : Hp} {a b : Addr} {us vs : List V} {ds es : List DV} (ha : G a = some (.lst us)) (ra : RpL K G us ds) (hb : SqT K G b vs) (rb : RpL K G vs es) : Wk K G (ItzM K a b) (zpD ds es) where
  stop := fun i G1 H g1 g2 hi => ⟨us, vs, SqL.of (g2 _ _ (g1 _ _ ha)), Same.tup g2 (Same.tup g1 hb), by
    have := ra.length
    have := rb.length
    rw [zpD_len] at hi
    omega⟩
  go := fun i G1 H g1 g2 hi => by
    have n1 := ra.length
    have n2 := rb.length
    rw [zpD_len] at hi
    have l1 : i < us.length := by omega
    have l2 : i < vs.length := by omega
    exact ⟨us, vs, us[i], vs[i], SqL.of (g2 _ _ (g1 _ _ ha)), Same.tup g2 (Same.tup g1 hb), List.getElem?_eq_getElem l1, List.getElem?_eq_getElem l2⟩
  yld := fun i G1 H d r H' g1 g2 e y => by
    obtain ⟨T, u, v, rfl, nT, rfl, q1, q2⟩ := y
    obtain ⟨x, z, e1, e2, rfl⟩ := zpD_get ds es i d e
    obtain ⟨u', f1, f2⟩ := ra.get e1
    obtain ⟨v', f3, f4⟩ := rb.get e2
    have f5 := q1 us (SqL.of (g2 _ _ (g1 _ _ ha)))
    have f6 := q2 vs (Same.tup g2 (Same.tup g1 hb))
    rw [f1] at f5
    rw [f3] at f6
    cases f5
    cases f6
    have F : Fw G1 H (upd G1 T (.tup [u, v])) (upd H T (.tup [u, v])) none := Fw.add g2 nT
    exact ⟨_, F, T, _, rfl, SqT.of upd_same, _, _, rfl, Rp.mono F.g _ _ (Rp.mono g1 _ _ f2), RpL.one (Rp.mono F.g _ _ (Rp.mono g1 _ _ f4))⟩
section
variable {X : Cx} {C : Cn} {e a b c : Expr} {es elts : List Expr} {pos p tpos : Pos} {f g h : EF}
def iZm (f : AF) : LF := fun s => match f s with
  | some ([.lst ds, .tup es], s1) => some (zpD ds es, s1)
  | _ => none
theorem fi_zipM {kk : Nat} {ff : AF} (hm : X.mg "zip" = none) (h : FA X C [a, b] ff) (hg : Gl X "zip" := by rfl) (hs : starEach [a, b] X.env = (false, eval a X.env) :: starEach [b] X.env := by rfl) (hpl : (backTo pos (starEach [b] X.env)).any (fun z => z.1) = false := by rfl) :
    FI X C (.Tuple elts kk tpos) (.Call (.Name "zip" p) [a, b] [] pos) (iZm ff) := by
  obtain ⟨ta, p1, q1⟩ := h
  refine ⟨_, pi_zipM hg hm p1 hs hpl, ?_⟩
  intro G H σ s ds s' A e1 R k
  unfold iZm at e1
  split at e1
  · rename_i xs ys s1 e2
    cases e1
    refine q1 G H σ s _ _ A e2 _ fun vs H1 G1 g1 A1 r => ?_
    obtain ⟨v, w, e3, r1, r2⟩ := r.double
    obtain ⟨l, us, rfl, h1, h2⟩ := r1
    obtain ⟨m, ws, rfl, h3, h4⟩ := r2
    exact ⟨l, m, us, ws, e3, SqL.of (A1.gh _ _ h1), Same.tup A1.gh h3, k _ H1 G1 g1 A1 (wk_zip h1 h2 h3 h4)⟩
  · cases e1
end
/-! ## a list comprehension over pairs -/
def cpP : List DV → Nat → Nat → EF → S → List DV → Option (List DV × S)
  | [], _, _, _, s, acc => some (acc, s)
  | .tup [x, y] :: ds, i, j, f, s, acc => match f { s with sl := (s.sl.set i (some (.dat x))).set j (some (.dat y)) } with
    | some (z, s3) => if acc.length < sizeLine then cpP ds i j f { s3 with sl := (s3.sl.set j none).set i none } (acc ++ [z]) else none
    | none => none
  | _ :: _, _, _, _, _, _ => none
theorem cpP_pair {d : DV} {ds : List DV} {i j : Nat} {f : EF} {s : S} {acc : List DV} {r : List DV × S} (h : cpP (d :: ds) i j f s acc = some r) : ∃ x y, d = .tup [x, y] := by
  cases d with
  | tup l => match l, h with
    | [x, y], _ => exact ⟨x, y, rfl⟩
    | [], h => exact absurd h (by simp [cpP])
    | [x], h => exact absurd h (by simp [cpP])
    | x :: y :: z :: l, h => exact absurd h (by simp [cpP])
  | _ => exact absurd h (by simp [cpP])
theorem cpP_cons {x y : DV} {ds : List DV} {i j : Nat} {f : EF} {s : S} {acc : List DV} : cpP (.tup [x, y] :: ds) i j f s acc = match f { s with sl := (s.sl.set i (some (.dat x))).set j (some (.dat y)) } with
    | some (z, s3) => if acc.length < sizeLine then cpP ds i j f { s3 with sl := (s3.sl.set j none).set i none } (acc ++ [z]) else none
    | none => none := rfl
def lCpP (it : LF) (i j : Nat) (f : EF) : LF := fun s => match it s with
  | some (ds, s1) => cpP ds i j f { s1 with sl := (s1.sl.set j none).set i none } []
  | none => none
theorem wipe2 {T : Type} {i j : Nat} (hij : i ≠ j) (l : List (Option T)) (x y : Option T) : (((((l.set j none).set i none).set i x).set j y).set j none).set i none = (l.set j none).set i none := by
  refine List.ext_getElem? fun k => ?_
  simp only [List.getElem?_set, List.length_set]
  by_cases h1 : i = k
  · subst h1
    simp
  · by_cases h2 : j = k
    · subst h2
      simp [h1]
    · simp [h1, h2]
theorem not_i {i j : Nat} {l : List (Option SV)} : (∀ x, ((l.set j none).set i none)[i]? ≠ some (some x)) ∧ ∀ x, ((l.set j none).set i none)[j]? ≠ some (some x) := by
  refine ⟨fun x e => ?_, fun x e => ?_⟩
  · rw [List.getElem?_set, if_pos rfl] at e
    split at e <;> cases e
  · rw [List.getElem?_set] at e
    split at e
    · split at e <;> cases e
    · rw [List.getElem?_set, if_pos rfl] at e
      split at e <;> cases e
theorem evLcP {K : PySem.W.Frag} {i j : Nat} (hij : i ≠ j) {wi : TI} {te : TE} {it : LF} {f : EF} (q1 : EvI K C wi it) (q3 : ∀ C', EvE K C' te f) : EvL K C (tLc wi (gTup K 2 (gCons (gName i) (gCons (gName j) gNil))) tYes te [i, j]) (lCpP it i j f) := by
  intro G H σ s ds s' A e1 Q k
  unfold lCpP at e1
  split at e1
  · rename_i items s1 e2
    refine q1 G H σ s items s1 A e2 _ fun J H1 G1 g1 A1 wk => ?_
    intro D hD
    obtain ⟨B1, n1⟩ := A1.lay (ds := []) rfl hD
    refine ⟨fun m mm H' => mm = items.length - m ∧ m ≤ items.length ∧ ∃ G2 s2 acc vs, Same G1 G2 ∧ Ab K C G2 H' ((σ.set j none).set i none) s2 ∧ NewL K C G2 H' ((σ.set j none).set i none) s2 D vs acc ∧ ((∀ x, s2.sl[i]? ≠ some (some x)) ∧ ∀ x, s2.sl[j]? ≠ some (some x)) ∧ cpP (items.drop m) i j f s2 acc = some (ds, s'), ⟨_, rfl, Nat.zero_le _, G1, _, [], [], Same.refl _, (B1.set_none j).set_none i, (n1.set (i := j) (x := none) (fun es z => nomatch z)).set (i := i) (x := none) (fun es z => nomatch z), not_i, e1⟩, ?_⟩
    rintro m mm H' ⟨rfl, hj, G2, s2, acc, vs, g2, A2, n2, hn, e3⟩
    by_cases hl : m < items.length
    · refine .inr ⟨wk.go m G2 H' g2 A2.gh hl, fun H'' => ∃ G3 s3 acc vs, Same G1 G3 ∧ Ab K C G3 H'' ((σ.set j none).set i none) s3 ∧ NewL K C G3 H'' ((σ.set j none).set i none) s3 D vs acc ∧ ((∀ x, s3.sl[i]? ≠ some (some x)) ∧ ∀ x, s3.sl[j]? ≠ some (some x)) ∧ cpP (items.drop (m + 1)) i j f s3 acc = some (ds, s'), ?_, ?_⟩
      · rintro H'' ⟨G3, s3, acc', vs', g3, A3, n3, hn3, e4⟩
        exact ⟨items.length - (m + 1), by omega, rfl, hl, G3, s3, acc', vs', g3, A3, n3, hn3, e4⟩
      · intro z H'' y
        have ed : items.drop m = items[m] :: items.drop (m + 1) := List.drop_eq_getElem_cons hl
        obtain ⟨G3, F, r⟩ := wk.yld m G2 H' items[m] z H'' g2 A2.gh (List.getElem?_eq_getElem hl) y
        have A3 := A2.fw0 F
        have n3 := n2.fw F
        rw [ed] at e3
        generalize items[m] = d at *
        obtain ⟨x1, x2, rfl⟩ := cpP_pair e3
        rw [cpP_cons] at e3
        · obtain ⟨T, ws, rfl, hT, hw⟩ := r
          obtain ⟨v1, r1, rfl, p1, hw⟩ := hw
          obtain ⟨v2, r2, rfl, p2, hw⟩ := hw
          have hw' : r2 = [] := hw
          subst hw'
          have A4 := (A3.set_dat (i := i) p1).set_dat (i := j) p2
          have n4 : NewL K C G3 H'' ((((σ.set j none).set i none).set i (some v1)).set j (some v2)) { s2 with sl := (s2.sl.set i (some (.dat x1))).set j (some (.dat x2)) } D vs acc := (n3.set (i := i) (x := some (.dat x1)) (fun es z => nomatch z)).set (fun es z => nomatch z)
          have A5 := A4.rebase n4
          have g0D : C.G0 D = none := by
            cases q : C.G0 D with
            | none => rfl
            | some o =>
              have q' := A3.g0 _ _ q
              rw [n3.g] at q'
              cases q'
          refine ⟨T, [v1, v2], rfl, Same.tup A3.gh hT, rfl, v1, [v2], rfl, v2, [], rfl, rfl, ?_⟩
          refine ⟨?_, ?_⟩
          · exact wipe2 hij σ (some v1) (some v2)
          · show tYes ((((σ.set j none).set i none).set i (some v1)).set j (some v2)) H'' _
            show te _ H'' _
            split at e3
            · rename_i y7 s7 e7
              split at e3
              · rename_i hsz
                refine q3 _ G3 H'' _ _ _ _ A5 e7 _ fun v7 H7 G7 g7 A7 r7 => ?_
                obtain ⟨A8, n8⟩ := A7.unbase (acc := acc) n3.h0 g0D n3.sp (RpL.mono g7 _ _ n3.rp)
                refine ⟨vs, n8.at_, by rw [n8.rp.length]; exact hsz, ?_⟩
                obtain ⟨A9, n9⟩ := A8.put_new n8 (n8.rp.append (RpL.one r7))
                have A10 := (A9.set_none j).set_none i
                have n10 : NewL K C G7 _ ((((((σ.set j none).set i none).set i (some v1)).set j (some v2)).set j none).set i none) { s7 with sl := (s7.sl.set j none).set i none } D _ _ := (n9.set (i := j) (x := none) (fun es z => nomatch z)).set (fun es z => nomatch z)
                rw [wipe2 hij] at A10 n10
                exact ⟨G7, _, _, _, (g2.trans F.g).trans g7, A10, n10, not_i, e3⟩
              · cases e3
            · cases e3
    · have hz : items.drop m = [] := List.drop_eq_nil_of_le (by omega)
      rw [hz] at e3
      unfold cpP at e3
      cases e3
      have out : ∀ (q : Nat) x, s'.sl[q]? = some (some x) → σ[q]? = ((σ.set j none).set i none)[q]? := fun q x e => by
        rw [List.getElem?_set, if_neg (fun z => hn.1 x (by rw [z]; exact e)), List.getElem?_set, if_neg (fun z => hn.2 x (by rw [z]; exact e))]
      refine .inl ⟨wk.stop m G2 H' g2 A2.gh (by omega), k D vs H' G2 (g1.trans g2) ?_ ?_⟩
      · refine A2.forget (s := s') (sl' := s'.sl) ?_ fun q x e => ⟨e, out q x e⟩
        have := A2.len
        rw [List.length_set, List.length_set] at this
        exact this
      · exact ⟨n2.at_, n2.rp, n2.g, n2.h0, n2.sp, fun q es e1' e2' => n2.no q es e1' ((out q _ e1').symm.trans e2')⟩
  · cases e1
section
variable {X : Cx} {C : Cn} {elt iter : Expr} {pos : Pos}
theorem fl_lcP (i j : Nat) (hij : i ≠ j) {x y : Str} {px py pt : Pos} {kk : Nat} {scope : Scope} {it : LF} {f : EF} (hc : X.calm = true) (hN : X.N.Nodup) (ok : BlkOk X.N X.env.scope scope [(x, i), (y, j)]) (hi : FI X C (.Tuple [.Name x px, .Name y py] kk pt) iter it)
    (hg : ∀ (s : Shared) (H : Hp) (C : Addr) (cl : List (Str × Addr)) (fp : List Addr), PG (X.blk s H scope (compEnvC scope cl C X.env) fp) (.Tuple [.Name x px, .Name y py] kk pt) (gTup X.K 2 (gCons (gName i) (gCons (gName j) gNil))))
    (he : ∀ (s : Shared) (H : Hp) (Ca : Addr) (cl : List (Str × Addr)) (fp : List Addr) (C' : Cn), FE (X.blk s H scope (compEnvC scope cl Ca X.env) fp) C' elt f) (hs : ∀ x, foldedSetIterable iter X.env x = pure x := by intro _; rfl) :
    FL X C (.ListComp elt [⟨.Tuple [.Name x px, .Name y py] kk pt, iter, [], 0⟩] scope pos) (lCpP it i j f) := by
  obtain ⟨wi, p1, q1⟩ := hi
  exact ⟨_, pe_lc hc hN p1 ok hg (fun _ _ _ _ _ => pts_nil) (fun s H Ca cl fp => pe_U (he s H Ca cl fp)) hs, evLcP hij q1 (fun _ => evU)⟩
end
end FD

set_option maxRecDepth 100000
set_option maxHeartbeats 4000000
namespace FD
open PySem PySem.Spec PyProof.Rows L2
/-! ## the sum of a list of integers -/
def dSumL : List DV → Option DV
  | [.lst ds] => (intsD ds).map fun ns => .int ns.sum
  | _ => none
theorem o_sumL {K : PySem.W.Frag} : OpA K (rSum K) dSumL := by
  intro C G H σ s vs ds d A r ho Q q
  unfold dSumL at ho
  split at ho
  · rename_i ds
    obtain ⟨ns, e, rfl⟩ := Option.map_eq_some_iff.mp ho
    obtain ⟨v, rfl, rv⟩ := r.single
    obtain ⟨a, us, rfl, h1, h2⟩ := rv
    rw [intsD_map e] at h2
    have := h2.ints'
    subst this
    exact ⟨a, ns, rfl, SqL.of (A.gh _ _ h1), q _ H G (Fw.refl A.gh) rfl⟩
  · cases ho
section
variable {X : Cx} {C : Cn} {e : Expr} {ff : AF} {p pos : Pos}
theorem ft_nin {a b : Expr} {f g : EF} (hu : X.A.units + 64 < cLine) (h1 : FE X C a f) (h2 : FE X C b g) (hm : behindInMarks .NotIn b = false := by rfl) : FT X C (.Compare a [.NotIn] [b] pos) (tBl (FD.e2 f g dNin)) := ft_cmp (op_ninT hu) o_nin h1 h2 (hm := hm)
theorem fe_sumL (hc : X.calm = true) (hm : X.mg "sum" = none) (ha : FA X C [e] ff) (hg : Gl X "sum" := by rfl) (he : starEach [e] X.env = (false, eval e X.env) :: starEach [] X.env := by rfl) : FE X C (.Call (.Name "sum" p) [e] [] pos) (eA ff dSumL) := fe_callB (cr_sum hc) o_sumL hm (by decide +kernel) ha hg (he := he)
end
end FD

set_option maxRecDepth 100000
set_option maxHeartbeats 4000000
set_option exponentiation.threshold 30000
namespace T4
open PySem L2 FD
def oneS (c : Nat) : DV := .str ⟨#[c]⟩
theorem sgn_tx (l : List Nat) : sgn (tx l) = l.map oneS := by
  unfold sgn tx
  rfl
theorem join_gen {l : List Nat} (h : l.length ≤ 3000) : dJoin (.str (("" : String) : Str)) (.lst (l.map oneS)) = some (txD l) := by
  rw [txt_0]
  have z : ((l.map fun c => (⟨#[c]⟩ : Str)).map (·.length)).sum + (l.map fun c => (⟨#[c]⟩ : Str)).length * (⟨#[]⟩ : Str).length ≤ 16777216 := by
    have e0 : (⟨#[]⟩ : Str).length = 0 := rfl
    rw [sum_one, e0, Nat.mul_zero]
    omega
  have s := strs_one l
  have e : l.map oneS = l.map fun c => DV.str ⟨#[c]⟩ := rfl
  rw [e]
  unfold dJoin
  simp only [strs_one]
  rw [if_pos z, TL.join_eq, join_one]
  rfl
theorem eq_aa : dEq (.str "a") (.str "a") = some (.bl true) := dEq_txt sh_a sh_a (by decide +kernel)
theorem eq_ba : dEq (.str "b") (.str "a") = some (.bl false) := dEq_txt sh_b sh_a (by decide +kernel)
theorem ne_ab : dNe (.str "a") (.str "b") = some (.bl true) := dNe_txt (r := false) sh_a sh_b (by decide +kernel)
def exF : EF := (eIf (tBl (e2 (eV 1) (eC (.str "a")) dEq)) (eC (.str "b")) (eC (.str "a")))
theorem ex_one {c : Nat} (hc : c = 97 ∨ c = 98) (d0 : Option SV) (sp : Spl) : exF ⟨[d0, some (.dat (oneS c))], sp⟩ = some (oneS (exc c), ⟨[d0, some (.dat (oneS c))], sp⟩) := by
  rcases hc with rfl | rfl
  · have e1 : oneS 97 = .str (("a" : String) : Str) := by unfold oneS; rw [txt_a]
    have e2 : oneS (exc 97) = .str (("b" : String) : Str) := by unfold oneS exc; rw [txt_b]; rfl
    rw [e1, e2]
    have k := eq_aa
    unfold exF
    simp only [eIf, tBl, FD.e2, eV, eC, k, List.getElem?_cons_zero, List.getElem?_cons_succ, if_true]
  · have e1 : oneS 98 = .str (("b" : String) : Str) := by unfold oneS; rw [txt_b]
    have e2 : oneS (exc 98) = .str (("a" : String) : Str) := by unfold oneS exc; rw [txt_a]; rfl
    rw [e1, e2]
    have k := eq_ba
    unfold exF
    simp only [eIf, tBl, FD.e2, eV, eC, k, List.getElem?_cons_zero, List.getElem?_cons_succ, Bool.false_eq_true, if_false]
theorem cp_step {d y : DV} {ds : List DV} {i : Nat} {f : EF} {s s3 : S} {acc : List DV} (h : f { s with sl := s.sl.set i (some (.dat d)) } = some (y, s3)) (z : acc.length < sizeLine) : cpN (d :: ds) i tY f s acc = cpN ds i tY f { s3 with sl := s3.sl.set i none } (acc ++ [y]) := by
  have e : cpN (d :: ds) i tY f s acc = (match f { s with sl := s.sl.set i (some (.dat d)) } with | some (y, s3) => if acc.length < sizeLine then cpN ds i tY f { s3 with sl := s3.sl.set i none } (acc ++ [y]) else none | none => none) := rfl
  rw [e, h]
  dsimp only
  rw [if_pos z]
theorem ex_loop (d0 : Option SV) (sp : Spl) : ∀ (l : List Nat) (acc : List DV), (∀ c ∈ l, c = 97 ∨ c = 98) → acc.length + l.length ≤ 100000 → cpN (l.map oneS) 1 tY exF ⟨[d0, none], sp⟩ acc = some (acc ++ (l.map exc).map oneS, ⟨[d0, none], sp⟩)
  | [], acc, _, _ => by
    simp only [List.map_nil, List.append_nil]
    rfl
  | c :: l, acc, hc, hl => by
    rw [List.length_cons] at hl
    have ih := ex_loop d0 sp l (acc ++ [oneS (exc c)]) (fun d hd => hc d (List.mem_cons_of_mem _ hd)) (by rw [List.length_append, List.length_singleton]; omega)
    rw [List.map_cons, cp_step (ex_one (hc c List.mem_cons_self) d0 sp) (by rw [sizeLine_eq]; omega)]
    rw [List.append_assoc] at ih
    exact ih
def b_law_exchanged : SF :=
  sRt (e2 (eC (.str "")) (eL (lCp (iStS (eV 0)) 1 (tY) (eIf (tBl (e2 (eV 1) (eC (.str "a")) dEq)) (eC (.str "b")) (eC (.str "a"))))) dJoin)
def m_law_exchanged : List DV → Option DV := bodyP 1 2 b_law_exchanged
theorem t_law_exchanged : ∀ ds d, m_law_exchanged ds = some d → bodyP 1 2 b_law_exchanged ds = some d := fun _ _ h => h
theorem exchanged_ok {l : List Nat} (hc : ∀ c ∈ l, c = 97 ∨ c = 98) (hl : l.length ≤ 3000) : m_law_exchanged [txD l] = some (txD (l.map exc)) := by
  have it : iStS (eV 0) ⟨[some (.dat (txD l)), none], spl0⟩ = some (l.map oneS, ⟨[some (.dat (txD l)), none], spl0⟩) := rfl
  have c1 := lCp_of (i := 1) (t := tY) (f := exF) it (ex_loop (some (.dat (txD l))) spl0 l [] hc (by rw [List.length_nil]; omega))
  have jn := join_gen (l := l.map exc) (by rw [List.length_map]; exact hl)
  rw [List.nil_append] at c1
  have eb : b_law_exchanged = sRt (FD.e2 (eC (.str "")) (eL (lCp (iStS (eV 0)) 1 tY exF)) dJoin) := rfl
  unfold m_law_exchanged
  rw [eb]
  refine bodyP_of (ds := [txD l]) rfl (t := ⟨[some (.dat (txD l)), none], spl0⟩) ?_
  generalize dJoin = JN at *
  generalize eL (lCp (iStS (eV 0)) 1 tY exF) = EL at *
  show sRt (FD.e2 (eC (.str "")) EL JN) ⟨[some (.dat (txD l)), none], spl0⟩ = _
  simp only [sRt, FD.e2, eC, c1, jn]
/-! ## the digits add up -/
def dotI : List Int → List Int → Int
  | a :: as, b :: bs => a * b + dotI as bs
  | _, _ => 0
theorem dotI_nil (as : List Int) : dotI as [] = 0 := by cases as <;> rfl
theorem dotI_snoc : ∀ (as bs : List Int) (a b : Int), as.length = bs.length → dotI (as ++ [a]) (bs ++ [b]) = dotI as bs + a * b
  | [], [], a, b, _ => by show a * b + 0 = 0 + a * b; omega
  | x :: as, y :: bs, a, b, h => by
    have ih := dotI_snoc as bs a b (by simpa using h)
    show x * y + dotI (as ++ [a]) (bs ++ [b]) = x * y + dotI as bs + a * b
    omega
  | [], y :: bs, a, b, h => by simp at h
  | x :: as, [], a, b, h => by simp at h
theorem dotI_rev : ∀ (as bs : List Int), as.length = bs.length → dotI as.reverse bs.reverse = dotI as bs
  | [], [], _ => rfl
  | x :: as, y :: bs, h => by
    have h' : as.length = bs.length := by simpa using h
    rw [List.reverse_cons, List.reverse_cons, dotI_snoc _ _ _ _ (by rw [List.length_reverse, List.length_reverse]; exact h'), dotI_rev as bs h']
    show _ = x * y + dotI as bs
    omega
  | [], y :: bs, h => by simp at h
  | x :: as, [], h => by simp at h
theorem dotI_zeros : ∀ (as bs : List Int) (m : Nat), dotI as (bs ++ List.replicate m 0) = dotI as bs
  | as, [], m => by
    rw [List.nil_append, dotI_nil]
    induction m generalizing as with
    | zero => exact dotI_nil as
    | succ m ih =>
      cases as with
      | nil => rfl
      | cons a as =>
        rw [List.replicate_succ]
        show a * 0 + dotI as (List.replicate m 0) = 0
        rw [ih as, Int.mul_zero]
        rfl
  | [], b :: bs, m => rfl
  | a :: as, b :: bs, m => by
    show a * b + dotI as (bs ++ List.replicate m 0) = a * b + dotI as bs
    rw [dotI_zeros as bs m]
theorem dotI_take : ∀ (as bs : List Int), dotI as bs = dotI (as.take bs.length) bs
  | as, [] => by rw [dotI_nil, dotI_nil]
  | [], b :: bs => rfl
  | a :: as, b :: bs => by
    show a * b + dotI as bs = a * b + dotI (as.take bs.length) bs
    rw [← dotI_take as bs]
/-- what the greedy digits leave -/
def lft : List Int → Int → Int
  | [], r => r
  | s :: ss, r => lft ss (r % s)
theorem gr_dot : ∀ (ss : List Int) (r : Int), dotI ss (gr ss r) + lft ss r = r
  | [], r => by show 0 + r = r; omega
  | s :: ss, r => by
    have ih := gr_dot ss (r % s)
    have := Int.emod_add_mul_ediv r s
    show s * (r / s) + dotI ss (gr ss (r % s)) + lft ss (r % s) = r
    omega
theorem lft_one : ∀ (ss : List Int) (r : Int), lft (ss ++ [1]) r = 0
  | [], r => by
    show r % 1 = 0
    omega
  | s :: ss, r => lft_one ss (r % s)
section
variable {e : Int} {x : Num}
theorem row_take (x : Num) (L : Nat) (hL : L ≤ 221) : (rowN x L).take L = (rowN x 220).take L := by
  rcases Nat.lt_or_ge L 221 with w | w
  · obtain ⟨ex, e1, _⟩ := row_append (x := x) L (220 - L)
    rw [show L + (220 - L) = 220 by omega] at e1
    rw [e1, List.take_append_of_le_length (by rw [row_len]; omega)]
  · have : L = 221 := by omega
    subst this
    obtain ⟨ex, e1, _⟩ := row_append (x := x) 220 1
    rw [show (220 + 1 : Nat) = 221 from rfl] at e1
    rw [e1, List.take_append_of_le_length (by rw [row_len]; omega)]
theorem digits_sum (x : Num) {n : Int} : dotI (rowN x (dgN x n).length) (dgN x n).reverse = n := by
  have hl := dg_len (x := x) n
  have h1 := gr_dot (rowN x 220).reverse n
  have h2 : lft (rowN x 220).reverse n = 0 := by
    have e1 : rowN x 220 = 1 :: szS (qsN x 220) 1 1 := rfl
    rw [e1, List.reverse_cons]
    exact lft_one _ _
  rw [h2, Int.add_zero] at h1
  obtain ⟨m, hm⟩ := dz_pad (gr (rowN x 220).reverse n)
  have h3 := dotI_rev (rowN x 220).reverse (gr (rowN x 220).reverse n) (gr_len _ _).symm
  rw [List.reverse_reverse, hm, dotI_zeros, h1] at h3
  have ed : dz (gr (rowN x 220).reverse n) = dgN x n := rfl
  rw [ed] at h3
  rw [dotI_take, List.length_reverse, row_take x _ hl]
  rw [dotI_take, List.length_reverse] at h3
  exact h3
end
end T4

set_option maxRecDepth 100000
set_option maxHeartbeats 4000000
set_option exponentiation.threshold 30000
namespace T4
open PySem L2 FD
/-! ## the law's sum -/
def prodI : List Int → List Int → List Int
  | a :: as, b :: bs => (a * b) :: prodI as bs
  | _, _ => []
theorem prodI_sum : ∀ as bs : List Int, (prodI as bs).sum = dotI as bs
  | [], bs => by cases bs <;> rfl
  | a :: as, [] => rfl
  | a :: as, b :: bs => by
    show ((a * b) :: prodI as bs).sum = a * b + dotI as bs
    rw [List.sum_cons, prodI_sum as bs]
theorem zpD_ints : ∀ as bs : List Int, zpD (as.map DV.int) (bs.map DV.int) = (List.zip as bs).map fun p => .tup [.int p.1, .int p.2]
  | [], bs => by cases bs <;> rfl
  | a :: as, [] => rfl
  | a :: as, b :: bs => by
    show DV.tup [.int a, .int b] :: zpD (as.map DV.int) (bs.map DV.int) = DV.tup [.int a, .int b] :: _
    rw [zpD_ints as bs]
    rfl
def pdF : EF := (FD.e2 (eV 10) (eV 11) dMul)
theorem pd_one {a b : Int} (f : fitM a b = true) (d0 d1 d2 d3 d4 d5 d6 d7 d8 d9 : Option SV) (sp : Spl) : pdF ⟨[d0, d1, d2, d3, d4, d5, d6, d7, d8, d9, some (.dat (.int a)), some (.dat (.int b))], sp⟩ = some (.int (a * b), ⟨[d0, d1, d2, d3, d4, d5, d6, d7, d8, d9, some (.dat (.int a)), some (.dat (.int b))], sp⟩) := by
  unfold pdF
  simp only [FD.e2, eV, dMul, f, List.getElem?_cons_zero, List.getElem?_cons_succ, if_true]
theorem cpP_step {x y z : DV} {ds : List DV} {i j : Nat} {f : EF} {s s3 : S} {acc : List DV} (h : f { s with sl := (s.sl.set i (some (.dat x))).set j (some (.dat y)) } = some (z, s3)) (k : acc.length < sizeLine) : cpP (.tup [x, y] :: ds) i j f s acc = cpP ds i j f { s3 with sl := (s3.sl.set j none).set i none } (acc ++ [z]) := by
  rw [cpP_cons, h]
  dsimp only
  rw [if_pos k]
theorem pd_loop (d0 d1 d2 d3 d4 d5 d6 d7 d8 d9 : Option SV) (sp : Spl) : ∀ (as bs : List Int) (acc : List DV), (∀ p ∈ List.zip as bs, fitM p.1 p.2 = true) → acc.length + as.length ≤ 100000 →
    cpP (zpD (as.map DV.int) (bs.map DV.int)) 10 11 pdF ⟨[d0, d1, d2, d3, d4, d5, d6, d7, d8, d9, none, none], sp⟩ acc = some (acc ++ (prodI as bs).map DV.int, ⟨[d0, d1, d2, d3, d4, d5, d6, d7, d8, d9, none, none], sp⟩)
  | [], bs, acc, _, _ => by
    have e : zpD (([] : List Int).map DV.int) (bs.map DV.int) = [] := by cases bs <;> rfl
    have e2 : prodI [] bs = [] := by cases bs <;> rfl
    rw [e, e2]
    simp only [List.map_nil, List.append_nil]
    rfl
  | a :: as, [], acc, _, _ => by
    have e : zpD ((a :: as).map DV.int) (([] : List Int).map DV.int) = [] := rfl
    have e2 : prodI (a :: as) [] = [] := rfl
    rw [e, e2]
    simp only [List.map_nil, List.append_nil]
    rfl
  | a :: as, b :: bs, acc, hf, hl => by
    rw [List.length_cons] at hl
    have ih := pd_loop d0 d1 d2 d3 d4 d5 d6 d7 d8 d9 sp as bs (acc ++ [.int (a * b)]) (fun p hp => hf p (by rw [List.zip_cons_cons]; exact List.mem_cons_of_mem _ hp)) (by rw [List.length_append, List.length_singleton]; omega)
    have f := hf (a, b) (by rw [List.zip_cons_cons]; exact List.mem_cons_self)
    show cpP (DV.tup [.int a, .int b] :: zpD (as.map DV.int) (bs.map DV.int)) 10 11 pdF _ acc = _
    rw [cpP_step (pd_one f d0 d1 d2 d3 d4 d5 d6 d7 d8 d9 sp) (by rw [sizeLine_eq]; omega)]
    rw [List.append_assoc] at ih
    exact ih
theorem sumL_ints (l : List Int) : dSumL [.lst (l.map DV.int)] = some (.int l.sum) := by
  have h : ∀ l : List Int, intsD (l.map DV.int) = some l := by
    intro l
    induction l with
    | nil => rfl
    | cons a l ih =>
      rw [List.map_cons]
      unfold intsD
      rw [ih]
      rfl
  show (intsD (l.map DV.int)).map (fun ns => DV.int ns.sum) = _
  rw [h]
  rfl
theorem lCpP_of {it : LF} {i j : Nat} {f : EF} {s s1 s2 : S} {ds es : List DV} (h1 : it s = some (ds, s1)) (h2 : cpP ds i j f { s1 with sl := (s1.sl.set j none).set i none } [] = some (es, s2)) : eL (lCpP it i j f) s = some (.lst es, s2) := by
  unfold eL lCpP
  rw [h1]
  dsimp only
  rw [h2]
/-! ## convergents -/
def cvS : List Int → Int × Int → Int × Int → List (Int × Int)
  | [], _, _ => []
  | c :: cs, b, l => (c * l.1 + b.1, c * l.2 + b.2) :: cvS cs l (c * l.1 + b.1, c * l.2 + b.2)
def prD (p : Int × Int) : DV := .tup [.int p.1, .int p.2]
def foBody : SF := (sSeq (sAsg (eSlN 1 (oSo (e1 (eC (.int 2)) dNeg)) (oNo)) (gLs 2 (gCo (gNm 3) (gCo (gNm 4) (gNi)))))
  (sApp 1 (eA (aCons (FD.e2 (FD.e2 (eV 2) (eIxN 4 (eC (.int 0))) dMul) (eIxN 3 (eC (.int 0))) dAdd) (aCons (FD.e2 (FD.e2 (eV 2) (eIxN 4 (eC (.int 1))) dMul) (eIxN 3 (eC (.int 1))) dAdd) (aNil))) oTup)))
theorem cut_last (acc : List DV) (a b : DV) : dSl (.lst (acc ++ [a, b])) (some (-2)) none = some (.lst [a, b]) := by
  show some (DV.lst (cutD (acc ++ [a, b]) (some (-2)) none)) = _
  unfold cutD
  have e1 : HT.sIx (acc ++ [a, b]).length 0 (some (-2)) = acc.length := by
    unfold HT.sIx
    rw [List.length_append]
    simp
    try omega
  have e2 : HT.sIx (acc ++ [a, b]).length (acc ++ [a, b]).length none = (acc ++ [a, b]).length := rfl
  rw [e1, e2, List.length_append]
  simp
theorem fo_step {A : List DV} {c : Int} {b l : Int × Int} {d0 x3 x4 : Option SV} {sp : Spl} (h : dSl (.lst A) (some (-2)) none = some (.lst [prD b, prD l])) (f1 : fitM c l.1 = true) (f2 : fitM c l.2 = true) (z : A.length < sizeLine) :
    foBody ⟨[d0, some (.own A), some (.dat (.int c)), x3, x4], sp⟩ = some (.nx ⟨[d0, some (.own (A ++ [prD (c * l.1 + b.1, c * l.2 + b.2)])), some (.dat (.int c)), some (.dat (prD b)), some (.dat (prD l))], sp⟩) := by
  have m2 : dNeg (.int 2) = some (.int (-2)) := rfl
  have ai : ∀ a b : Int, dAdd (.int a) (.int b) = some (.int (a + b)) := fun _ _ => rfl
  have k2 : (2 : Nat) ≤ sizeLine := by decide
  have i1 : dIx (prD l) (.int 0) = some (.int l.1) := rfl
  have i2 : dIx (prD l) (.int 1) = some (.int l.2) := rfl
  have i3 : dIx (prD b) (.int 0) = some (.int b.1) := rfl
  have i4 : dIx (prD b) (.int 1) = some (.int b.2) := rfl
  have ed : prD (c * l.1 + b.1, c * l.2 + b.2) = .tup [.int (c * l.1 + b.1), .int (c * l.2 + b.2)] := rfl
  rw [ed]
  generalize prD b = B at *
  generalize prD l = L at *
  generalize hS : dSl = SL at h
  generalize hI : dIx = IX at *
  unfold foBody eSlN eIxN
  rw [hS, hI]
  simp only [sSeq, sAsg, oSo, oNo, FD.e1, eC, m2, FD.peek, h, gLs, gCo, gNm, gNi, sApp, eA, aCons, aNil, FD.e2, eV, i1, i2, i3, i4, dMul, f1, f2, ai, oTup, k2, z, List.length_cons, List.length_nil, List.cons_append, List.nil_append, List.getElem?_cons_zero, List.getElem?_cons_succ, List.set_cons_succ, List.set_cons_zero, Nat.reduceAdd, if_true]
theorem fo_loop (d0 : Option SV) (sp : Spl) : ∀ (cs : List Int) (A : List DV) (b l : Int × Int) (x2 x3 x4 : Option SV) (m : Nat), SmQ cs → b.1.natAbs < 2 ^ m → b.2.natAbs < 2 ^ m → l.1.natAbs < 2 ^ m → l.2.natAbs < 2 ^ m → m + 500 * cs.length ≤ 10000000 → A.length + cs.length ≤ 100000 →
    ∃ y2 y3 y4, frN (cs.map DV.int) (gNm 2) foBody ⟨[d0, some (.own (A ++ [prD b, prD l])), x2, x3, x4], sp⟩ = some (.nx ⟨[d0, some (.own (A ++ [prD b, prD l] ++ (cvS cs b l).map prD)), y2, y3, y4], sp⟩)
  | [], A, b, l, x2, x3, x4, m, _, _, _, _, _, _, _ => ⟨x2, x3, x4, by
    have e : A ++ [prD b, prD l] ++ (cvS [] b l).map prD = A ++ [prD b, prD l] := by simp [cvS]
    rw [e]; rfl⟩
  | c :: cs, A, b, l, x2, x3, x4, m, hq, hb1, hb2, hl1, hl2, hm, ha => by
    rw [List.length_cons] at hm ha
    have zc := hq c List.mem_cons_self
    have z1 : (c * l.1 + b.1).natAbs < 2 ^ (m + 500) := lt_up (add_lt (a := 402 + m) (mul_lt zc hl1) (lt_up hb1 (by omega))) (by omega)
    have z2 : (c * l.2 + b.2).natAbs < 2 ^ (m + 500) := lt_up (add_lt (a := 402 + m) (mul_lt zc hl2) (lt_up hb2 (by omega))) (by omega)
    obtain ⟨y2, y3, y4, r⟩ := fo_loop d0 sp cs (A ++ [prD b]) l (c * l.1 + b.1, c * l.2 + b.2) (some (.dat (.int c))) (some (.dat (prD b))) (some (.dat (prD l))) (m + 500) (fun y hy => hq y (List.mem_cons_of_mem _ hy)) (lt_up hl1 (by omega)) (lt_up hl2 (by omega)) z1 z2 (by omega) (by rw [List.length_append, List.length_singleton]; omega)
    have st := fo_step (d0 := d0) (x3 := x3) (x4 := x4) (sp := sp) (cut_last A (prD b) (prD l)) (fit_of zc hl1 (by omega)) (fit_of zc hl2 (by omega)) (by rw [sizeLine_eq, List.length_append]; simp; omega)
    refine ⟨y2, y3, y4, ?_⟩
    have e1 : A ++ [prD b, prD l] ++ (cvS (c :: cs) b l).map prD = A ++ [prD b] ++ [prD l, prD (c * l.1 + b.1, c * l.2 + b.2)] ++ (cvS cs l (c * l.1 + b.1, c * l.2 + b.2)).map prD := by
      simp [cvS]
    have e2 : A ++ [prD b, prD l] ++ [prD (c * l.1 + b.1, c * l.2 + b.2)] = A ++ [prD b] ++ [prD l, prD (c * l.1 + b.1, c * l.2 + b.2)] := by simp
    rw [e1, ← r, ← e2, List.map_cons]
    conv => lhs; unfold frN
    simp only [gNm, List.set_cons_succ, List.set_cons_zero]
    rw [st]
def b_fractions_of : SF :=
  sSeq (sOwn 1 (lDs (aCons (eA (aCons (eC (.int 0)) (aCons (eC (.int 1)) (aNil))) oTup) (aCons (eA (aCons (eC (.int 1)) (aCons (eC (.int 0)) (aNil))) oTup) (aNil)))))
  (sSeq (sFr (iVal (eV 0)) (gNm 2) (sSeq (sAsg (eSlN 1 (oSo (e1 (eC (.int 2)) dNeg)) (oNo)) (gLs 2 (gCo (gNm 3) (gCo (gNm 4) (gNi)))))
  (sApp 1 (eA (aCons (e2 (e2 (eV 2) (eIxN 4 (eC (.int 0))) dMul) (eIxN 3 (eC (.int 0))) dAdd) (aCons (e2 (e2 (eV 2) (eIxN 4 (eC (.int 1))) dMul) (eIxN 3 (eC (.int 1))) dAdd) (aNil))) oTup))))
  (sRt (eV 1)))
def m_fractions_of : List DV → Option DV := bodyP 1 5 b_fractions_of
theorem t_fractions_of : ∀ ds d, m_fractions_of ds = some d → bodyP 1 5 b_fractions_of ds = some d := fun _ _ h => h
theorem fractions_of_ok {cs : List Int} (h : SmQ cs) (hl : cs.length ≤ 3000) : m_fractions_of [.lst (cs.map DV.int)] = some (.lst (prD (0, 1) :: prD (1, 0) :: (cvS cs (0, 1) (1, 0)).map prD)) := by
  obtain ⟨y2, y3, y4, lp⟩ := fo_loop (some (.dat (.lst (cs.map DV.int)))) spl0 cs [] (0, 1) (1, 0) none none none 1 h (by decide) (by decide) (by decide) (by decide) (by omega) (by rw [List.length_nil]; omega)
  rw [List.nil_append] at lp
  have eb : b_fractions_of = sSeq (sOwn 1 (lDs (aCons (eA (aCons (eC (.int 0)) (aCons (eC (.int 1)) (aNil))) oTup) (aCons (eA (aCons (eC (.int 1)) (aCons (eC (.int 0)) (aNil))) oTup) (aNil))))) (sSeq (sFr (iVal (eV 0)) (gNm 2) foBody) (sRt (eV 1))) := rfl
  have k2 : (2 : Nat) ≤ sizeLine := by decide
  have k1 : ([prD (0, 1), prD (1, 0)] : List DV).length ≤ sizeLine := by decide
  generalize hL : cs.map DV.int = L at *
  have lf : lDs (aCons (eA (aCons (eC (.int 0)) (aCons (eC (.int 1)) (aNil))) oTup) (aCons (eA (aCons (eC (.int 1)) (aCons (eC (.int 0)) (aNil))) oTup) (aNil))) ⟨[some (.dat (.lst L)), none, none, none, none], spl0⟩ = some ([prD (0, 1), prD (1, 0)], ⟨[some (.dat (.lst L)), none, none, none, none], spl0⟩) := by
    unfold prD
    simp only [lDs, aCons, aNil, eA, eC, oTup, k2, List.length_cons, List.length_nil, Nat.reduceAdd, if_true]
  have s1 := own_ok (i := 1) lf
  have s2 := (sFr_of (g := gNm 2) (B := foBody) (iVal_v (ds := L) (l := [some (.own [prD (0, 1), prD (1, 0)]), none, none, none]) (sp := spl0))).trans lp
  have e9 : prD (0, 1) :: prD (1, 0) :: (cvS cs (0, 1) (1, 0)).map prD = [prD (0, 1), prD (1, 0)] ++ (cvS cs (0, 1) (1, 0)).map prD := rfl
  rw [e9]
  unfold m_fractions_of
  rw [eb]
  generalize [prD (0, 1), prD (1, 0)] ++ (cvS cs (0, 1) (1, 0)).map prD = RR at *
  refine bodyP_of (ds := [.lst L]) rfl (t := ⟨[some (.dat (.lst L)), some (.dat (.lst RR)), y2, y3, y4], spl0⟩) ?_
  refine (seq_nx s1).trans ((seq_nx s2).trans ?_)
  rfl
def b_convergents : SF :=
  sRt (eSl (eA (aCons (eA (aCons (eV 0) (aCons (eV 1) (aNil))) m_quotients) (aNil)) m_fractions_of) (oSo (eC (.int 2))) (oNo))
def m_convergents : List DV → Option DV := bodyP 2 2 b_convergents
theorem t_convergents : ∀ ds d, m_convergents ds = some d → bodyP 2 2 b_convergents ds = some d := fun _ _ h => h
theorem cut_two (a b : DV) (l : List DV) : dSl (.lst (a :: b :: l)) (some 2) none = some (.lst l) := by
  show some (DV.lst (cutD (a :: b :: l) (some 2) none)) = _
  unfold cutD
  have e1 : HT.sIx (a :: b :: l).length 0 (some 2) = 2 := by
    refine (HT.sIx_nat _ _ 2).trans ?_
    simp
    try omega
  have e2 : HT.sIx (a :: b :: l).length (a :: b :: l).length none = (a :: b :: l).length := rfl
  rw [e1, e2]
  simp
section
variable {e : Int} {x : Num}
theorem convergents_ok (h : Rs e x) {n : Nat} (hn : n ≤ 300) : m_convergents [nm x, .int (n : Int)] = some (.lst ((cvS (qsN x n) (0, 1) (1, 0)).map prD)) := by
  have c1 := quotients_ok h.rr.g h.rt h.q0 (n := n) (by omega)
  have c2 := fractions_of_ok (h.smq n hn) (by rw [show (qsN x n).length = n from qsS_len _ _ _]; omega)
  have c3 := cut_two (prD (0, 1)) (prD (1, 0)) ((cvS (qsN x n) (0, 1) (1, 0)).map prD)
  generalize (cvS (qsN x n) (0, 1) (1, 0)).map prD = RR at *
  generalize (qsN x n).map DV.int = QQ at *
  generalize prD (0, 1) :: prD (1, 0) :: RR = TT at *
  generalize hS : dSl = SL at c3
  clear h
  unfold m_convergents b_convergents
  unfold eSl
  rw [hS]
  simp only [bodyP, sRt, eA, aCons, aNil, eV, eC, oSo, oNo, c1, c2, c3, List.length_cons, List.length_nil, List.map_cons, List.map_nil, List.cons_append, List.nil_append, List.replicate_zero, List.getElem?_cons_zero, List.getElem?_cons_succ, Nat.reduceAdd, Nat.reduceSub, Nat.sub_self, if_true]
end
end T4

set_option maxRecDepth 100000
set_option maxHeartbeats 4000000
set_option exponentiation.threshold 30000
namespace T4
open PySem L2 FD
/-! ## how often a letter stands in a text -/
theorem occ_count (l : List Nat) (c : Nat) : ∀ (k a : Nat) (F : Array Nat) (free : Nat), a + k = l.length + 1 → F.size ≤ a → free ≤ a →
    (forIn (List.range' a k) (F, free) (PySem.StrLaws.occBody (tx l) ⟨#[c]⟩ (tx l).length ((tx l).length + 1))).run.fst.size = F.size + (l.drop a).count c
  | 0, a, F, free, h, _, _ => by
    have e : l.drop a = [] := List.drop_eq_nil_of_le (by omega)
    rw [e]
    rfl
  | k + 1, a, F, free, h, h1, h2 => by
    have sub := PySem.StrLaws.subAt_one (tx l) c a
    have len := tx_len l
    have el : (tx l).cps.toList = l := rfl
    rw [el] at sub
    rw [List.range'_succ, List.forIn_cons]
    by_cases w : l[a]? = some c
    · obtain ⟨s1, s2⟩ := sub.mpr w
      obtain ⟨la, eq⟩ := List.getElem?_eq_some_iff.mp w
      have ih := occ_count l c k (a + 1) (F.push a) (a + 1) (by omega) (by rw [Array.size_push]; omega) (by omega)
      have ed : l.drop a = c :: l.drop (a + 1) := by rw [List.drop_eq_getElem_cons la, eq]
      rw [ed, List.count_cons_self]
      rw [Array.size_push] at ih
      unfold PySem.StrLaws.occBody
      rw [if_pos ⟨⟨⟨by show F.size < _; omega, h2⟩, s1⟩, s2⟩]
      show (forIn (List.range' (a + 1) k) (F.push a, a + 1) (PySem.StrLaws.occBody (tx l) ⟨#[c]⟩ (tx l).length ((tx l).length + 1))).run.fst.size = _
      rw [ih]
      omega
    · have ih := occ_count l c k (a + 1) F free (by omega) (by omega) (by omega)
      have ec : (l.drop a).count c = (l.drop (a + 1)).count c := by
        rcases Nat.lt_or_ge a l.length with la | la
        · rw [List.drop_eq_getElem_cons la, List.count_cons_of_ne]
          intro y
          exact w (by rw [List.getElem?_eq_getElem la, y])
        · rw [List.drop_eq_nil_of_le la, List.drop_eq_nil_of_le (by omega)]
      rw [ec]
      unfold PySem.StrLaws.occBody
      rw [if_neg (fun y => w (sub.mp ⟨y.1.2, y.2⟩))]
      exact ih
theorem count_txt (l : List Nat) (c : Nat) : Txt.count (tx l) ⟨#[c]⟩ = (l.count c : Nat) := by
  have h := occ_count l c (l.length + 1) 0 #[] 0 (by omega) (Nat.le_refl _) (Nat.le_refl _)
  show (((Builtin.Str.occurrences (tx l) ⟨#[c]⟩ 0 (tx l).length ((tx l).length + 1)).length : Nat) : Int) = _
  rw [PySem.StrLaws.occ_eq, Array.length_toList]
  rw [List.drop_zero] at h
  have e : (tx l).length + 1 - 0 = l.length + 1 := by rw [tx_len]; rfl
  rw [e, h]
  simp
theorem cnt_b (l : List Nat) : dCnt "b" (txD l) = some (.int (l.count 98 : Nat)) := by
  show some (DV.int (Txt.count (tx l) (("b" : String) : Str))) = _
  rw [txt_b, count_txt]
/-! ## standard words -/
def lastW : List Int → List Nat → List Nat → List Nat
  | [], _, l => l
  | c :: cs, b, l => lastW cs l (rp c.toNat l ++ b)
theorem cv_sum : ∀ (cs : List Int) (b l : Int × Int), (cvS cs b l).map (fun p => p.1 + p.2) = szS cs (b.1 + b.2) (l.1 + l.2)
  | [], _, _ => rfl
  | c :: cs, b, l => by
    have ih := cv_sum cs l (c * l.1 + b.1, c * l.2 + b.2)
    have e1 : c * l.1 + b.1 + (c * l.2 + b.2) = c * (l.1 + l.2) + (b.1 + b.2) := by grind
    show (c * l.1 + b.1 + (c * l.2 + b.2)) :: (cvS cs l (c * l.1 + b.1, c * l.2 + b.2)).map (fun p => p.1 + p.2) = (c * (l.1 + l.2) + (b.1 + b.2)) :: szS cs (l.1 + l.2) (c * (l.1 + l.2) + (b.1 + b.2))
    rw [ih]
    dsimp only
    rw [e1]
theorem cv_len : ∀ (cs : List Int) (b l : Int × Int), (cvS cs b l).length = cs.length
  | [], _, _ => rfl
  | c :: cs, b, l => congrArg Nat.succ (cv_len cs _ _)
theorem cnt_rp (c : Nat) (l : List Nat) (d : Nat) : (rp c l).count d = c * l.count d := by
  induction c with
  | zero => rw [Nat.zero_mul]; rfl
  | succ c ih => rw [rp_succ, List.count_append, ih, Nat.succ_mul]; omega
/-- the last of the fractions tells the letters of the last word -/
theorem last_cnt : ∀ (cs : List Int) (bw lw : List Nat) (b l : Int × Int), (∀ c ∈ cs, 0 ≤ c) → b.2 = (bw.count 98 : Nat) → l.2 = (lw.count 98 : Nat) →
    ((l :: cvS cs b l).getLast (List.cons_ne_nil _ _)).2 = ((lastW cs bw lw).count 98 : Nat)
  | [], bw, lw, b, l, _, _, h2 => h2
  | c :: cs, bw, lw, b, l, h0, h1, h2 => by
    have c0 := h0 c List.mem_cons_self
    have ih := last_cnt cs lw (rp c.toNat lw ++ bw) l (c * l.1 + b.1, c * l.2 + b.2) (fun d hd => h0 d (List.mem_cons_of_mem _ hd)) h2 (by
      show c * l.2 + b.2 = _
      rw [List.count_append, cnt_rp, h1, h2]
      have : ((c.toNat : Nat) : Int) = c := Int.toNat_of_nonneg c0
      rw [Int.natCast_add, Int.natCast_mul, this])
    show ((l :: (c * l.1 + b.1, c * l.2 + b.2) :: cvS cs l (c * l.1 + b.1, c * l.2 + b.2)).getLast _).2 = _
    rw [List.getLast_cons_cons]
    exact ih
def stBody : SF := (sPar 2 3 (aCons (eV 3) (aCons (FD.e2 (FD.e2 (eV 3) (eV 4) dMulS) (eV 2) dAdd) (aNil))))
theorem mulS_ok2 {l : List Nat} {c : Int} (c0 : 0 ≤ c) (c1 : c < 2 ^ 63) (hl : l.length * c.toNat ≤ 16777216) : dMulS (txD l) (.int c) = some (txD (rp c.toNat l)) := by
  show (if decide (0 ≤ c ∧ c < 2 ^ 63 ∧ (tx l).length * c.toNat ≤ sizeLine) then some (DV.str (repS (tx l) c.toNat)) else none) = _
  have h3 : (tx l).length * c.toNat ≤ sizeLine := by
    rw [tx_len, sz_eq]
    exact hl
  rw [decide_eq_true ⟨c0, c1, h3⟩, if_pos rfl, tx_rep]
  rfl
theorem st_step {b l r w : DV} {c : Int} {d0 d1 : Option SV} {sp : Spl} (h1 : dMulS l (.int c) = some r) (h2 : dAdd r b = some w) :
    stBody ⟨[d0, d1, some (.dat b), some (.dat l), some (.dat (.int c))], sp⟩ = some (.nx ⟨[d0, d1, some (.dat l), some (.dat w), some (.dat (.int c))], sp⟩) := by
  unfold stBody
  simp only [sPar, aCons, aNil, eV, FD.e2, h1, h2, List.getElem?_cons_zero, List.getElem?_cons_succ, List.set_cons_succ, List.set_cons_zero]
theorem st_loop (d0 d1 : Option SV) (sp : Spl) : ∀ (cs : List Int) (b l : List Nat) (x4 : Option SV), (∀ c ∈ cs, 0 ≤ c ∧ c < 2 ^ 62) → (∀ z ∈ szS cs b.length l.length, z ≤ 2000) → l.length ≤ 2000 →
    ∃ y2 y4, frN (cs.map DV.int) (gNm 4) stBody ⟨[d0, d1, some (.dat (txD b)), some (.dat (txD l)), x4], sp⟩ = some (.nx ⟨[d0, d1, y2, some (.dat (txD (lastW cs b l))), y4], sp⟩)
  | [], b, l, x4, _, _, _ => ⟨_, _, rfl⟩
  | c :: cs, b, l, x4, hc, hz, hl => by
    obtain ⟨c0, c1⟩ := hc c List.mem_cons_self
    have cc : ((c.toNat : Nat) : Int) = c := Int.toNat_of_nonneg c0
    have z1 : c * l.length + b.length ≤ 2000 := hz _ List.mem_cons_self
    have el : ((rp c.toNat l ++ b).length : Int) = c * l.length + b.length := by
      rw [List.length_append, rp_len, Int.natCast_add, Int.natCast_mul, cc]
    have z2 : l.length * c.toNat ≤ 2000 := by
      have : ((l.length * c.toNat : Nat) : Int) = c * l.length := by rw [Int.natCast_mul, cc, Int.mul_comm]
      omega
    have h1 := mulS_ok2 (l := l) c0 (by omega) (by omega)
    have h2 : dAdd (txD (rp c.toNat l)) (txD b) = some (txD (rp c.toNat l ++ b)) := addS_ok (by
      rw [List.length_append] at el
      omega)
    obtain ⟨y2, y4, r⟩ := st_loop d0 d1 sp cs l (rp c.toNat l ++ b) (some (.dat (.int c))) (fun d hd => hc d (List.mem_cons_of_mem _ hd)) (fun z hzm => hz z (by
      show z ∈ _ :: szS cs l.length (c * l.length + b.length)
      rw [el] at hzm
      exact List.mem_cons_of_mem _ hzm)) (by omega)
    refine ⟨y2, y4, ?_⟩
    have st := st_step (d0 := d0) (d1 := d1) (sp := sp) h1 h2
    show frN (DV.int c :: cs.map DV.int) (gNm 4) stBody _ = some (.nx ⟨[d0, d1, y2, some (.dat (txD (lastW cs l (rp c.toNat l ++ b)))), y4], sp⟩)
    rw [← r]
    conv => lhs; unfold frN
    simp only [gNm, List.set_cons_succ, List.set_cons_zero]
    rw [st]
def b_standard : SF :=
  sSeq (sIf (tBl (e2 (e2 (eA (aCons (eV 0) (aCons (eV 1) (aNil))) m_lengths) (eV 1) dIx) (eC (.int 2000)) dGt)) (sNo) (sNx))
  (sSeq (sAsg (eC (.str "b")) (gNm 2))
  (sSeq (sAsg (eC (.str "a")) (gNm 3))
  (sSeq (sFr (iVal (eA (aCons (eV 0) (aCons (eV 1) (aNil))) m_quotients)) (gNm 4) (sPar 2 3 (aCons (eV 3) (aCons (e2 (e2 (eV 3) (eV 4) dMulS) (eV 2) dAdd) (aNil)))))
  (sRt (eV 3)))))
def m_standard : List DV → Option DV := bodyP 2 5 b_standard
theorem t_standard : ∀ ds d, m_standard ds = some d → bodyP 2 5 b_standard ds = some d := fun _ _ h => h
theorem if_no {M : List DV → Option DV} {d0 : DV} {n z : Int} {R : DV} {l : List (Option SV)} {sp : Spl} (c1 : M [d0, .int n] = some R) (c2 : dIx R (.int n) = some (.int z)) (h : z ≤ 2000) :
    (sIf (tBl (FD.e2 (FD.e2 (eA (aCons (eV 0) (aCons (eV 1) (aNil))) M) (eV 1) dIx) (eC (.int 2000)) dGt)) (sNo) (sNx)) ⟨some (.dat d0) :: some (.dat (.int n)) :: l, sp⟩ = some (.nx ⟨some (.dat d0) :: some (.dat (.int n)) :: l, sp⟩) := by
  have t : decide ((2000 : Int) < z) = false := decide_eq_false (by omega)
  generalize dIx = IX at *
  simp only [sIf, tBl, FD.e2, eA, aCons, aNil, eV, eC, c1, c2, dI, t, sNx, List.getElem?_cons_zero, List.getElem?_cons_succ, Bool.false_eq_true, if_false]
theorem ix_nat {ds : List DV} {n : Nat} {d : DV} (h : ds[n]? = some d) : dIx (.lst ds) (.int (n : Int)) = some d := by
  show atI ds (n : Int) = _
  obtain ⟨lt, _⟩ := List.getElem?_eq_some_iff.mp h
  have e : ixN ds.length (n : Int) = some n := by
    unfold ixN
    rw [if_pos (by omega), if_pos (by omega), Int.toNat_natCast]
  unfold atI
  rw [e]
  exact h
section
variable {e : Int} {x : Num}
theorem standard_ok (h : Rs e x) {n : Nat} {z : Int} (hn : n ≤ 300) (hz : (rowN x n)[n]? = some z) (hz2 : z ≤ 2000) : m_standard [nm x, .int (n : Int)] = some (txD (lastW (qsN x n) [98] [97])) := by
  have c1 := lengths_ok h.rr.g h.rt h.q0 (n := n) (by omega)
  have c2 : dIx (.lst ((rowN x n).map DV.int)) (.int (n : Int)) = some (.int z) := ix_nat (by rw [List.getElem?_map, hz]; rfl)
  have c3 := quotients_ok h.rr.g h.rt h.q0 (n := n) (by omega)
  have all : ∀ y ∈ rowN x n, y ≤ 2000 := by
    intro y hy
    rcases n with _ | n
    · have : y = 1 := by simpa [rowN, qsN, qsS, szS] using hy
      omega
    · have sd := row_sorted h.rr n
      obtain ⟨i, hi⟩ := List.mem_iff_getElem?.mp hy
      obtain ⟨li, ei⟩ := List.getElem?_eq_some_iff.mp hi
      obtain ⟨ln, en⟩ := List.getElem?_eq_some_iff.mp hz
      have len := row_len (x := x) (n + 1)
      rcases Nat.lt_or_ge i (n + 1) with w | w
      · have := List.pairwise_iff_getElem.mp sd i (n + 1) li ln w
        rw [ei, en] at this
        omega
      · have : i = n + 1 := by omega
        subst this
        rw [hz] at hi
        cases hi
        exact hz2
  have qb : ∀ c ∈ qsN x n, 0 ≤ c ∧ c < 2 ^ 62 := by
    intro c hc
    have b := h.qb n c hc
    refine ⟨?_, by omega⟩
    rcases n with _ | n
    · cases hc
    · have e1 : qsN x (n + 1) = qOf (sq (n0 x)) (st0 x) :: qsS (sq (n0 x)) n (stepS (sq (n0 x)) (st0 x)) := rfl
      rw [e1] at hc
      rcases List.mem_cons.mp hc with w | w
      · rw [w]; exact h.rr.first
      · have := h.rr.rest n c w
        omega
  obtain ⟨y2, y4, lp⟩ := st_loop (some (.dat (nm x))) (some (.dat (.int (n : Int)))) spl0 (qsN x n) [98] [97] none qb (fun z hz => all z (List.mem_cons_of_mem _ hz)) (by decide)
  have eb : b_standard = sSeq (sIf (tBl (FD.e2 (FD.e2 (eA (aCons (eV 0) (aCons (eV 1) (aNil))) m_lengths) (eV 1) dIx) (eC (.int 2000)) dGt)) (sNo) (sNx)) (sSeq (sAsg (eC (.str "b")) (gNm 2)) (sSeq (sAsg (eC (.str "a")) (gNm 3)) (sSeq (sFr (iVal (eA (aCons (eV 0) (aCons (eV 1) (aNil))) m_quotients)) (gNm 4) stBody) (sRt (eV 3))))) := rfl
  have s1 := if_no (l := [none, none, none]) (sp := spl0) c1 c2 hz2
  have tb : DV.str (("b" : String) : Str) = txD [98] := by unfold txD tx; rw [txt_b]
  have ta : DV.str (("a" : String) : Str) = txD [97] := by unfold txD tx; rw [txt_a]
  have s2 : sAsg (eC (.str "b")) (gNm 2) ⟨[some (.dat (nm x)), some (.dat (.int (n : Int))), none, none, none], spl0⟩ = some (.nx ⟨[some (.dat (nm x)), some (.dat (.int (n : Int))), some (.dat (txD [98])), none, none], spl0⟩) := by rw [← tb]; rfl
  have s3 : sAsg (eC (.str "a")) (gNm 3) ⟨[some (.dat (nm x)), some (.dat (.int (n : Int))), some (.dat (txD [98])), none, none], spl0⟩ = some (.nx ⟨[some (.dat (nm x)), some (.dat (.int (n : Int))), some (.dat (txD [98])), some (.dat (txD [97])), none], spl0⟩) := by rw [← ta]; rfl
  have s4 := (sFr_of (g := gNm 4) (B := stBody) (iVal_of (l := [some (.dat (txD [98])), some (.dat (txD [97])), none]) (sp := spl0) c3)).trans lp
  unfold m_standard
  rw [eb]
  generalize txD (lastW (qsN x n) [98] [97]) = WW at *
  refine bodyP_of (ds := [nm x, .int (n : Int)]) rfl (t := ⟨[some (.dat (nm x)), some (.dat (.int (n : Int))), y2, some (.dat WW), y4], spl0⟩) ?_
  refine (seq_nx s1).trans ((seq_nx s2).trans ((seq_nx s3).trans ((seq_nx s4).trans ?_)))
  rfl
end
end T4

set_option maxRecDepth 100000
set_option maxHeartbeats 4000000
set_option exponentiation.threshold 30000
namespace T4
open PySem L2 FD
theorem nin0 (m : Int) : dNin (.lst []) (.tup [.lst [], .lst [.int m]]) = some (.bl false) := by
  have e1 : toPy (.lst []) = some (.list []) := rfl
  have e2 : toPy (.tup [.lst [], .lst [.int m]]) = some (.tuple [.list [], .list [.int m]]) := rfl
  unfold dNin
  rw [e1]
  dsimp only
  rw [e2]
  rfl
theorem nin1 (m : Int) : dNin (.lst [.int m]) (.tup [.lst [], .lst [.int m]]) = some (.bl false) := by
  have e1 : toPy (.lst [.int m]) = some (.list [.int m]) := rfl
  have e2 : toPy (.tup [.lst [], .lst [.int m]]) = some (.tuple [.list [], .list [.int m]]) := rfl
  unfold dNin
  rw [e1]
  dsimp only
  rw [e2]
  dsimp only
  have s1 : SeqAt.shaped (.list [.int m]) = true := rfl
  have s2 : SeqAt.shaped (.tuple [.list [], .list [.int m]]) = true := rfl
  rw [s1, s2]
  simp [PyData.eqv, PyData.eqvAll, PyData.depth, PyData.depthAll]
theorem cut_one_at (l : List Int) (n : Nat) : dSl (.lst (l.map DV.int)) (some (n : Int)) (some ((n : Int) + 1)) = some (.lst (((l.drop n).take 1).map DV.int)) := by
  show some (DV.lst (cutD (l.map DV.int) (some (n : Int)) (some ((n : Int) + 1)))) = _
  unfold cutD
  have e1 : HT.sIx (l.map DV.int).length 0 (some (n : Int)) = min n l.length := by rw [List.length_map]; exact HT.sIx_nat _ _ n
  have e2 : HT.sIx (l.map DV.int).length (l.map DV.int).length (some ((n : Int) + 1)) = min (n + 1) l.length := by
    rw [List.length_map]
    exact HT.sIx_nat _ _ (n + 1)
  rw [e1, e2]
  congr 2
  rcases Nat.lt_or_ge n l.length with w | w
  · rw [Nat.min_eq_left (by omega), Nat.min_eq_left (by omega), show n + 1 - n = 1 by omega, List.map_take, List.map_drop]
  · rw [Nat.min_eq_right w, Nat.min_eq_right (by omega), Nat.sub_self, List.drop_eq_nil_of_le (as := l) w]
    rfl
section
variable {e : Int} {x : Num}
theorem cvS_append : ∀ (cs ds : List Int) (b l : Int × Int), ∃ b' l', cvS (cs ++ ds) b l = cvS cs b l ++ cvS ds b' l'
  | [], ds, b, l => ⟨b, l, rfl⟩
  | c :: cs, ds, b, l => by
    obtain ⟨b', l', h⟩ := cvS_append cs ds l (c * l.1 + b.1, c * l.2 + b.2)
    exact ⟨b', l', congrArg (List.cons _) h⟩
theorem qs_more (x : Num) (n m : Nat) : ∃ ds, qsN x (n + m) = qsN x n ++ ds := ⟨_, qsS_append _ n m _⟩
/-- the fraction of a level -/
theorem frac_at (x : Num) {n : Nat} (hn : n < 8) : ∃ t b : Int, (cvS (qsN x 8) (0, 1) (1, 0))[n]? = some (t, b) ∧ (rowN x (n + 1))[n + 1]? = some (t + b) ∧
    ((((1, 0) : Int × Int) :: cvS (qsN x (n + 1)) (0, 1) (1, 0)).getLast (List.cons_ne_nil _ _)) = (t, b) := by
  obtain ⟨ds, hq⟩ := qs_more x (n + 1) (7 - n)
  rw [show n + 1 + (7 - n) = 8 by omega] at hq
  obtain ⟨b', l', hc⟩ := cvS_append (qsN x (n + 1)) ds (0, 1) (1, 0)
  have len : (cvS (qsN x (n + 1)) (0, 1) (1, 0)).length = n + 1 := by rw [cv_len]; exact qsS_len _ _ _
  have ln : n < (cvS (qsN x (n + 1)) (0, 1) (1, 0)).length := by omega
  have sm := cv_sum (qsN x (n + 1)) (0, 1) (1, 0)
  refine ⟨((cvS (qsN x (n + 1)) (0, 1) (1, 0))[n]).1, ((cvS (qsN x (n + 1)) (0, 1) (1, 0))[n]).2, ?_, ?_, ?_⟩
  · rw [hq, hc, List.getElem?_append_left ln, List.getElem?_eq_getElem ln]
  · have e1 : rowN x (n + 1) = 1 :: szS (qsN x (n + 1)) 1 1 := rfl
    have e2 : szS (qsN x (n + 1)) 1 1 = (cvS (qsN x (n + 1)) (0, 1) (1, 0)).map (fun p => p.1 + p.2) := sm.symm
    rw [e1, List.getElem?_cons_succ, e2, List.getElem?_map, List.getElem?_eq_getElem ln]
    rfl
  · rw [List.getLast_eq_getElem]
    simp only [List.length_cons, len]
    rfl
theorem row_at (x : Num) {n m : Nat} (h : n ≤ m) : (rowN x m)[n]? = (rowN x n)[n]? := by
  obtain ⟨ex, h1, _⟩ := row_append (x := x) n (m - n)
  rw [show n + (m - n) = m by omega] at h1
  rw [h1, List.getElem?_append_left (by rw [row_len]; omega)]
end
end T4

set_option maxRecDepth 100000
set_option maxHeartbeats 4000000
set_option exponentiation.threshold 30000
namespace T4
open PySem L2 FD
def r24A : SF := (sAsg (eA (aCons (eA (aCons (eC (.int 1)) (aCons (eC (.int 0)) (aCons (eC (.int 0)) (aCons (eC (.int 1)) (aNil))))) oTup) (aCons (eV 1) (aNil))) m_over) (gNm 2))
def r24B : SF := (sIf (tBl (FD.e2 (eA (aCons (eV 2) (aCons (eC (.int 80)) (aNil))) m_acts) (eA (aCons (eA (aCons (eV 1) (aCons (eC (.int 80)) (aNil))) m_acts) (aNil)) m_law_exchanged) dNe)) (sRt (eC (.bl false))) (sNx))
def r24C : SF := (sAsg (eS 0 (aCons (FD.e2 (eC (.int 10)) (eC (.int 30)) dPow) (aNil)) m_law_upto) (gNm 3))
def r24D : SF := (sIf (tBl (FD.e2 (eA (aCons (eV 2) (aCons (eV 3) (aNil))) m_counts) (FD.e1 (eA (aCons (eV 1) (aCons (eV 3) (aNil))) m_counts) dRev2) dNe)) (sRt (eC (.bl false))) (sNx))
def r24E : SF := (sAsg (eA (aCons (eV 1) (aCons (eV 3) (aNil))) m_digits) (gNm 4))
def r24F : SF := (sAsg (eA (aCons (eV 1) (aCons (eA (aCons (eV 4) (aNil)) dLen) (aNil))) m_lengths) (gNm 5))
def r24G : SF := (sIf (tBl (FD.e2 (eA (aCons (eL (lCpP (iZm (aCons (eV 5) (aCons (eV 4) (aNil)))) 10 11 (FD.e2 (eV 10) (eV 11) dMul))) (aNil)) dSumL) (eV 3) dNe)) (sRt (eC (.bl false))) (sNx))
def r24H : SF := (sAsg (eA (aCons (eV 1) (aCons (eC (.int 8)) (aNil))) m_convergents) (gNm 6))
def r24I : SF := (sFr (iRg2 (aCons (eC (.int 1)) (aCons (eC (.int 9)) (aNil)))) (gNm 7) (sSeq (sAsg (eIxN 6 (FD.e2 (eV 7) (eC (.int 1)) dSub)) (gTp 2 (gCo (gNm 8) (gCo (gNm 9) (gNi)))))
  (sSeq (sIf (tBl (FD.e2 (eSlN 5 (oSo (eV 7)) (oSo (FD.e2 (eV 7) (eC (.int 1)) dAdd))) (eA (aCons (eA (aNil) oLst) (aCons (eA (aCons (FD.e2 (eV 8) (eV 9) dAdd) (aNil)) oLst) (aNil))) oTup) dNin)) (sRt (eC (.bl false))) (sNx))
  (sIf (tAn (tBl (FD.e2 (e2 (eV 8) (eV 9) dAdd) (eC (.int 2000)) dLt)) (tBl (FD.e2 (FD.e1 (eA (aCons (eV 1) (aCons (eV 7) (aNil))) m_standard) (dCnt "b")) (eV 9) dNe))) (sRt (eC (.bl false))) (sNx)))))
def r24J : SF := (sRt (eC (.bl true)))
def i24A : SF := (sAsg (eIxN 6 (FD.e2 (eV 7) (eC (.int 1)) dSub)) (gTp 2 (gCo (gNm 8) (gCo (gNm 9) (gNi)))))
def i24B : SF := (sIf (tBl (FD.e2 (eSlN 5 (oSo (eV 7)) (oSo (FD.e2 (eV 7) (eC (.int 1)) dAdd))) (eA (aCons (eA (aNil) oLst) (aCons (eA (aCons (FD.e2 (eV 8) (eV 9) dAdd) (aNil)) oLst) (aNil))) oTup) dNin)) (sRt (eC (.bl false))) (sNx))
def i24C : SF := (sIf (tAn (tBl (FD.e2 (e2 (eV 8) (eV 9) dAdd) (eC (.int 2000)) dLt)) (tBl (FD.e2 (FD.e1 (eA (aCons (eV 1) (aCons (eV 7) (aNil))) m_standard) (dCnt "b")) (eV 9) dNe))) (sRt (eC (.bl false))) (sNx))

def i24 : SF := sSeq i24A (sSeq i24B i24C)
theorem code_in3 {e : Int} {x : Num} (p : Int) : code e x p = 97 ∨ code e x p = 98 := by
  unfold code
  split
  · exact .inr rfl
  · exact .inl rfl
theorem wd_in3 {e : Int} {x : Num} {n : Nat} : ∀ c ∈ wd e x n, c = 97 ∨ c = 98 := by
  intro c hc
  unfold wd at hc
  obtain ⟨i, _, rfl⟩ := List.mem_map.mp hc
  exact code_in3 _
theorem ab_sh {l : List Nat} (hl : ∀ c ∈ l, c = 97 ∨ c = 98) : SeqAt.shaped (.str (tx l)) = true := by
  have h : PyData.strOk (tx l) = true := by
    unfold PyData.strOk tx
    simp only [List.all_toArray, List.all_eq_true]
    intro c hc
    rcases hl c hc with u | u <;> (rw [u]; decide)
  simp [SeqAt.shaped, PyData.canLay0, PyData.depth, h]
theorem ne_ab2 {l : List Nat} (hl : ∀ c ∈ l, c = 97 ∨ c = 98) : dNe (txD l) (txD l) = some (.bl false) := dNe_txt (r := true) (ab_sh hl) (ab_sh hl) (by simp [PyData.eqv])
theorem ne_pair (a b : Int) : dNe (.tup [.int a, .int b]) (.tup [.int a, .int b]) = some (.bl false) := by
  have e1 : toPy (.tup [.int a, .int b]) = some (.tuple [.int a, .int b]) := rfl
  have s1 : SeqAt.shaped (.tuple [.int a, .int b]) = true := rfl
  unfold dNe
  rw [e1]
  dsimp only
  rw [s1]
  simp [PyData.eqv, PyData.eqvAll]
/-! ## the parts of the law's helper -/
section
variable {a0 a1 a2 a3 a4 a5 a6 a7 a8 a9 a10 a11 : Option SV} {sp sp' : Spl}
theorem rA_ok {M : List DV → Option DV} {d1 w : DV} (h : M [.tup [.int 1, .int 0, .int 0, .int 1], d1] = some w) :
    (sAsg (eA (aCons (eA (aCons (eC (.int 1)) (aCons (eC (.int 0)) (aCons (eC (.int 0)) (aCons (eC (.int 1)) (aNil))))) oTup) (aCons (eV 1) (aNil))) M) (gNm 2)) ⟨[a0, some (.dat d1), a2, a3, a4, a5, a6, a7, a8, a9, a10, a11], sp⟩ = some (.nx ⟨[a0, some (.dat d1), some (.dat w), a3, a4, a5, a6, a7, a8, a9, a10, a11], sp⟩) := by
  have k4 : (4 : Nat) ≤ sizeLine := by decide
  simp only [sAsg, eA, aCons, aNil, eC, eV, oTup, k4, h, gNm, List.length_cons, List.length_nil, List.getElem?_cons_zero, List.getElem?_cons_succ, List.set_cons_succ, List.set_cons_zero, Nat.reduceAdd, if_true]
theorem rB_ok {M N : List DV → Option DV} {d1 d2 u w : DV} (h1 : M [d2, .int 80] = some w) (h2 : M [d1, .int 80] = some u) (h3 : N [u] = some w) (h4 : dNe w w = some (.bl false)) :
    (sIf (tBl (FD.e2 (eA (aCons (eV 2) (aCons (eC (.int 80)) (aNil))) M) (eA (aCons (eA (aCons (eV 1) (aCons (eC (.int 80)) (aNil))) M) (aNil)) N) dNe)) (sRt (eC (.bl false))) (sNx)) ⟨[a0, some (.dat d1), some (.dat d2), a3, a4, a5, a6, a7, a8, a9, a10, a11], sp⟩ = some (.nx ⟨[a0, some (.dat d1), some (.dat d2), a3, a4, a5, a6, a7, a8, a9, a10, a11], sp⟩) := by
  generalize dNe = NE at *
  simp only [sIf, tBl, FD.e2, eA, aCons, aNil, eC, eV, h1, h2, h3, h4, sNx, List.getElem?_cons_zero, List.getElem?_cons_succ, Bool.false_eq_true, if_false]
theorem rC_ok {M : List DV → Spl → Option (DV × Spl)} {w : DV} (h : M [.int (10 ^ (Int.toNat 30))] sp = some (w, sp')) :
    (sAsg (eS 0 (aCons (FD.e2 (eC (.int 10)) (eC (.int 30)) dPow) (aNil)) M) (gNm 3)) ⟨[some .spl, a1, a2, a3, a4, a5, a6, a7, a8, a9, a10, a11], sp⟩ = some (.nx ⟨[some .spl, a1, a2, some (.dat w), a4, a5, a6, a7, a8, a9, a10, a11], sp'⟩) := by
  have p : dPow (.int 10) (.int 30) = some (.int (10 ^ (Int.toNat 30))) := rfl
  simp only [sAsg, eS, aCons, aNil, FD.e2, eC, p, h, gNm, List.getElem?_cons_zero, List.getElem?_cons_succ, List.set_cons_succ, List.set_cons_zero]
theorem rD_ok {M : List DV → Option DV} {d1 d2 d3 : DV} {u v : Int} (h1 : M [d2, d3] = some (.tup [.int u, .int v])) (h2 : M [d1, d3] = some (.tup [.int v, .int u])) (h4 : dNe (.tup [.int u, .int v]) (.tup [.int u, .int v]) = some (.bl false)) :
    (sIf (tBl (FD.e2 (eA (aCons (eV 2) (aCons (eV 3) (aNil))) M) (FD.e1 (eA (aCons (eV 1) (aCons (eV 3) (aNil))) M) dRev2) dNe)) (sRt (eC (.bl false))) (sNx)) ⟨[a0, some (.dat d1), some (.dat d2), some (.dat d3), a4, a5, a6, a7, a8, a9, a10, a11], sp⟩ = some (.nx ⟨[a0, some (.dat d1), some (.dat d2), some (.dat d3), a4, a5, a6, a7, a8, a9, a10, a11], sp⟩) := by
  have r : dRev2 (.tup [.int v, .int u]) = some (.tup [.int u, .int v]) := rfl
  generalize dNe = NE at *
  generalize dRev2 = RV at *
  simp only [sIf, tBl, FD.e2, FD.e1, eA, aCons, aNil, eC, eV, h1, h2, r, h4, sNx, List.getElem?_cons_zero, List.getElem?_cons_succ, Bool.false_eq_true, if_false]
theorem rE_ok {M : List DV → Option DV} {d1 d3 w : DV} (h : M [d1, d3] = some w) :
    (sAsg (eA (aCons (eV 1) (aCons (eV 3) (aNil))) M) (gNm 4)) ⟨[a0, some (.dat d1), a2, some (.dat d3), a4, a5, a6, a7, a8, a9, a10, a11], sp⟩ = some (.nx ⟨[a0, some (.dat d1), a2, some (.dat d3), some (.dat w), a5, a6, a7, a8, a9, a10, a11], sp⟩) := by
  simp only [sAsg, eA, aCons, aNil, eV, h, gNm, List.getElem?_cons_zero, List.getElem?_cons_succ, List.set_cons_succ, List.set_cons_zero]
theorem rF_ok {M : List DV → Option DV} {d1 d4 w : DV} {n : Int} (l : dLen [d4] = some (.int n)) (h : M [d1, .int n] = some w) :
    (sAsg (eA (aCons (eV 1) (aCons (eA (aCons (eV 4) (aNil)) dLen) (aNil))) M) (gNm 5)) ⟨[a0, some (.dat d1), a2, a3, some (.dat d4), a5, a6, a7, a8, a9, a10, a11], sp⟩ = some (.nx ⟨[a0, some (.dat d1), a2, a3, some (.dat d4), some (.dat w), a6, a7, a8, a9, a10, a11], sp⟩) := by
  generalize dLen = LN at *
  simp only [sAsg, eA, aCons, aNil, eV, l, h, gNm, List.getElem?_cons_zero, List.getElem?_cons_succ, List.set_cons_succ, List.set_cons_zero]
theorem rG_ok {F : EF} {dl : DV} {n : Int} (h : F ⟨[a0, a1, a2, some (.dat (.int n)), a4, a5, a6, a7, a8, a9, a10, a11], sp⟩ = some (dl, ⟨[a0, a1, a2, some (.dat (.int n)), a4, a5, a6, a7, a8, a9, a10, a11], sp⟩)) (k : dSumL [dl] = some (.int n)) :
    (sIf (tBl (FD.e2 (eA (aCons F (aNil)) dSumL) (eV 3) dNe)) (sRt (eC (.bl false))) (sNx)) ⟨[a0, a1, a2, some (.dat (.int n)), a4, a5, a6, a7, a8, a9, a10, a11], sp⟩ = some (.nx ⟨[a0, a1, a2, some (.dat (.int n)), a4, a5, a6, a7, a8, a9, a10, a11], sp⟩) := by
  have z : dNe (.int n) (.int n) = some (.bl false) := by rw [dNe_int]; simp
  generalize dNe = NE at *
  generalize dSumL = SL at *
  simp only [sIf, tBl, FD.e2, eA, aCons, aNil, eV, h, k, z, sNx, List.getElem?_cons_zero, List.getElem?_cons_succ, Bool.false_eq_true, if_false]
theorem rH_ok {M : List DV → Option DV} {d1 w : DV} (h : M [d1, .int 8] = some w) :
    (sAsg (eA (aCons (eV 1) (aCons (eC (.int 8)) (aNil))) M) (gNm 6)) ⟨[a0, some (.dat d1), a2, a3, a4, a5, a6, a7, a8, a9, a10, a11], sp⟩ = some (.nx ⟨[a0, some (.dat d1), a2, a3, a4, a5, some (.dat w), a7, a8, a9, a10, a11], sp⟩) := by
  simp only [sAsg, eA, aCons, aNil, eV, eC, h, gNm, List.getElem?_cons_zero, List.getElem?_cons_succ, List.set_cons_succ, List.set_cons_zero]
theorem iA_ok {dp : DV} {lv t b : Int} (h : dIx dp (.int (lv - 1)) = some (.tup [.int t, .int b])) :
    i24A ⟨[a0, a1, a2, a3, a4, a5, some (.dat dp), some (.dat (.int lv)), a8, a9, a10, a11], sp⟩ = some (.nx ⟨[a0, a1, a2, a3, a4, a5, some (.dat dp), some (.dat (.int lv)), some (.dat (.int t)), some (.dat (.int b)), a10, a11], sp⟩) := by
  have m : dSub (.int lv) (.int 1) = some (.int (lv - 1)) := rfl
  generalize hI : dIx = IX at h
  unfold i24A eIxN
  rw [hI]
  simp only [sAsg, FD.peek, FD.e2, eV, eC, m, h, gTp, gCo, gNm, gNi, List.length_cons, List.length_nil, List.getElem?_cons_zero, List.getElem?_cons_succ, List.set_cons_succ, List.set_cons_zero, Nat.reduceAdd, if_true]
theorem iB_ok {ds : DV} {lv t b : Int} {X : List DV} (h2 : dSl ds (some lv) (some (lv + 1)) = some (.lst X)) (h3 : dNin (.lst X) (.tup [.lst [], .lst [.int (t + b)]]) = some (.bl false)) :
    i24B ⟨[a0, a1, a2, a3, a4, some (.dat ds), a6, some (.dat (.int lv)), some (.dat (.int t)), some (.dat (.int b)), a10, a11], sp⟩ = some (.nx ⟨[a0, a1, a2, a3, a4, some (.dat ds), a6, some (.dat (.int lv)), some (.dat (.int t)), some (.dat (.int b)), a10, a11], sp⟩) := by
  have ai : ∀ a b : Int, dAdd (.int a) (.int b) = some (.int (a + b)) := fun _ _ => rfl
  have k0 : (0 : Nat) ≤ sizeLine := Nat.zero_le _
  have k1 : (1 : Nat) ≤ sizeLine := by decide
  have k2 : (2 : Nat) ≤ sizeLine := by decide
  generalize hS : dSl = SL at h2
  generalize hN : dNin = NI at h3
  unfold i24B eSlN
  rw [hS, hN]
  simp only [sIf, tBl, FD.e2, FD.peek, oSo, eV, eC, ai, h2, eA, aCons, aNil, oLst, oTup, k0, k1, k2, h3, sNx, List.length_cons, List.length_nil, List.getElem?_cons_zero, List.getElem?_cons_succ, Nat.reduceAdd, if_true, Bool.false_eq_true, if_false]
theorem iC_ok {M : List DV → Option DV} {d1 : DV} {lv t b : Int} (h : t + b < 2000 → ∃ w, M [d1, .int lv] = some w ∧ dCnt "b" w = some (.int b)) :
    (sIf (tAn (tBl (FD.e2 (FD.e2 (eV 8) (eV 9) dAdd) (eC (.int 2000)) dLt)) (tBl (FD.e2 (FD.e1 (eA (aCons (eV 1) (aCons (eV 7) (aNil))) M) (dCnt "b")) (eV 9) dNe))) (sRt (eC (.bl false))) (sNx)) ⟨[a0, some (.dat d1), a2, a3, a4, a5, a6, some (.dat (.int lv)), some (.dat (.int t)), some (.dat (.int b)), a10, a11], sp⟩ = some (.nx ⟨[a0, some (.dat d1), a2, a3, a4, a5, a6, some (.dat (.int lv)), some (.dat (.int t)), some (.dat (.int b)), a10, a11], sp⟩) := by
  have ai : ∀ a b : Int, dAdd (.int a) (.int b) = some (.int (a + b)) := fun _ _ => rfl
  by_cases z : t + b < 2000
  · have z' : decide (t + b < 2000) = true := decide_eq_true z
    obtain ⟨w, c1, c2⟩ := h z
    have ne : dNe (.int b) (.int b) = some (.bl false) := by rw [dNe_int]; simp
    clear h z
    generalize dNe = NE at *
    generalize dCnt "b" = CN at *
    simp only [sIf, tAn, tBl, FD.e2, FD.e1, eA, aCons, aNil, eV, eC, ai, dI, z', c1, c2, ne, sNx, List.getElem?_cons_zero, List.getElem?_cons_succ, Bool.false_eq_true, if_false, if_true]
  · have z' : decide (t + b < 2000) = false := decide_eq_false z
    clear h z
    simp only [sIf, tAn, tBl, FD.e2, eV, eC, ai, dI, z', sNx, List.getElem?_cons_zero, List.getElem?_cons_succ, Bool.false_eq_true, if_false]
end
end T4

set_option maxRecDepth 100000
set_option maxHeartbeats 4000000
set_option exponentiation.threshold 30000
namespace T4
open PySem L2 FD
section
variable {e : Int} {x : Num}
theorem Rs.q0all (h : Rs e x) (n : Nat) : ∀ c ∈ qsN x n, 0 ≤ c := by
  intro c hc
  rcases n with _ | n
  · cases hc
  · have e1 : qsN x (n + 1) = qOf (sq (n0 x)) (st0 x) :: qsS (sq (n0 x)) n (stepS (sq (n0 x)) (st0 x)) := rfl
    rw [e1] at hc
    rcases List.mem_cons.mp hc with w | w
    · rw [w]; exact h.rr.first
    · have := h.rr.rest n c w
      omega
theorem row_sz (h : Rs e x) {L : Nat} (hL : L ≤ 300) : ∀ s ∈ rowN x L, s.natAbs < 2 ^ 8999 := by
  intro s hs
  have hs' : s ∈ 1 :: szS (qsN x L) 1 1 := hs
  rcases List.mem_cons.mp hs' with w | w
  · rw [w]
    exact Nat.one_lt_two_pow (by decide)
  · have := szS_sz (qsN x L) 1 1 1 (fun c hc => by have := h.qb L c hc; omega) (by decide) (by decide) s w
    rw [show (qsN x L).length = L from qsS_len _ _ _] at this
    exact Nat.lt_of_lt_of_le this (Nat.pow_le_pow_right (by decide) (by omega))
theorem std_cnt (h : Rs e x) {n : Nat} (hn : n < 8) {t b : Int} (hz : (rowN x (n + 1))[n + 1]? = some (t + b)) (hl : ((((1, 0) : Int × Int) :: cvS (qsN x (n + 1)) (0, 1) (1, 0)).getLast (List.cons_ne_nil _ _)) = (t, b)) (w : t + b < 2000) :
    ∃ d, m_standard [nm x, .int ((n + 1 : Nat) : Int)] = some d ∧ dCnt "b" d = some (.int b) := by
  refine ⟨_, standard_ok h (by omega) hz (by omega), ?_⟩
  rw [cnt_b]
  have k := last_cnt (qsN x (n + 1)) [98] [97] (0, 1) (1, 0) (h.q0all _) rfl rfl
  rw [hl] at k
  rw [← k]
theorem lv_step (h : Rs e x) (L : Nat) {j : Nat} (hj : j < 8) (a0 a2 a3 a4 a8 a9 a10 a11 : Option SV) (sp : Spl) : ∃ b8 b9, i24 ⟨[a0, some (.dat (nm x)), a2, a3, a4, some (.dat (.lst ((rowN x L).map DV.int))), some (.dat (.lst ((cvS (qsN x 8) (0, 1) (1, 0)).map prD))), some (.dat (.int (1 + (j : Int)))), a8, a9, a10, a11], sp⟩ =
    some (.nx ⟨[a0, some (.dat (nm x)), a2, a3, a4, some (.dat (.lst ((rowN x L).map DV.int))), some (.dat (.lst ((cvS (qsN x 8) (0, 1) (1, 0)).map prD))), some (.dat (.int (1 + (j : Int)))), b8, b9, a10, a11], sp⟩) := by
  obtain ⟨t, b, f1, f2, f3⟩ := frac_at x hj
  have e1 : (1 + (j : Int)) = ((j + 1 : Nat) : Int) := by omega
  have c1 : dIx (.lst ((cvS (qsN x 8) (0, 1) (1, 0)).map prD)) (.int (1 + (j : Int) - 1)) = some (.tup [.int t, .int b]) := by
    rw [show 1 + (j : Int) - 1 = (j : Int) by omega]
    exact ix_nat (by rw [List.getElem?_map, f1]; rfl)
  have c2 := cut_one_at (rowN x L) (j + 1)
  rw [← e1] at c2
  have c3 : dNin (.lst (List.map DV.int (((rowN x L).drop (j + 1)).take 1))) (.tup [.lst [], .lst [.int (t + b)]]) = some (.bl false) := by
    rcases Nat.lt_or_ge L (j + 1) with w | w
    · rw [List.drop_eq_nil_of_le (by rw [row_len]; omega)]
      exact nin0 _
    · have g := row_at x (n := j + 1) (m := L) w
      rw [f2] at g
      obtain ⟨lt, eq⟩ := List.getElem?_eq_some_iff.mp g
      rw [List.drop_eq_getElem_cons lt, eq]
      exact nin1 _
  have c4 : t + b < 2000 → ∃ d, m_standard [nm x, .int (1 + (j : Int))] = some d ∧ dCnt "b" d = some (.int b) := fun w => by
    rw [e1]
    exact std_cnt h hj f2 f3 w
  clear f1 f2 f3
  generalize (cvS (qsN x 8) (0, 1) (1, 0)).map prD = PP at *
  generalize List.map DV.int (((rowN x L).drop (j + 1)).take 1) = XX at *
  generalize (rowN x L).map DV.int = RR at *
  have A := iA_ok (a0 := a0) (a1 := some (.dat (nm x))) (a2 := a2) (a3 := a3) (a4 := a4) (a5 := some (.dat (.lst RR))) (a8 := a8) (a9 := a9) (a10 := a10) (a11 := a11) (sp := sp) c1
  have B := iB_ok (a0 := a0) (a1 := some (.dat (nm x))) (a2 := a2) (a3 := a3) (a4 := a4) (a6 := some (.dat (.lst PP))) (a10 := a10) (a11 := a11) (sp := sp) c2 c3
  have C := iC_ok (a0 := a0) (a2 := a2) (a3 := a3) (a4 := a4) (a5 := some (.dat (.lst RR))) (a6 := some (.dat (.lst PP))) (a10 := a10) (a11 := a11) (sp := sp) c4
  refine ⟨some (.dat (.int t)), some (.dat (.int b)), ?_⟩
  unfold i24
  refine (seq_nx A).trans ((seq_nx B).trans ?_)
  exact C
theorem lv_loop (h : Rs e x) (L : Nat) (a0 a2 a3 a4 a10 a11 : Option SV) (sp : Spl) : ∀ (m j : Nat) (a7 a8 a9 : Option SV), j + m = 8 →
    ∃ b7 b8 b9, frN ((List.range' j m).map fun (k : Nat) => .int (1 + (k : Int))) (gNm 7) i24 ⟨[a0, some (.dat (nm x)), a2, a3, a4, some (.dat (.lst ((rowN x L).map DV.int))), some (.dat (.lst ((cvS (qsN x 8) (0, 1) (1, 0)).map prD))), a7, a8, a9, a10, a11], sp⟩ =
      some (.nx ⟨[a0, some (.dat (nm x)), a2, a3, a4, some (.dat (.lst ((rowN x L).map DV.int))), some (.dat (.lst ((cvS (qsN x 8) (0, 1) (1, 0)).map prD))), b7, b8, b9, a10, a11], sp⟩)
  | 0, j, a7, a8, a9, _ => ⟨a7, a8, a9, rfl⟩
  | m + 1, j, a7, a8, a9, hj => by
    obtain ⟨b8, b9, st⟩ := lv_step h L (j := j) (by omega) a0 a2 a3 a4 a8 a9 a10 a11 sp
    obtain ⟨c7, c8, c9, r⟩ := lv_loop h L a0 a2 a3 a4 a10 a11 sp m (j + 1) (some (.dat (.int (1 + (j : Int))))) b8 b9 (by omega)
    refine ⟨c7, c8, c9, ?_⟩
    rw [List.range'_succ, List.map_cons, ← r]
    generalize (cvS (qsN x 8) (0, 1) (1, 0)).map prD = PP at *
    generalize (rowN x L).map DV.int = RR at *
    conv => lhs; unfold frN
    simp only [gNm, List.set_cons_succ, List.set_cons_zero]
    rw [st]
theorem over_ok (h : Rs e x) : m_over [.tup [.int 1, .int 0, .int 0, .int 1], nm x] = some (nm (invN x)) := by
  have r := h.ra
  have ri := rep_inv r.g.can r.norm
  have i0 : (invN x).2.2.2 ≠ 0 := by have := ri.1.1; omega
  have c1 : m_over [nm (1, 0, 0, 1), nm x] = some (nm (mulN (1, 0, 0, 1) (invN x))) := by
    refine if_pos ⟨?_, norm_can r.g.can r.norm, r.sz.up (by decide), .inr (.inl rfl), Int.one_ne_zero, i0, (one_sz (Nat.one_lt_two_pow (by decide)) (by decide) : SzN 4000 _), r.invSz.up (by decide)⟩
    refine Classical.byContradiction fun w => ?_
    rw [not_or] at w
    have p0 := Classical.not_not.mp w.1
    have q0 := Classical.not_not.mp w.2
    exact r.norm (by rw [p0, q0]; simp)
  rw [mul_one_inv h] at c1
  exact c1
def b_law_rooted_right : SF :=
  sSeq (sAsg (eA (aCons (eA (aCons (eC (.int 1)) (aCons (eC (.int 0)) (aCons (eC (.int 0)) (aCons (eC (.int 1)) (aNil))))) oTup) (aCons (eV 1) (aNil))) m_over) (gNm 2))
  (sSeq (sIf (tBl (e2 (eA (aCons (eV 2) (aCons (eC (.int 80)) (aNil))) m_acts) (eA (aCons (eA (aCons (eV 1) (aCons (eC (.int 80)) (aNil))) m_acts) (aNil)) m_law_exchanged) dNe)) (sRt (eC (.bl false))) (sNx))
  (sSeq (sAsg (eS 0 (aCons (e2 (eC (.int 10)) (eC (.int 30)) dPow) (aNil)) m_law_upto) (gNm 3))
  (sSeq (sIf (tBl (e2 (eA (aCons (eV 2) (aCons (eV 3) (aNil))) m_counts) (e1 (eA (aCons (eV 1) (aCons (eV 3) (aNil))) m_counts) dRev2) dNe)) (sRt (eC (.bl false))) (sNx))
  (sSeq (sAsg (eA (aCons (eV 1) (aCons (eV 3) (aNil))) m_digits) (gNm 4))
  (sSeq (sAsg (eA (aCons (eV 1) (aCons (eA (aCons (eV 4) (aNil)) dLen) (aNil))) m_lengths) (gNm 5))
  (sSeq (sIf (tBl (e2 (eA (aCons (eL (lCpP (iZm (aCons (eV 5) (aCons (eV 4) (aNil)))) 10 11 (e2 (eV 10) (eV 11) dMul))) (aNil)) dSumL) (eV 3) dNe)) (sRt (eC (.bl false))) (sNx))
  (sSeq (sAsg (eA (aCons (eV 1) (aCons (eC (.int 8)) (aNil))) m_convergents) (gNm 6))
  (sSeq (sFr (iRg2 (aCons (eC (.int 1)) (aCons (eC (.int 9)) (aNil)))) (gNm 7) (sSeq (sAsg (eIxN 6 (e2 (eV 7) (eC (.int 1)) dSub)) (gTp 2 (gCo (gNm 8) (gCo (gNm 9) (gNi)))))
  (sSeq (sIf (tBl (e2 (eSlN 5 (oSo (eV 7)) (oSo (e2 (eV 7) (eC (.int 1)) dAdd))) (eA (aCons (eA (aNil) oLst) (aCons (eA (aCons (e2 (eV 8) (eV 9) dAdd) (aNil)) oLst) (aNil))) oTup) dNin)) (sRt (eC (.bl false))) (sNx))
  (sIf (tAn (tBl (e2 (e2 (eV 8) (eV 9) dAdd) (eC (.int 2000)) dLt)) (tBl (e2 (e1 (eA (aCons (eV 1) (aCons (eV 7) (aNil))) m_standard) (dCnt "b")) (eV 9) dNe))) (sRt (eC (.bl false))) (sNx)))))
  (sRt (eC (.bl true)))))))))))
def m_law_rooted_right : List DV → Spl → Option (DV × Spl) := bodyS 2 12 b_law_rooted_right
theorem t_law_rooted_right : ∀ ds s d, m_law_rooted_right ds s = some d → bodyS 2 12 b_law_rooted_right ds s = some d := fun _ _ _ h => h
theorem bodyS_of {n m : Nat} {g : SF} {ds : List DV} {d : DV} {sp : Spl} {t : S} (hl : ds.length + 1 = n) (h : g ⟨some .spl :: ds.map (fun d => some (.dat d)) ++ List.replicate (m - n) none, sp⟩ = some (.rt d t)) : bodyS n m g ds sp = some (d, t.sp) := by
  unfold bodyS
  rw [if_pos hl, h]
theorem iZm_of {l : List (Option SV)} {ds es : List DV} {a0 a1 a2 a3 : Option SV} {sp : Spl} : iZm (aCons (eV 5) (aCons (eV 4) (aNil))) ⟨a0 :: a1 :: a2 :: a3 :: some (.dat (.tup es)) :: some (.dat (.lst ds)) :: l, sp⟩ = some (zpD ds es, ⟨a0 :: a1 :: a2 :: a3 :: some (.dat (.tup es)) :: some (.dat (.lst ds)) :: l, sp⟩) := rfl
theorem rooted_right_ok (h : Rs e x) {n : Nat} {sp : Spl} (hp : Pl n sp) (hn : n ≤ 100000) : ∃ sp', m_law_rooted_right [nm x] sp = some (.bl true, sp') ∧ Pl (n + 1) sp' := by
  have cA := over_ok h
  have A := rA_ok (a0 := some .spl) (a2 := none) (a3 := none) (a4 := none) (a5 := none) (a6 := none) (a7 := none) (a8 := none) (a9 := none) (a10 := none) (a11 := none) (sp := sp) cA
  have cB1 : m_acts [nm (invN x), .int 80] = some (txD (wd e (invN x) 80)) := acts_ok h.inv (n := 80) (by decide)
  have cB2 : m_acts [nm x, .int 80] = some (txD (wd e x 80)) := acts_ok h.ra (n := 80) (by decide)
  have cB3 := exchanged_ok (l := wd e x 80) wd_in3 (by rw [wd_len]; decide)
  rw [← inv_wd h] at cB3
  have B := rB_ok (a0 := some .spl) (a3 := none) (a4 := none) (a5 := none) (a6 := none) (a7 := none) (a8 := none) (a9 := none) (a10 := none) (a11 := none) (sp := sp) cB1 cB2 cB3 (ne_ab2 wd_in3)
  have cC : m_law_upto [.int (10 ^ (Int.toNat 30))] sp = _ := c_upto hp (by decide) (lt_up (a := 100) (by decide)) (by omega)
  have v := upV_lt (s := sp) (b := 10 ^ (Int.toNat 30)) (by decide)
  have p1 := pl_up (b := 10 ^ (Int.toNat 30)) hp
  have C := rC_ok (a1 := some (.dat (nm x))) (a2 := some (.dat (nm (invN x)))) (a3 := none) (a4 := none) (a5 := none) (a6 := none) (a7 := none) (a8 := none) (a9 := none) (a10 := none) (a11 := none) cC
  generalize upS sp (10 ^ (Int.toNat 30)) = sp1 at *
  generalize upV sp (10 ^ (Int.toNat 30)) = U at *
  have v0 := v.1
  have v1 : U < 10 ^ 30 := v.2
  clear v
  obtain ⟨u, rfl⟩ : ∃ u : Nat, U = (u : Int) := ⟨U.toNat, (Int.toNat_of_nonneg v0).symm⟩
  have cD1 := counts_ok h.inv (n := (u : Int)) (lt_up (a := 100) (by omega))
  have cD2 := counts_ok h.ra (n := (u : Int)) (lt_up (a := 100) (by omega))
  rw [inv_done h u, show (u : Int) - ((u : Int) - doneN x u) = doneN x u by omega] at cD1
  have D := rD_ok (a0 := some .spl) (a4 := none) (a5 := none) (a6 := none) (a7 := none) (a8 := none) (a9 := none) (a10 := none) (a11 := none) (sp := sp1) cD1 cD2 (ne_pair _ _)
  have cE := digits_ok h.rr (n := (u : Int)) v0 (by omega)
  rw [← List.map_reverse] at cE
  have ed : dz (gr (rowN x 220).reverse (u : Int)) = dgN x u := rfl
  rw [ed] at cE
  have E := rE_ok (a0 := some .spl) (a2 := some (.dat (nm (invN x)))) (a4 := none) (a5 := none) (a6 := none) (a7 := none) (a8 := none) (a9 := none) (a10 := none) (a11 := none) (sp := sp1) cE
  have dl := dg_len (x := x) (u : Int)
  have cF1 : dLen [.tup ((dgN x u).reverse.map DV.int)] = some (.int ((dgN x u).length : Nat)) := by
    show some (DV.int ((((dgN x u).reverse.map DV.int).length : Nat) : Int)) = _
    rw [List.length_map, List.length_reverse]
  have cF2 := lengths_ok h.rr.g h.rt h.q0 (n := (dgN x u).length) (by omega)
  have F := rF_ok (a0 := some .spl) (a2 := some (.dat (nm (invN x)))) (a3 := some (.dat (.int (u : Int)))) (a5 := none) (a6 := none) (a7 := none) (a8 := none) (a9 := none) (a10 := none) (a11 := none) (sp := sp1) cF1 cF2
  have dm := dg_mem h (n := (u : Int)) v0
  have fit : ∀ p ∈ List.zip (rowN x (dgN x u).length) (dgN x u).reverse, fitM p.1 p.2 = true := fun p hp => by
    have h1 := row_sz h (L := (dgN x u).length) (by omega) p.1 (List.of_mem_zip hp).1
    have h2 := dm p.2 (List.mem_reverse.mp (List.of_mem_zip hp).2)
    exact fit_of (a := 8999) (b := 100) h1 (by omega)
  have cG := pd_loop (some .spl) (some (.dat (nm x))) (some (.dat (nm (invN x)))) (some (.dat (.int (u : Int)))) (some (.dat (.tup ((dgN x u).reverse.map DV.int)))) (some (.dat (.lst ((rowN x (dgN x u).length).map DV.int)))) none none none none sp1 (rowN x (dgN x u).length) (dgN x u).reverse [] fit (by rw [List.length_nil, row_len]; omega)
  rw [List.nil_append] at cG
  have cG2 := lCpP_of (i := 10) (j := 11) (f := pdF) (iZm_of (l := [none, none, none, none, none, none]) (a0 := some .spl) (a1 := some (.dat (nm x))) (a2 := some (.dat (nm (invN x)))) (a3 := some (.dat (.int (u : Int)))) (ds := (rowN x (dgN x u).length).map DV.int) (es := (dgN x u).reverse.map DV.int) (sp := sp1)) cG
  have cG3 := sumL_ints (prodI (rowN x (dgN x u).length) (dgN x u).reverse)
  rw [prodI_sum, digits_sum] at cG3
  have G := rG_ok cG2 cG3
  have cH : m_convergents [nm x, .int 8] = _ := convergents_ok h (n := 8) (by decide)
  have H := rH_ok (a0 := some .spl) (a2 := some (.dat (nm (invN x)))) (a3 := some (.dat (.int (u : Int)))) (a4 := some (.dat (.tup ((dgN x u).reverse.map DV.int)))) (a5 := some (.dat (.lst ((rowN x (dgN x u).length).map DV.int)))) (a6 := none) (a7 := none) (a8 := none) (a9 := none) (a10 := none) (a11 := none) (sp := sp1) cH
  obtain ⟨b7, b8, b9, lp⟩ := lv_loop h (dgN x u).length (some .spl) (some (.dat (nm (invN x)))) (some (.dat (.int (u : Int)))) (some (.dat (.tup ((dgN x u).reverse.map DV.int)))) none none sp1 8 0 none none none rfl
  refine ⟨sp1, ?_, p1⟩
  clear cA cB1 cB2 cB3 cC cD1 cD2 cE cF1 cF2 cG cG2 cG3 cH fit dm dl
  generalize (rowN x (dgN x u).length).map DV.int = RR at *
  generalize (dgN x u).reverse.map DV.int = DD at *
  generalize (cvS (qsN x 8) (0, 1) (1, 0)).map prD = PP at *
  have it : iRg2 (aCons (eC (.int 1)) (aCons (eC (.int 9)) (aNil))) ⟨[some .spl, some (.dat (nm x)), some (.dat (nm (invN x))), some (.dat (.int (u : Int))), some (.dat (.tup DD)), some (.dat (.lst RR)), some (.dat (.lst PP)), none, none, none, none, none], sp1⟩ = some ((List.range' 0 8).map fun (k : Nat) => .int (1 + (k : Int)), ⟨[some .spl, some (.dat (nm x)), some (.dat (nm (invN x))), some (.dat (.int (u : Int))), some (.dat (.tup DD)), some (.dat (.lst RR)), some (.dat (.lst PP)), none, none, none, none, none], sp1⟩) := rfl
  have I := (sFr_of (g := gNm 7) (B := i24) it).trans lp
  have eb : b_law_rooted_right = sSeq r24A (sSeq r24B (sSeq r24C (sSeq r24D (sSeq r24E (sSeq r24F (sSeq r24G (sSeq r24H (sSeq (sFr (iRg2 (aCons (eC (.int 1)) (aCons (eC (.int 9)) (aNil)))) (gNm 7) i24) r24J)))))))) := rfl
  unfold m_law_rooted_right
  rw [eb]
  refine bodyS_of (ds := [nm x]) (t := ⟨[some .spl, some (.dat (nm x)), some (.dat (nm (invN x))), some (.dat (.int (u : Int))), some (.dat (.tup DD)), some (.dat (.lst RR)), some (.dat (.lst PP)), b7, b8, b9, none, none], sp1⟩) rfl ?_
  refine (seq_nx A).trans ((seq_nx B).trans ((seq_nx C).trans ((seq_nx D).trans ((seq_nx E).trans ((seq_nx F).trans ((seq_nx G).trans ((seq_nx H).trans ((seq_nx I).trans ?_))))))))
  rfl
end
end T4

set_option maxRecDepth 100000
set_option maxHeartbeats 4000000
set_option exponentiation.threshold 30000
namespace T4
open PySem L2 FD
/-- a ratio that the law draws -/
structure Rq (e : Int) (x : Num) : Prop where
  g : Good 4 4 e x
  rt : Rt e
  e21 : e ≤ 21
  pos : 0 < sgS x.1 x.2.1 e
section
variable {e : Int} {x : Num}
theorem Rq.ra (h : Rq e x) : Ra e x := ⟨h.g.up (by decide) (by decide), h.rt, h.pos⟩
theorem Rq.s5 (h : Rq e x) : SzN 5 x := by
  have g := h.g
  have d5 : x.2.2.1.natAbs < 2 ^ 5 := by
    rw [g.dd]
    have := h.e21
    have := h.rt.pos
    split
    · decide
    · omega
  exact ⟨lt_up g.zp (by decide), lt_up g.zq (by decide), d5, lt_up g.zs (by decide)⟩
theorem floSz {b : Nat} {x : Num} (h : SzN b x) (s0 : 0 < x.2.2.2) (d0 : 0 ≤ x.2.2.1) : (flo x.1 x.2.1 x.2.2.1 x.2.2.2).natAbs < 2 ^ (2 * b + 2) := by
  obtain ⟨a1, a2, a3, a4⟩ := h
  have zr : (sq (x.2.1 * x.2.1 * x.2.2.1)).natAbs < 2 ^ (2 * b) := sq_sz (Int.mul_nonneg (sq_nn _) d0) (lt_up (mul_lt (mul_lt a2 a2) a3) (by omega))
  have z1 : x.1.natAbs < 2 ^ (2 * b) := lt_up a1 (by omega)
  have h1 : (1 : Int).natAbs < 2 ^ (2 * b + 1) := Nat.one_lt_two_pow (by omega)
  unfold flo
  split
  · exact Nat.lt_of_le_of_lt (fdiv_le s0) (sub_lt (sub_lt z1 zr) h1)
  · exact Nat.lt_of_le_of_lt (fdiv_le s0) (lt_up (add_lt z1 zr) (by omega))
theorem Ra.invPair (h : Ra e x) : (invN x).1 * x.1 + (invN x).2.1 * x.2.1 * e = x.2.2.2 * (invN x).2.2.2 ∧ (invN x).1 * x.2.1 + (invN x).2.1 * x.1 = 0 := by
  have nn := h.norm
  have ri := rep_inv h.g.can nn
  generalize invN x = r at *
  obtain ⟨cr, _, r1, r2⟩ := ri
  constructor
  · generalize x.1 = Z at *
    have : (r.1 * Z + r.2.1 * x.2.1 * e) * (Z * Z - x.2.1 * x.2.1 * e) = (x.2.2.2 * r.2.2.2) * (Z * Z - x.2.1 * x.2.1 * e) := by grind
    exact Int.eq_of_mul_eq_mul_right nn this
  · generalize x.1 = Z at *
    have : (r.1 * x.2.1 + r.2.1 * Z) * (Z * Z - x.2.1 * x.2.1 * e) = 0 * (Z * Z - x.2.1 * x.2.1 * e) := by grind
    exact Int.eq_of_mul_eq_mul_right nn this
/-- how many b's stand in front of an a -/
theorem ga_spec (h : Ra e x) (i j : Int) : j ≤ ceilN (mulN (i, 0, 0, 1) (invN x)) - 1 ↔ flo (j * x.1) (j * x.2.1) e x.2.2.2 < i := by
  have he := h.irr
  have sy := sg_one h.pos
  have ny := h.norm
  have ry := rep_inv h.g.can ny
  have rz := rep_mul he.1 (rep_self (can_int e i)) ry
  have x0 := h.g.s0
  generalize hN : x.1 * x.1 - x.2.1 * x.2.1 * e = N at *
  unfold ceilN
  generalize mulN (i, 0, 0, 1) (invN x) = z at *
  obtain ⟨cz, _, z1, z2⟩ := rz
  dsimp only at z1 z2
  have z0 := cz.1
  have k1 := sg_flo (p := -z.1) (q := -z.2.1) (d := z.2.2.1) (f := -j) z0 (by rw [cz.2.2]; split <;> omega)
  have k2 := sg_flo (p := j * x.1) (q := j * x.2.1) (d := e) (f := i) x0 (Int.le_of_lt he.1)
  have e0 : sgS (-z.1 - -j * z.2.2.2) (-z.2.1) z.2.2.1 = sgS (-z.1 - -j * z.2.2.2) (-z.2.1) e := by
    unfold sgS
    by_cases w : z.2.1 = 0
    · rw [w]; simp
    · rw [cz.2.2, if_neg w]
  have e1 := sg_mul (P := -z.1 - -j * z.2.2.2) (Q := -z.2.1) (P' := x.1) (Q' := x.2.1) he
  rw [sy, Int.mul_one] at e1
  have i1 : N * ((-z.1 - -j * z.2.2.2) * x.1 + -z.2.1 * x.2.1 * e) = N * (z.2.2.2 * (j * x.1 - i * x.2.2.2)) := by
    rw [← hN] at *
    grind
  have i2 : N * ((-z.1 - -j * z.2.2.2) * x.2.1 + -z.2.1 * x.1) = N * (z.2.2.2 * (j * x.2.1)) := by
    rw [← hN] at *
    grind
  have j1 := Int.eq_of_mul_eq_mul_left ny i1
  have j2 := Int.eq_of_mul_eq_mul_left ny i2
  rw [j1, j2] at e1
  have e2 : sgS (z.2.2.2 * (j * x.1 - i * x.2.2.2)) (z.2.2.2 * (j * x.2.1)) e = sgS (j * x.1 - i * x.2.2.2) (j * x.2.1) e :=
    sg_scale (k := 1) (m := z.2.2.2) Int.one_pos z0 (by grind) (by grind)
  rw [e0, ← e1, e2] at k1
  rw [k2] at k1
  omega
theorem GA_done (h : Ra e x) (i : Int) : doneN x (GA x i) = GA x i - i ∧ doneN x (GA x i - 1) = GA x i - i ∧ ¬ GB e x (doneN x (GA x i)) = GA x i := by
  have hg : GA x i = i + (ceilN (mulN (i, 0, 0, 1) (invN x)) - 1) := by unfold GA; omega
  rw [hg]
  have a1 := (ga_spec h i (ceilN (mulN (i, 0, 0, 1) (invN x)) - 1)).mp (Int.le_refl _)
  have a2 := mt (ga_spec h i (ceilN (mulN (i, 0, 0, 1) (invN x)) - 1 + 1)).mpr (by omega)
  generalize ceilN (mulN (i, 0, 0, 1) (invN x)) - 1 = m at *
  have g1 : GB e x m = m + flo (m * x.1) (m * x.2.1) e x.2.2.2 := rfl
  have g2 : GB e x (m + 1) = m + 1 + flo ((m + 1) * x.1) ((m + 1) * x.2.1) e x.2.2.2 := rfl
  have d1 := (done_spec h (i + m) m).mpr (by omega)
  have d2 := mt (done_spec h (i + m) (m + 1)).mp (by omega)
  have d3 := (done_spec h (i + m - 1) m).mpr (by omega)
  have d4 := mt (done_spec h (i + m - 1) (m + 1)).mp (by omega)
  have r1 : doneN x (i + m) = m := by omega
  refine ⟨by omega, by omega, ?_⟩
  rw [r1]
  omega
theorem GB_done (h : Ra e x) (j : Int) : doneN x (GB e x j) = j ∧ doneN x (GB e x j - 1) = j - 1 := by
  have r1 := done_GB h j
  have mono := GB_mono h (j - 1)
  rw [show j - 1 + 1 = j by omega] at mono
  have d3 := (done_spec h (GB e x j - 1) (j - 1)).mpr (by omega)
  have d4 := mt (done_spec h (GB e x j - 1) j).mp (by omega)
  exact ⟨r1, by omega⟩
/-! ### bounds -/
theorem Rq.below (h : Rq e x) : sgS (x.1 - 2 ^ 36 * x.2.2.2) x.2.1 e < 0 := by
  have z := floSz h.s5 h.g.s0 (can_d h.g.can h.rt.pos)
  rw [flo_can h.g.can] at z
  refine (sg_flo (p := x.1) (q := x.2.1) (d := e) (f := 2 ^ 36) h.g.s0 (Int.le_of_lt h.rt.pos)).mpr ?_
  omega
theorem GB_bd (h : Rq e x) {j : Int} (h0 : 0 < j) : GB e x j < j + 2 ^ 36 * j := by
  have b := h.below
  have k := sg_flo (p := j * x.1) (q := j * x.2.1) (d := e) (f := 2 ^ 36 * j) h.g.s0 (Int.le_of_lt h.rt.pos)
  have e2 : sgS (j * x.1 - 2 ^ 36 * j * x.2.2.2) (j * x.2.1) e = sgS (x.1 - 2 ^ 36 * x.2.2.2) x.2.1 e := sg_scale (k := 1) (m := j) Int.one_pos h0 (by grind) (by grind)
  rw [e2] at k
  have := k.mp b
  unfold GB
  omega
theorem Rq.invBelow (h : Rq e x) : sgS (x.2.2.2 - 2 ^ 36 * x.1) (-(2 ^ 36 * x.2.1)) e < 0 := by
  have r := h.ra
  have ri := rep_inv r.g.can r.norm
  have c := ri.1
  have sz : SzN 16 (invN x) := invN_sz h.s5 (norm_can r.g.can r.norm)
  have z := floSz sz c.1 (can_d c h.rt.pos)
  rw [flo_can c] at z
  have k := (sg_flo (p := (invN x).1) (q := (invN x).2.1) (d := e) (f := 2 ^ 36) c.1 (Int.le_of_lt h.rt.pos)).mpr (by omega)
  obtain ⟨p1, p2⟩ := r.invPair
  have m := sg_mul (P := (invN x).1 - 2 ^ 36 * (invN x).2.2.2) (Q := (invN x).2.1) (P' := x.1) (Q' := x.2.1) r.irr
  rw [sg_one h.pos, Int.mul_one] at m
  have t0 := c.1
  generalize invN x = y at *
  have i1 : (y.1 - 2 ^ 36 * y.2.2.2) * x.1 + y.2.1 * x.2.1 * e = y.2.2.2 * (x.2.2.2 - 2 ^ 36 * x.1) := by grind
  have i2 : (y.1 - 2 ^ 36 * y.2.2.2) * x.2.1 + y.2.1 * x.1 = y.2.2.2 * (-(2 ^ 36 * x.2.1)) := by grind
  rw [i1, i2] at m
  have e2 : sgS (y.2.2.2 * (x.2.2.2 - 2 ^ 36 * x.1)) (y.2.2.2 * (-(2 ^ 36 * x.2.1))) e = sgS (x.2.2.2 - 2 ^ 36 * x.1) (-(2 ^ 36 * x.2.1)) e := sg_scale (k := 1) (m := y.2.2.2) Int.one_pos t0 (by grind) (by grind)
  rw [e2] at m
  omega
theorem GA_bd (h : Rq e x) {i : Int} (h0 : 0 < i) : GA x i < i + 2 ^ 36 * i ∧ 0 ≤ GA x i := by
  have b := h.invBelow
  have hg : GA x i = i + (ceilN (mulN (i, 0, 0, 1) (invN x)) - 1) := by unfold GA; omega
  have s1 := ga_spec h.ra i (2 ^ 36 * i)
  have s0 := ga_spec h.ra i 0
  have z0 : flo (0 * x.1) (0 * x.2.1) e x.2.2.2 = 0 := by
    have := GB_zero (e := e) h.g.s0
    unfold GB at this
    omega
  rw [z0] at s0
  have k := sg_flo (p := 2 ^ 36 * i * x.1) (q := 2 ^ 36 * i * x.2.1) (d := e) (f := i) h.g.s0 (Int.le_of_lt h.rt.pos)
  have e2 : sgS (2 ^ 36 * i * x.1 - i * x.2.2.2) (2 ^ 36 * i * x.2.1) e = sgS (2 ^ 36 * x.1 - x.2.2.2) (2 ^ 36 * x.2.1) e := sg_scale (k := 1) (m := i) Int.one_pos h0 (by grind) (by grind)
  have e3 := sg_negs (2 ^ 36 * x.1 - x.2.2.2) (2 ^ 36 * x.2.1) e
  rw [show -(2 ^ 36 * x.1 - x.2.2.2) = x.2.2.2 - 2 ^ 36 * x.1 by omega] at e3
  rw [e2] at k
  have : ¬ 2 ^ 36 * i ≤ ceilN (mulN (i, 0, 0, 1) (invN x)) - 1 := fun w => by
    have := k.mpr (s1.mp w)
    omega
  have := s0.mpr h0
  omega
/-! ### fractions -/
theorem frac_GB {p s : Int} (s0 : 0 < s) (j : Int) : GB e (p, 0, 0, s) (j + s) = GB e (p, 0, 0, s) j + (p + s) := by
  have sq0 : sq 0 = 0 := rfl
  have f : ∀ P : Int, flo P 0 e s = P.fdiv s := fun P => by
    unfold flo
    rw [if_neg (by omega)]
    rw [show (0 : Int) * 0 * e = 0 by grind, sq0, Int.add_zero]
  unfold GB
  dsimp only
  rw [Int.mul_zero, Int.mul_zero, f, f]
  have : (j + s) * p = j * p + s * p := by grind
  rw [this, Int.add_mul_fdiv_left _ _ (by omega)]
  omega
theorem frac_done {p s : Int} (h : Ra e (p, 0, 0, s)) (k : Int) : doneN (p, 0, 0, s) (k + (p + s)) = doneN (p, 0, 0, s) k + s := by
  have s0 : 0 < s := h.g.s0
  have a1 := (done_spec h k (doneN (p, 0, 0, s) k)).mp (Int.le_refl _)
  have a2 := mt (done_spec h k (doneN (p, 0, 0, s) k + 1)).mpr (by omega)
  have g1 := frac_GB (e := e) (p := p) (s := s) s0 (doneN (p, 0, 0, s) k)
  have g2 := frac_GB (e := e) (p := p) (s := s) s0 (doneN (p, 0, 0, s) k + 1)
  have b1 := (done_spec h (k + (p + s)) (doneN (p, 0, 0, s) k + s)).mpr (by omega)
  have b2 := mt (done_spec h (k + (p + s)) (doneN (p, 0, 0, s) k + 1 + s)).mp (by omega)
  omega
theorem frac_code {p s : Int} (h : Ra e (p, 0, 0, s)) (k : Int) : code e (p, 0, 0, s) (k + (p + s)) = code e (p, 0, 0, s) k := by
  have s0 : 0 < s := h.g.s0
  unfold code
  rw [frac_done h, frac_GB (s := s) s0]
  by_cases w : GB e (p, 0, 0, s) (doneN (p, 0, 0, s) k) = k
  · rw [if_pos w, if_pos (by omega)]
  · rw [if_neg w, if_neg (by omega)]
theorem frac_far {p s : Int} (h : Ra e (p, 0, 0, s)) (k : Int) : ∀ n : Nat, code e (p, 0, 0, s) (k + n * (p + s)) = code e (p, 0, 0, s) k
  | 0 => by
    have : k + ((0 : Nat) : Int) * (p + s) = k := by simp
    rw [this]
  | n + 1 => by
    have : k + ((n + 1 : Nat) : Int) * (p + s) = k + n * (p + s) + (p + s) := by grind
    rw [this, frac_code h, frac_far h k n]
theorem frac_wd {p s : Int} (h : Ra e (p, 0, 0, s)) {n z : Nat} (hz : (z : Int) = p + s) (hn : z ≤ n) : (wd e (p, 0, 0, s) n).drop z = (wd e (p, 0, 0, s) n).take (n - z) := by
  refine List.ext_getElem? fun i => ?_
  rw [List.getElem?_drop, List.getElem?_take]
  unfold wd
  rw [List.getElem?_map, List.getElem?_map]
  by_cases w : i < n - z
  · rw [if_pos w, List.getElem?_range (by omega), List.getElem?_range (by omega)]
    show some (code e (p, 0, 0, s) (((z + i : Nat) : Int) + 1)) = some (code e (p, 0, 0, s) ((i : Int) + 1))
    rw [show ((z + i : Nat) : Int) + 1 = (i : Int) + 1 + (p + s) by omega, frac_code h]
  · rw [if_neg w, List.getElem?_eq_none (by rw [List.length_range]; omega)]
    rfl
end
end T4

set_option maxRecDepth 100000
set_option maxHeartbeats 4000000
set_option exponentiation.threshold 30000
namespace T4
open PySem L2 FD
def k24A : SF := (sAsg (eA (aCons (eV 3) (aCons (eV 10) (aCons (eV 8) (aNil)))) m_place_of) (gNm 6))
def k24B : SF := (sIf (tOo (tBl (FD.e2 (eA (aCons (eV 3) (aCons (eV 6) (aNil))) m_act_at) (eV 10) dNe)) (tBl (FD.e2 (e2 (eA (aCons (eV 3) (aCons (eV 6) (aNil))) m_counts) (eV 9) dIx) (eV 8) dNe))) (sRt (eC (.bl false))) (sNx))
def k24C : SF := (sIf (tBl (FD.e2 (e2 (eA (aCons (eV 3) (aCons (FD.e2 (eV 6) (eC (.int 1)) dSub) (aNil))) m_counts) (eV 9) dIx) (FD.e2 (eV 8) (eC (.int 1)) dSub) dNe)) (sRt (eC (.bl false))) (sNx))
def k24 : SF := sSeq k24A (sSeq k24B k24C)
def s24A : SF := (sAsg (FD.e2 (eC (.int 1)) (eS 1 (aCons (eV 7) (aNil)) m_law_upto) dAdd) (gNm 8))
def s24B : SF := (sFr (iEnS (eC (.str "ab"))) (gTp 2 (gCo (gNm 9) (gCo (gNm 10) (gNi)))) k24)
def s24 : SF := sSeq s24A s24B
theorem txt_ab : (("ab" : String) : Str) = ⟨#[97, 98]⟩ := by decide +kernel
theorem one_a : oneS 97 = .str (("a" : String) : Str) := by unfold oneS; rw [txt_a]
theorem one_b : oneS 98 = .str (("b" : String) : Str) := by unfold oneS; rw [txt_b]
theorem cutT_lo (l : List Nat) (z : Nat) (hl : l.length ≤ 16777216) : dSlS (txD l) (some (z : Int)) none = some (txD (l.drop z)) := by
  show (if (tx l).length ≤ sizeLine then some (DV.str (cutS (tx l) (some (z : Int)) none)) else none) = _
  rw [tx_len, if_pos (by rw [sz_eq]; exact hl)]
  unfold cutS
  have e1 : HT.sIx (tx l).length 0 (some (z : Int)) = min z l.length := by rw [tx_len]; exact HT.sIx_nat _ _ z
  have e2 : HT.sIx (tx l).length (tx l).length none = l.length := by
    show (tx l).length = _
    rw [tx_len]
  rw [e1, e2]
  show some (DV.str ⟨((l.drop (min z l.length)).take (l.length - min z l.length)).toArray⟩) = some (DV.str ⟨(l.drop z).toArray⟩)
  rcases Nat.lt_or_ge z l.length with w | w
  · rw [Nat.min_eq_left (by omega), List.take_of_length_le (by rw [List.length_drop]; omega)]
  · rw [Nat.min_eq_right w, List.drop_eq_nil_of_le (Nat.le_refl _), List.drop_eq_nil_of_le w, List.take_nil]
theorem cutT_hi (l : List Nat) (m : Nat) (hl : l.length ≤ 16777216) : dSlS (txD l) none (some (m : Int)) = some (txD (l.take m)) := by
  show (if (tx l).length ≤ sizeLine then some (DV.str (cutS (tx l) none (some (m : Int)))) else none) = _
  rw [tx_len, if_pos (by rw [sz_eq]; exact hl)]
  unfold cutS
  have e1 : HT.sIx (tx l).length 0 none = 0 := rfl
  have e2 : HT.sIx (tx l).length (tx l).length (some (m : Int)) = min m l.length := by rw [tx_len]; exact HT.sIx_nat _ _ m
  rw [e1, e2, Nat.sub_zero, List.drop_zero]
  show some (DV.str ⟨(l.take (min m l.length)).toArray⟩) = some (DV.str ⟨(l.take m).toArray⟩)
  rcases Nat.lt_or_ge m l.length with w | w
  · rw [Nat.min_eq_left (by omega)]
  · rw [Nat.min_eq_right w, List.take_of_length_le (Nat.le_refl _), List.take_of_length_le w]
/-! ## one worker, one index -/
section
variable {a0 a1 a2 a3 a4 a5 a6 a7 a8 a9 a10 a11 : Option SV} {sp sp' : Spl}
theorem kA_ok {M : List DV → Option DV} {d3 d8 d10 w : DV} (h : M [d3, d10, d8] = some w) :
    (sAsg (eA (aCons (eV 3) (aCons (eV 10) (aCons (eV 8) (aNil)))) M) (gNm 6)) ⟨[a0, a1, a2, some (.dat d3), a4, a5, a6, a7, some (.dat d8), a9, some (.dat d10), a11], sp⟩ = some (.nx ⟨[a0, a1, a2, some (.dat d3), a4, a5, some (.dat w), a7, some (.dat d8), a9, some (.dat d10), a11], sp⟩) := by
  simp only [sAsg, eA, aCons, aNil, eV, h, gNm, List.getElem?_cons_zero, List.getElem?_cons_succ, List.set_cons_succ, List.set_cons_zero]
theorem kB_ok {M C : List DV → Option DV} {d3 d6 d8 d9 d10 c : DV} (h1 : M [d3, d6] = some d10) (h2 : dNe d10 d10 = some (.bl false)) (h3 : C [d3, d6] = some c) (h4 : dIx c d9 = some d8) (h5 : dNe d8 d8 = some (.bl false)) :
    (sIf (tOo (tBl (FD.e2 (eA (aCons (eV 3) (aCons (eV 6) (aNil))) M) (eV 10) dNe)) (tBl (FD.e2 (FD.e2 (eA (aCons (eV 3) (aCons (eV 6) (aNil))) C) (eV 9) dIx) (eV 8) dNe))) (sRt (eC (.bl false))) (sNx)) ⟨[a0, a1, a2, some (.dat d3), a4, a5, some (.dat d6), a7, some (.dat d8), some (.dat d9), some (.dat d10), a11], sp⟩ = some (.nx ⟨[a0, a1, a2, some (.dat d3), a4, a5, some (.dat d6), a7, some (.dat d8), some (.dat d9), some (.dat d10), a11], sp⟩) := by
  generalize dNe = NE at *
  generalize dIx = IX at *
  simp only [sIf, tOo, tBl, FD.e2, eA, aCons, aNil, eV, h1, h2, h3, h4, h5, sNx, List.getElem?_cons_zero, List.getElem?_cons_succ, Bool.false_eq_true, if_false]
theorem kC_ok {C : List DV → Option DV} {d3 d9 c : DV} {P i : Int} (h3 : C [d3, .int (P - 1)] = some c) (h4 : dIx c d9 = some (.int (i - 1))) :
    (sIf (tBl (FD.e2 (FD.e2 (eA (aCons (eV 3) (aCons (FD.e2 (eV 6) (eC (.int 1)) dSub) (aNil))) C) (eV 9) dIx) (FD.e2 (eV 8) (eC (.int 1)) dSub) dNe)) (sRt (eC (.bl false))) (sNx)) ⟨[a0, a1, a2, some (.dat d3), a4, a5, some (.dat (.int P)), a7, some (.dat (.int i)), some (.dat d9), a10, a11], sp⟩ = some (.nx ⟨[a0, a1, a2, some (.dat d3), a4, a5, some (.dat (.int P)), a7, some (.dat (.int i)), some (.dat d9), a10, a11], sp⟩) := by
  have m : ∀ a b : Int, dSub (.int a) (.int b) = some (.int (a - b)) := fun _ _ => rfl
  have z : dNe (.int (i - 1)) (.int (i - 1)) = some (.bl false) := by rw [dNe_int]; simp
  generalize dNe = NE at *
  generalize dIx = IX at *
  simp only [sIf, tBl, FD.e2, eA, aCons, aNil, eV, eC, m, h3, h4, z, sNx, List.getElem?_cons_zero, List.getElem?_cons_succ, Bool.false_eq_true, if_false]
end
section
variable {e : Int} {x : Num}
theorem one_ne (c : Nat) (hc : c = 97 ∨ c = 98) : dNe (oneS c) (oneS c) = some (.bl false) := by
  rcases hc with rfl | rfl
  · rw [one_a]; exact ne_aa
  · rw [one_b]; exact ne_bb
theorem ne_int0 (i : Int) : dNe (.int i) (.int i) = some (.bl false) := by rw [dNe_int]; simp
theorem kd_a (h : Rq e x) {i : Int} (i0 : 1 ≤ i) (i1 : i ≤ 10 ^ 30) (a0 a1 a2 a4 a5 a6 a7 a11 : Option SV) (sp : Spl) : ∃ b6, k24 ⟨[a0, a1, a2, some (.dat (nm x)), a4, a5, a6, a7, some (.dat (.int i)), some (.dat (.int 0)), some (.dat (oneS 97)), a11], sp⟩ = some (.nx ⟨[a0, a1, a2, some (.dat (nm x)), a4, a5, b6, a7, some (.dat (.int i)), some (.dat (.int 0)), some (.dat (oneS 97)), a11], sp⟩) := by
  obtain ⟨g1, g2, g3⟩ := GA_done h.ra i
  obtain ⟨b1, b2⟩ := GA_bd h (i := i) (by omega)
  have c1 := place_a_prog h.ra (i := i) (lt_up (a := 100) (by omega))
  have c2 := act_at_ok h.ra (n := GA x i) (by omega)
  rw [if_neg g3] at c2
  have c3 := counts_ok h.ra (n := GA x i) (by omega)
  have c4 := counts_ok h.ra (n := GA x i - 1) (by omega)
  rw [g1, show GA x i - (GA x i - i) = i by omega] at c3
  rw [g2, show GA x i - 1 - (GA x i - i) = i - 1 by omega] at c4
  rw [one_a]
  generalize GA x i = P at *
  have x3 : dIx (.tup [.int i, .int (P - i)]) (.int 0) = some (.int i) := rfl
  have x4 : dIx (.tup [.int (i - 1), .int (P - i)]) (.int 0) = some (.int (i - 1)) := rfl
  refine ⟨some (.dat (.int P)), ?_⟩
  unfold k24
  refine (seq_nx (kA_ok c1)).trans ((seq_nx (kB_ok c2 ne_aa c3 x3 (ne_int0 i))).trans ?_)
  exact kC_ok c4 x4
theorem kd_b (h : Rq e x) {i : Int} (i0 : 1 ≤ i) (i1 : i ≤ 10 ^ 30) (a0 a1 a2 a4 a5 a6 a7 a11 : Option SV) (sp : Spl) : ∃ b6, k24 ⟨[a0, a1, a2, some (.dat (nm x)), a4, a5, a6, a7, some (.dat (.int i)), some (.dat (.int 1)), some (.dat (oneS 98)), a11], sp⟩ = some (.nx ⟨[a0, a1, a2, some (.dat (nm x)), a4, a5, b6, a7, some (.dat (.int i)), some (.dat (.int 1)), some (.dat (oneS 98)), a11], sp⟩) := by
  obtain ⟨g1, g2⟩ := GB_done h.ra i
  have b1 := GB_bd h (j := i) (by omega)
  have b2 := GB_big h.ra (j := i) (by omega)
  have c1 := place_b_prog h.ra (i := i) (lt_up (a := 100) (by omega))
  have c2 := act_at_ok h.ra (n := GB e x i) (by omega)
  rw [g1, if_pos rfl] at c2
  have c3 := counts_ok h.ra (n := GB e x i) (by omega)
  have c4 := counts_ok h.ra (n := GB e x i - 1) (by omega)
  rw [g1] at c3
  rw [g2] at c4
  rw [one_b]
  generalize GB e x i = P at *
  have x3 : dIx (.tup [.int (P - i), .int i]) (.int 1) = some (.int i) := rfl
  have x4 : dIx (.tup [.int (P - 1 - (i - 1)), .int (i - 1)]) (.int 1) = some (.int (i - 1)) := rfl
  refine ⟨some (.dat (.int P)), ?_⟩
  unfold k24
  refine (seq_nx (kA_ok c1)).trans ((seq_nx (kB_ok c2 ne_bb c3 x3 (ne_int0 i))).trans ?_)
  exact kC_ok c4 x4
theorem s24A_ok {M : List DV → Spl → Option (DV × Spl)} {d7 : DV} {U : Int} {a0 a2 a3 a4 a5 a6 a8 a9 a10 a11 : Option SV} {sp sp' : Spl} (h : M [d7] sp = some (.int U, sp')) :
    (sAsg (FD.e2 (eC (.int 1)) (eS 1 (aCons (eV 7) (aNil)) M) dAdd) (gNm 8)) ⟨[a0, some .spl, a2, a3, a4, a5, a6, some (.dat d7), a8, a9, a10, a11], sp⟩ = some (.nx ⟨[a0, some .spl, a2, a3, a4, a5, a6, some (.dat d7), some (.dat (.int (1 + U))), a9, a10, a11], sp'⟩) := by
  have ai : ∀ a b : Int, dAdd (.int a) (.int b) = some (.int (a + b)) := fun _ _ => rfl
  simp only [sAsg, FD.e2, eC, eS, aCons, aNil, eV, h, ai, gNm, List.getElem?_cons_zero, List.getElem?_cons_succ, List.set_cons_succ, List.set_cons_zero]
theorem s24_ok (h : Rq e x) {z : Int} (z0 : 0 < z) (z1 : z ≤ 10 ^ 30) {n : Nat} {sp : Spl} (hp : Pl n sp) (hn : n ≤ 100000) (a0 a2 a4 a5 a6 a8 a9 a10 a11 : Option SV) : ∃ b6 b8 b9 b10 sp', s24 ⟨[a0, some .spl, a2, some (.dat (nm x)), a4, a5, a6, some (.dat (.int z)), a8, a9, a10, a11], sp⟩ =
    some (.nx ⟨[a0, some .spl, a2, some (.dat (nm x)), a4, a5, b6, some (.dat (.int z)), b8, b9, b10, a11], sp'⟩) ∧ Pl (n + 1) sp' := by
  have c1 : m_law_upto [.int z] sp = _ := c_upto hp z0 (lt_up (a := 100) (by omega)) (by omega)
  have v := upV_lt (s := sp) (b := z) z0
  have p1 := pl_up (b := z) hp
  generalize upS sp z = sp1 at *
  generalize upV sp z = U at *
  have A := s24A_ok (a0 := a0) (a2 := a2) (a3 := some (.dat (nm x))) (a4 := a4) (a5 := a5) (a6 := a6) (a8 := a8) (a9 := a9) (a10 := a10) (a11 := a11) c1
  obtain ⟨b6, ka⟩ := kd_a h (i := 1 + U) (by omega) (by omega) a0 (some .spl) a2 a4 a5 a6 (some (.dat (.int z))) a11 sp1
  obtain ⟨c6, kb⟩ := kd_b h (i := 1 + U) (by omega) (by omega) a0 (some .spl) a2 a4 a5 b6 (some (.dat (.int z))) a11 sp1
  have it : iEnS (eC (.str "ab")) ⟨[a0, some .spl, a2, some (.dat (nm x)), a4, a5, a6, some (.dat (.int z)), some (.dat (.int (1 + U))), a9, a10, a11], sp1⟩ = some ([.tup [.int 0, oneS 97], .tup [.int 1, oneS 98]], ⟨[a0, some .spl, a2, some (.dat (nm x)), a4, a5, a6, some (.dat (.int z)), some (.dat (.int (1 + U))), a9, a10, a11], sp1⟩) := by
    unfold iEnS
    simp only [eC]
    rw [txt_ab]
    rfl
  refine ⟨c6, some (.dat (.int (1 + U))), some (.dat (.int 1)), some (.dat (oneS 98)), sp1, ?_, p1⟩
  unfold s24
  refine (seq_nx A).trans ?_
  refine (sFr_of (g := gTp 2 (gCo (gNm 9) (gCo (gNm 10) (gNi)))) (B := k24) it).trans ?_
  generalize oneS 97 = O1 at *
  generalize oneS 98 = O2 at *
  unfold frN
  simp only [gTp, gCo, gNm, gNi, List.length_cons, List.length_nil, Nat.reduceAdd, if_true, List.set_cons_succ, List.set_cons_zero]
  rw [ka]
  dsimp only
  unfold frN
  simp only [gTp, gCo, gNm, gNi, List.length_cons, List.length_nil, Nat.reduceAdd, if_true, List.set_cons_succ, List.set_cons_zero]
  rw [kb]
  rfl
end
end T4

set_option maxRecDepth 100000
set_option maxHeartbeats 4000000
set_option exponentiation.threshold 30000
namespace T4
open PySem L2 FD
def f24A : SF := (sAsg (FD.e2 (eIxN 3 (eC (.int 0))) (eIxN 3 (eC (.int 3))) dAdd) (gNm 7))
def f24B : SF := (sIf (tOo (tBl (FD.e2 (eSlS 4 (oSo (eV 7)) (oNo)) (eSlS 4 (oNo) (oSo (FD.e2 (eC (.int 90)) (eV 7) dSub))) dNe)) (tBl (FD.e2 (eA (aCons (eV 3) (aCons (eV 7) (aNil))) m_counts) (eA (aCons (eIxN 3 (eC (.int 0))) (aCons (eIxN 3 (eC (.int 3))) (aNil))) oTup) dNe))) (sRt (eC (.bl false))) (sNx))
def f24C : SF := (sAsg (eS 1 (aCons (FD.e2 (eC (.int 10)) (eC (.int 20)) dPow) (aNil)) m_law_upto) (gNm 11))
def f24D : SF := (sIf (tBl (FD.e2 (eA (aCons (eV 3) (aCons (FD.e2 (eC (.int 1)) (FD.e2 (eV 11) (eV 7) dMul) dAdd) (aNil))) m_act_at) (eIxN 4 (eC (.int 0))) dNe)) (sRt (eC (.bl false))) (sNx))
def f24 : SF := sSeq f24A (sSeq f24B (sSeq f24C f24D))
def t24A : SF := (sAsg (eS 1 (aNil) m_law_drawn_ratio) (gNm 3))
def t24B : SF := (sAsg (eA (aCons (eV 3) (aCons (eC (.int 90)) (aNil))) m_acts) (gNm 4))
def t24C : SF := (sAsg (eS 1 (aCons (eC (.int 91)) (aNil)) m_law_upto) (gNm 5))
def t24D : SF := (sIf (tOo (tBl (FD.e2 (eA (aCons (eV 3) (aCons (eV 5) (aNil))) m_acts) (eSlS 4 (oNo) (oSo (eV 5))) dNe)) (tBl (FD.e2 (e2 (eC (.str "")) (eL (lCp (iRg1 (aCons (eC (.int 90)) (aNil))) 6 (tY) (eA (aCons (eV 3) (aCons (FD.e2 (eV 6) (eC (.int 1)) dAdd) (aNil))) m_act_at))) dJoin) (eV 4) dNe))) (sRt (eC (.bl false))) (sNx))
def t24E : SF := (sFr (iTp (eA (aCons (eC (.int 10)) (aCons (FD.e2 (eC (.int 10)) (eC (.int 30)) dPow) (aNil))) oTup)) (gNm 7) s24)
def t24F : SF := (sIf (tBl (FD.e2 (eIxN 3 (eC (.int 1))) (eC (.int 0)) dNe)) (sIf (tNo (tTr (eS 1 (aCons (eV 3) (aNil)) m_law_rooted_right))) (sRt (eC (.bl false))) (sNx)) (sIf (tBl (FD.e2 (FD.e2 (eIxN 3 (eC (.int 0))) (eIxN 3 (eC (.int 3))) dAdd) (eC (.int 60)) dLt)) f24 (sNx)))
def turn24 : SF := sSeq t24A (sSeq t24B (sSeq t24C (sSeq t24D (sSeq t24E t24F))))
def b_law : SF :=
  sSeq (sFr (iRg1 (aCons (eC (.int 8)) (aNil))) (gNm 2) (sSeq (sAsg (eS 1 (aNil) m_law_drawn_ratio) (gNm 3))
  (sSeq (sAsg (eA (aCons (eV 3) (aCons (eC (.int 90)) (aNil))) m_acts) (gNm 4))
  (sSeq (sAsg (eS 1 (aCons (eC (.int 91)) (aNil)) m_law_upto) (gNm 5))
  (sSeq (sIf (tOo (tBl (e2 (eA (aCons (eV 3) (aCons (eV 5) (aNil))) m_acts) (eSlS 4 (oNo) (oSo (eV 5))) dNe)) (tBl (e2 (e2 (eC (.str "")) (eL (lCp (iRg1 (aCons (eC (.int 90)) (aNil))) 6 (tY) (eA (aCons (eV 3) (aCons (e2 (eV 6) (eC (.int 1)) dAdd) (aNil))) m_act_at))) dJoin) (eV 4) dNe))) (sRt (eC (.bl false))) (sNx))
  (sSeq (sFr (iTp (eA (aCons (eC (.int 10)) (aCons (e2 (eC (.int 10)) (eC (.int 30)) dPow) (aNil))) oTup)) (gNm 7) (sSeq (sAsg (e2 (eC (.int 1)) (eS 1 (aCons (eV 7) (aNil)) m_law_upto) dAdd) (gNm 8))
  (sFr (iEnS (eC (.str "ab"))) (gTp 2 (gCo (gNm 9) (gCo (gNm 10) (gNi)))) (sSeq (sAsg (eA (aCons (eV 3) (aCons (eV 10) (aCons (eV 8) (aNil)))) m_place_of) (gNm 6))
  (sSeq (sIf (tOo (tBl (e2 (eA (aCons (eV 3) (aCons (eV 6) (aNil))) m_act_at) (eV 10) dNe)) (tBl (e2 (e2 (eA (aCons (eV 3) (aCons (eV 6) (aNil))) m_counts) (eV 9) dIx) (eV 8) dNe))) (sRt (eC (.bl false))) (sNx))
  (sIf (tBl (e2 (e2 (eA (aCons (eV 3) (aCons (e2 (eV 6) (eC (.int 1)) dSub) (aNil))) m_counts) (eV 9) dIx) (e2 (eV 8) (eC (.int 1)) dSub) dNe)) (sRt (eC (.bl false))) (sNx)))))))
  (sIf (tBl (e2 (eIxN 3 (eC (.int 1))) (eC (.int 0)) dNe)) (sIf (tNo (tTr (eS 1 (aCons (eV 3) (aNil)) m_law_rooted_right))) (sRt (eC (.bl false))) (sNx)) (sIf (tBl (e2 (e2 (eIxN 3 (eC (.int 0))) (eIxN 3 (eC (.int 3))) dAdd) (eC (.int 60)) dLt)) (sSeq (sAsg (e2 (eIxN 3 (eC (.int 0))) (eIxN 3 (eC (.int 3))) dAdd) (gNm 7))
  (sSeq (sIf (tOo (tBl (e2 (eSlS 4 (oSo (eV 7)) (oNo)) (eSlS 4 (oNo) (oSo (e2 (eC (.int 90)) (eV 7) dSub))) dNe)) (tBl (e2 (eA (aCons (eV 3) (aCons (eV 7) (aNil))) m_counts) (eA (aCons (eIxN 3 (eC (.int 0))) (aCons (eIxN 3 (eC (.int 3))) (aNil))) oTup) dNe))) (sRt (eC (.bl false))) (sNx))
  (sSeq (sAsg (eS 1 (aCons (e2 (eC (.int 10)) (eC (.int 20)) dPow) (aNil)) m_law_upto) (gNm 11))
  (sIf (tBl (e2 (eA (aCons (eV 3) (aCons (e2 (eC (.int 1)) (e2 (eV 11) (eV 7) dMul) dAdd) (aNil))) m_act_at) (eIxN 4 (eC (.int 0))) dNe)) (sRt (eC (.bl false))) (sNx))))) (sNx)))))))))
  (sRt (eC (.bl true)))
theorem b_law_eq : b_law = sSeq (sFr (iRg1 (aCons (eC (.int 8)) (aNil))) (gNm 2) turn24) (sRt (eC (.bl true))) := rfl
section
variable {a0 a1 a2 a3 a4 a5 a6 a7 a8 a9 a10 a11 : Option SV} {sp sp' : Spl}
theorem tA_ok {M : List DV → Spl → Option (DV × Spl)} {w : DV} (h : M [] sp = some (w, sp')) :
    (sAsg (eS 1 (aNil) M) (gNm 3)) ⟨[a0, some .spl, a2, a3, a4, a5, a6, a7, a8, a9, a10, a11], sp⟩ = some (.nx ⟨[a0, some .spl, a2, some (.dat w), a4, a5, a6, a7, a8, a9, a10, a11], sp'⟩) := by
  simp only [sAsg, eS, aNil, h, gNm, List.getElem?_cons_zero, List.getElem?_cons_succ, List.set_cons_succ, List.set_cons_zero]
theorem tB_ok {M : List DV → Option DV} {d3 w : DV} (h : M [d3, .int 90] = some w) :
    (sAsg (eA (aCons (eV 3) (aCons (eC (.int 90)) (aNil))) M) (gNm 4)) ⟨[a0, a1, a2, some (.dat d3), a4, a5, a6, a7, a8, a9, a10, a11], sp⟩ = some (.nx ⟨[a0, a1, a2, some (.dat d3), some (.dat w), a5, a6, a7, a8, a9, a10, a11], sp⟩) := by
  simp only [sAsg, eA, aCons, aNil, eV, eC, h, gNm, List.getElem?_cons_zero, List.getElem?_cons_succ, List.set_cons_succ, List.set_cons_zero]
theorem tC_ok {M : List DV → Spl → Option (DV × Spl)} {w : DV} (h : M [.int 91] sp = some (w, sp')) :
    (sAsg (eS 1 (aCons (eC (.int 91)) (aNil)) M) (gNm 5)) ⟨[a0, some .spl, a2, a3, a4, a5, a6, a7, a8, a9, a10, a11], sp⟩ = some (.nx ⟨[a0, some .spl, a2, a3, a4, some (.dat w), a6, a7, a8, a9, a10, a11], sp'⟩) := by
  simp only [sAsg, eS, aCons, aNil, eC, h, gNm, List.getElem?_cons_zero, List.getElem?_cons_succ, List.set_cons_succ, List.set_cons_zero]
theorem tD_ok {M : List DV → Option DV} {SL EL : EF} {d3 d4 d5 w l : DV} (h1 : M [d3, d5] = some w)
    (h2 : SL ⟨[a0, a1, a2, some (.dat d3), some (.dat d4), some (.dat d5), a6, a7, a8, a9, a10, a11], sp⟩ = some (w, ⟨[a0, a1, a2, some (.dat d3), some (.dat d4), some (.dat d5), a6, a7, a8, a9, a10, a11], sp⟩)) (h3 : dNe w w = some (.bl false))
    (h4 : EL ⟨[a0, a1, a2, some (.dat d3), some (.dat d4), some (.dat d5), a6, a7, a8, a9, a10, a11], sp⟩ = some (l, ⟨[a0, a1, a2, some (.dat d3), some (.dat d4), some (.dat d5), none, a7, a8, a9, a10, a11], sp⟩)) (h5 : dJoin (.str (("" : String) : Str)) l = some d4) (h6 : dNe d4 d4 = some (.bl false)) :
    (sIf (tOo (tBl (FD.e2 (eA (aCons (eV 3) (aCons (eV 5) (aNil))) M) SL dNe)) (tBl (FD.e2 (FD.e2 (eC (.str "")) EL dJoin) (eV 4) dNe))) (sRt (eC (.bl false))) (sNx)) ⟨[a0, a1, a2, some (.dat d3), some (.dat d4), some (.dat d5), a6, a7, a8, a9, a10, a11], sp⟩ = some (.nx ⟨[a0, a1, a2, some (.dat d3), some (.dat d4), some (.dat d5), none, a7, a8, a9, a10, a11], sp⟩) := by
  generalize dNe = NE at *
  generalize dJoin = JN at *
  simp only [sIf, tOo, tBl, FD.e2, eA, aCons, aNil, eV, eC, h1, h2, h3, h4, h5, h6, sNx, List.getElem?_cons_zero, List.getElem?_cons_succ, Bool.false_eq_true, if_false]
theorem sl5_ok {X : Str} {w : DV} {U : Int} (h : dSlS (.str X) none (some U) = some w) :
    eSlS 4 oNo (oSo (eV 5)) ⟨[a0, a1, a2, a3, some (.dat (.str X)), some (.dat (.int U)), a6, a7, a8, a9, a10, a11], sp⟩ = some (w, ⟨[a0, a1, a2, a3, some (.dat (.str X)), some (.dat (.int U)), a6, a7, a8, a9, a10, a11], sp⟩) := by
  unfold eSlS
  generalize dSlS = DS at *
  simp only [FD.peek, oNo, oSo, eV, h, List.getElem?_cons_zero, List.getElem?_cons_succ]
theorem slLo_ok {X : Str} {w : DV} {z : Int} (h : dSlS (.str X) (some z) none = some w) :
    eSlS 4 (oSo (eV 7)) oNo ⟨[a0, a1, a2, a3, some (.dat (.str X)), a5, a6, some (.dat (.int z)), a8, a9, a10, a11], sp⟩ = some (w, ⟨[a0, a1, a2, a3, some (.dat (.str X)), a5, a6, some (.dat (.int z)), a8, a9, a10, a11], sp⟩) := by
  unfold eSlS
  generalize dSlS = DS at *
  simp only [FD.peek, oNo, oSo, eV, h, List.getElem?_cons_zero, List.getElem?_cons_succ]
theorem slHi_ok {X : Str} {w : DV} {z : Int} (h : dSlS (.str X) none (some (90 - z)) = some w) :
    eSlS 4 oNo (oSo (FD.e2 (eC (.int 90)) (eV 7) dSub)) ⟨[a0, a1, a2, a3, some (.dat (.str X)), a5, a6, some (.dat (.int z)), a8, a9, a10, a11], sp⟩ = some (w, ⟨[a0, a1, a2, a3, some (.dat (.str X)), a5, a6, some (.dat (.int z)), a8, a9, a10, a11], sp⟩) := by
  have m : dSub (.int 90) (.int z) = some (.int (90 - z)) := rfl
  unfold eSlS
  generalize dSlS = DS at *
  simp only [FD.peek, oNo, oSo, eV, eC, FD.e2, m, h, List.getElem?_cons_zero, List.getElem?_cons_succ]
theorem fA_ok {d3 : DV} {p s : Int} (i0 : dIx d3 (.int 0) = some (.int p)) (i3 : dIx d3 (.int 3) = some (.int s)) :
    f24A ⟨[a0, a1, a2, some (.dat d3), a4, a5, a6, a7, a8, a9, a10, a11], sp⟩ = some (.nx ⟨[a0, a1, a2, some (.dat d3), a4, a5, a6, some (.dat (.int (p + s))), a8, a9, a10, a11], sp⟩) := by
  have ai : ∀ a b : Int, dAdd (.int a) (.int b) = some (.int (a + b)) := fun _ _ => rfl
  unfold f24A eIxN
  generalize dIx = IX at *
  simp only [sAsg, FD.e2, FD.peek, eC, i0, i3, ai, gNm, List.getElem?_cons_zero, List.getElem?_cons_succ, List.set_cons_succ, List.set_cons_zero]
theorem fB_ok {M : List DV → Option DV} {S1 S2 : EF} {d3 d7 w : DV} {p s : Int} (i0 : dIx d3 (.int 0) = some (.int p)) (i3 : dIx d3 (.int 3) = some (.int s))
    (h1 : S1 ⟨[a0, a1, a2, some (.dat d3), a4, a5, a6, some (.dat d7), a8, a9, a10, a11], sp⟩ = some (w, ⟨[a0, a1, a2, some (.dat d3), a4, a5, a6, some (.dat d7), a8, a9, a10, a11], sp⟩))
    (h2 : S2 ⟨[a0, a1, a2, some (.dat d3), a4, a5, a6, some (.dat d7), a8, a9, a10, a11], sp⟩ = some (w, ⟨[a0, a1, a2, some (.dat d3), a4, a5, a6, some (.dat d7), a8, a9, a10, a11], sp⟩)) (h3 : dNe w w = some (.bl false)) (h4 : M [d3, d7] = some (.tup [.int p, .int s])) (h5 : dNe (.tup [.int p, .int s]) (.tup [.int p, .int s]) = some (.bl false)) :
    (sIf (tOo (tBl (FD.e2 S1 S2 dNe)) (tBl (FD.e2 (eA (aCons (eV 3) (aCons (eV 7) (aNil))) M) (eA (aCons (eIxN 3 (eC (.int 0))) (aCons (eIxN 3 (eC (.int 3))) (aNil))) oTup) dNe))) (sRt (eC (.bl false))) (sNx)) ⟨[a0, a1, a2, some (.dat d3), a4, a5, a6, some (.dat d7), a8, a9, a10, a11], sp⟩ = some (.nx ⟨[a0, a1, a2, some (.dat d3), a4, a5, a6, some (.dat d7), a8, a9, a10, a11], sp⟩) := by
  have k2 : (2 : Nat) ≤ sizeLine := by decide
  unfold eIxN
  generalize dIx = IX at *
  generalize dNe = NE at *
  simp only [sIf, tOo, tBl, FD.e2, FD.peek, eA, aCons, aNil, eV, eC, oTup, k2, i0, i3, h1, h2, h3, h4, h5, sNx, List.length_cons, List.length_nil, Nat.reduceAdd, List.getElem?_cons_zero, List.getElem?_cons_succ, Bool.false_eq_true, if_false, if_true]
theorem fC_ok {M : List DV → Spl → Option (DV × Spl)} {w : DV} (h : M [.int (10 ^ (Int.toNat 20))] sp = some (w, sp')) :
    (sAsg (eS 1 (aCons (FD.e2 (eC (.int 10)) (eC (.int 20)) dPow) (aNil)) M) (gNm 11)) ⟨[a0, some .spl, a2, a3, a4, a5, a6, a7, a8, a9, a10, a11], sp⟩ = some (.nx ⟨[a0, some .spl, a2, a3, a4, a5, a6, a7, a8, a9, a10, some (.dat w)], sp'⟩) := by
  have p : dPow (.int 10) (.int 20) = some (.int (10 ^ (Int.toNat 20))) := rfl
  simp only [sAsg, eS, aCons, aNil, FD.e2, eC, p, h, gNm, List.getElem?_cons_zero, List.getElem?_cons_succ, List.set_cons_succ, List.set_cons_zero]
theorem fD_ok {M : List DV → Option DV} {d3 d4 w : DV} {z f : Int} (ft : fitM f z = true) (h1 : M [d3, .int (1 + f * z)] = some w) (h2 : dIx d4 (.int 0) = some w) (h3 : dNe w w = some (.bl false)) :
    (sIf (tBl (FD.e2 (eA (aCons (eV 3) (aCons (FD.e2 (eC (.int 1)) (FD.e2 (eV 11) (eV 7) dMul) dAdd) (aNil))) M) (eIxN 4 (eC (.int 0))) dNe)) (sRt (eC (.bl false))) (sNx)) ⟨[a0, a1, a2, some (.dat d3), some (.dat d4), a5, a6, some (.dat (.int z)), a8, a9, a10, some (.dat (.int f))], sp⟩ = some (.nx ⟨[a0, a1, a2, some (.dat d3), some (.dat d4), a5, a6, some (.dat (.int z)), a8, a9, a10, some (.dat (.int f))], sp⟩) := by
  have ai : ∀ a b : Int, dAdd (.int a) (.int b) = some (.int (a + b)) := fun _ _ => rfl
  have mi : dMul (.int f) (.int z) = some (.int (f * z)) := if_pos ft
  unfold eIxN
  generalize dIx = IX at *
  generalize dNe = NE at *
  simp only [sIf, tBl, FD.e2, FD.peek, eA, aCons, aNil, eV, eC, ai, mi, h1, h2, h3, sNx, List.getElem?_cons_zero, List.getElem?_cons_succ, Bool.false_eq_true, if_false]
theorem tF_root {M : List DV → Spl → Option (DV × Spl)} {d3 : DV} {B : SF} {q : Int} (i1 : dIx d3 (.int 1) = some (.int q)) (hq : q ≠ 0) (h : M [d3] sp = some (.bl true, sp')) :
    (sIf (tBl (FD.e2 (eIxN 3 (eC (.int 1))) (eC (.int 0)) dNe)) (sIf (tNo (tTr (eS 1 (aCons (eV 3) (aNil)) M))) (sRt (eC (.bl false))) (sNx)) B) ⟨[a0, some .spl, a2, some (.dat d3), a4, a5, a6, a7, a8, a9, a10, a11], sp⟩ = some (.nx ⟨[a0, some .spl, a2, some (.dat d3), a4, a5, a6, a7, a8, a9, a10, a11], sp'⟩) := by
  have z : dNe (.int q) (.int 0) = some (.bl true) := by rw [dNe_int]; simp [hq]
  unfold eIxN
  generalize dIx = IX at *
  generalize dNe = NE at *
  simp only [sIf, tBl, tNo, tTr, FD.e2, FD.peek, eS, aCons, aNil, eV, eC, i1, z, h, truD, Bool.not_true, sNx, List.getElem?_cons_zero, List.getElem?_cons_succ, if_true, Bool.false_eq_true, if_false]
theorem tF_frac {B1 B : SF} {d3 : DV} {p s : Int} (i0 : dIx d3 (.int 0) = some (.int p)) (i1 : dIx d3 (.int 1) = some (.int 0)) (i3 : dIx d3 (.int 3) = some (.int s)) :
    (sIf (tBl (FD.e2 (eIxN 3 (eC (.int 1))) (eC (.int 0)) dNe)) B1 (sIf (tBl (FD.e2 (FD.e2 (eIxN 3 (eC (.int 0))) (eIxN 3 (eC (.int 3))) dAdd) (eC (.int 60)) dLt)) B (sNx))) ⟨[a0, a1, a2, some (.dat d3), a4, a5, a6, a7, a8, a9, a10, a11], sp⟩ = (if p + s < 60 then B ⟨[a0, a1, a2, some (.dat d3), a4, a5, a6, a7, a8, a9, a10, a11], sp⟩ else some (.nx ⟨[a0, a1, a2, some (.dat d3), a4, a5, a6, a7, a8, a9, a10, a11], sp⟩)) := by
  have z : dNe (.int 0) (.int 0) = some (.bl false) := by rw [dNe_int]; rfl
  have ai : ∀ a b : Int, dAdd (.int a) (.int b) = some (.int (a + b)) := fun _ _ => rfl
  unfold eIxN
  generalize dIx = IX at *
  generalize dNe = NE at *
  by_cases w : p + s < 60
  · have w' : decide (p + s < 60) = true := decide_eq_true w
    rw [if_pos w]
    clear w
    simp only [sIf, tBl, FD.e2, FD.peek, eC, i0, i1, i3, z, ai, dI, w', List.getElem?_cons_zero, List.getElem?_cons_succ]
  · have w' : decide (p + s < 60) = false := decide_eq_false w
    rw [if_neg w]
    clear w
    simp only [sIf, tBl, FD.e2, FD.peek, eC, i0, i1, i3, z, ai, dI, w', sNx, List.getElem?_cons_zero, List.getElem?_cons_succ]
end
end T4

set_option maxRecDepth 100000
set_option maxHeartbeats 4000000
set_option exponentiation.threshold 30000
namespace T4
open PySem L2 FD
section
variable {e : Int} {x : Num}
theorem drawn_rq {n : Nat} {sp : Spl} (hp : Pl n sp) (hn : n ≤ 50000) : ∃ x e sp', m_law_drawn_ratio [] sp = some (nm x, sp') ∧ Rq e x ∧ Pl (n + 10) sp' := by
  obtain ⟨x, e, sp', c, g, ⟨rt, e21⟩, pos, p⟩ := drawn_ratio4 hp hn
  exact ⟨x, e, sp', c, ⟨g, rt, e21, pos⟩, p⟩
theorem act_one (h : Ra e x) {n : Int} (hn : n.natAbs < 2 ^ 139) : m_act_at [nm x, .int n] = some (oneS (code e x n)) := by
  rw [act_at_ok h hn]
  unfold code
  by_cases w : GB e x (doneN x n) = n
  · rw [if_pos w, if_pos w, one_b]
  · rw [if_neg w, if_neg w, one_a]
def actF : EF := (eA (aCons (eV 3) (aCons (FD.e2 (eV 6) (eC (.int 1)) dAdd) (aNil))) m_act_at)
theorem actF_ok {M : List DV → Option DV} {d3 w : DV} {k : Int} {a0 a1 a2 a4 a5 a7 a8 a9 a10 a11 : Option SV} {sp : Spl} (h : M [d3, .int (k + 1)] = some w) :
    (eA (aCons (eV 3) (aCons (FD.e2 (eV 6) (eC (.int 1)) dAdd) (aNil))) M) ⟨[a0, a1, a2, some (.dat d3), a4, a5, some (.dat (.int k)), a7, a8, a9, a10, a11], sp⟩ = some (w, ⟨[a0, a1, a2, some (.dat d3), a4, a5, some (.dat (.int k)), a7, a8, a9, a10, a11], sp⟩) := by
  have ai : ∀ a b : Int, dAdd (.int a) (.int b) = some (.int (a + b)) := fun _ _ => rfl
  simp only [eA, aCons, aNil, eV, FD.e2, eC, ai, h, List.getElem?_cons_zero, List.getElem?_cons_succ]
theorem act_cp (h : Ra e x) (a0 a1 a2 a4 a5 a7 a8 a9 a10 a11 : Option SV) (sp : Spl) : ∀ (m j : Nat) (acc : List DV), j + m ≤ 90 → acc.length + m ≤ 1000 →
    cpN ((List.range' j m).map fun (k : Nat) => .int (0 + (k : Int))) 6 tY actF ⟨[a0, a1, a2, some (.dat (nm x)), a4, a5, none, a7, a8, a9, a10, a11], sp⟩ acc = some (acc ++ (List.range' j m).map fun (k : Nat) => oneS (code e x ((k : Int) + 1)), ⟨[a0, a1, a2, some (.dat (nm x)), a4, a5, none, a7, a8, a9, a10, a11], sp⟩)
  | 0, j, acc, _, _ => by
    simp only [List.range'_zero, List.map_nil, List.append_nil]
    rfl
  | m + 1, j, acc, hj, ha => by
    have ih := act_cp h a0 a1 a2 a4 a5 a7 a8 a9 a10 a11 sp m (j + 1) (acc ++ [oneS (code e x ((j : Int) + 1))]) (by omega) (by rw [List.length_append, List.length_singleton]; omega)
    have c := act_one h (n := 0 + (j : Int) + 1) (lt_up (a := 20) (by omega))
    rw [show (0 : Int) + (j : Int) + 1 = (j : Int) + 1 by omega] at c
    have c' : m_act_at [nm x, .int (0 + (j : Int) + 1)] = some (oneS (code e x ((j : Int) + 1))) := by rw [show (0 : Int) + (j : Int) + 1 = (j : Int) + 1 by omega]; exact c
    have f := actF_ok (a0 := a0) (a1 := a1) (a2 := a2) (a4 := a4) (a5 := a5) (a7 := a7) (a8 := a8) (a9 := a9) (a10 := a10) (a11 := a11) (sp := sp) c'
    have cs := cp_step (d := .int (0 + (j : Int))) (i := 6) (f := actF) (s := ⟨[a0, a1, a2, some (.dat (nm x)), a4, a5, none, a7, a8, a9, a10, a11], sp⟩) (acc := acc) (ds := (List.range' (j + 1) m).map fun (k : Nat) => .int (0 + (k : Int))) f (by rw [sizeLine_eq]; omega)
    rw [List.range'_succ, List.map_cons, List.map_cons, cs]
    rw [List.append_assoc] at ih
    exact ih
theorem act_list (h : Ra e x) (a0 a1 a2 a4 a5 a6 a7 a8 a9 a10 a11 : Option SV) (sp : Spl) : (eL (lCp (iRg1 (aCons (eC (.int 90)) (aNil))) 6 (tY) (eA (aCons (eV 3) (aCons (FD.e2 (eV 6) (eC (.int 1)) dAdd) (aNil))) m_act_at))) ⟨[a0, a1, a2, some (.dat (nm x)), a4, a5, a6, a7, a8, a9, a10, a11], sp⟩ =
    some (.lst ((wd e x 90).map oneS), ⟨[a0, a1, a2, some (.dat (nm x)), a4, a5, none, a7, a8, a9, a10, a11], sp⟩) := by
  have it : iRg1 (aCons (eC (.int 90)) (aNil)) ⟨[a0, a1, a2, some (.dat (nm x)), a4, a5, a6, a7, a8, a9, a10, a11], sp⟩ = some (rngD 0 90, ⟨[a0, a1, a2, some (.dat (nm x)), a4, a5, a6, a7, a8, a9, a10, a11], sp⟩) := rfl
  have rg : rngD 0 90 = (List.range' 0 90).map fun (k : Nat) => .int (0 + (k : Int)) := by
    unfold rngD
    rw [List.range_eq_range']
  have cp := act_cp h a0 a1 a2 a4 a5 a7 a8 a9 a10 a11 sp 90 0 [] (by omega) (by decide)
  rw [← rg, List.nil_append] at cp
  have el : (List.range' 0 90).map (fun (k : Nat) => oneS (code e x ((k : Int) + 1))) = (wd e x 90).map oneS := by
    unfold wd
    rw [List.map_map, List.range_eq_range']
    rfl
  rw [el] at cp
  exact lCp_of it cp
theorem take_wd {n m : Nat} (h : m ≤ n) : (wd e x n).take m = wd e x m := by
  unfold wd
  rw [← List.map_take, List.take_range, Nat.min_eq_left h]
theorem ix_word {c : Nat} {l : List Nat} (hl : (c :: l).length ≤ 16777216) : dIx (txD (c :: l)) (.int 0) = some (oneS c) := by
  show (if (tx (c :: l)).length ≤ sizeLine then (atI (tx (c :: l)).cps.toList 0).map fun c => DV.str ⟨#[c]⟩ else none) = _
  rw [tx_len, if_pos (by rw [sz_eq]; exact hl)]
  have : atI (tx (c :: l)).cps.toList 0 = some c := by
    show atI (c :: l) 0 = some c
    unfold atI ixN
    simp
  rw [this]
  rfl
theorem frac_ok {p s : Int} (h : Rq e (p, 0, 0, s)) (hs : p + s < 60) {n : Nat} {sp : Spl} (hp : Pl n sp) (hn : n ≤ 100000) (a0 a2 a5 a6 a7 a8 a9 a10 a11 : Option SV) : ∃ b7 b11 sp', f24 ⟨[a0, some .spl, a2, some (.dat (nm (p, 0, 0, s))), some (.dat (txD (wd e (p, 0, 0, s) 90))), a5, a6, a7, a8, a9, a10, a11], sp⟩ =
    some (.nx ⟨[a0, some .spl, a2, some (.dat (nm (p, 0, 0, s))), some (.dat (txD (wd e (p, 0, 0, s) 90))), a5, a6, b7, a8, a9, a10, b11], sp'⟩) ∧ Pl (n + 1) sp' := by
  have r := h.ra
  have s0 : 0 < s := h.g.s0
  have p0 : 0 < p := by
    have := h.pos
    rw [sg_rat] at this
    unfold isg at this
    split at this
    · assumption
    · split at this <;> omega
  obtain ⟨z, hz⟩ : ∃ z : Nat, (z : Int) = p + s := ⟨(p + s).toNat, Int.toNat_of_nonneg (by omega)⟩
  have i0 : dIx (nm (p, 0, 0, s)) (.int 0) = some (.int p) := rfl
  have i3 : dIx (nm (p, 0, 0, s)) (.int 3) = some (.int s) := rfl
  have A := fA_ok (a0 := a0) (a1 := some .spl) (a2 := a2) (a4 := some (.dat (txD (wd e (p, 0, 0, s) 90)))) (a5 := a5) (a6 := a6) (a7 := a7) (a8 := a8) (a9 := a9) (a10 := a10) (a11 := a11) (sp := sp) i0 i3
  have wl : (wd e (p, 0, 0, s) 90).length = 90 := wd_len 90
  have c1 := cutT_lo (wd e (p, 0, 0, s) 90) z (by omega)
  have c2 := cutT_hi (wd e (p, 0, 0, s) 90) (90 - z) (by omega)
  rw [frac_wd r hz (by omega)] at c1
  rw [hz] at c1
  rw [show ((90 - z : Nat) : Int) = 90 - (p + s) by omega] at c2
  have S1 := slLo_ok (a0 := a0) (a1 := some .spl) (a2 := a2) (a3 := some (.dat (nm (p, 0, 0, s)))) (a5 := a5) (a6 := a6) (a8 := a8) (a9 := a9) (a10 := a10) (a11 := a11) (sp := sp) c1
  have S2 := slHi_ok (a0 := a0) (a1 := some .spl) (a2 := a2) (a3 := some (.dat (nm (p, 0, 0, s)))) (a5 := a5) (a6 := a6) (a8 := a8) (a9 := a9) (a10 := a10) (a11 := a11) (sp := sp) c2
  have nw := ne_ab2 (l := (wd e (p, 0, 0, s) 90).take (90 - z)) (fun c hc => wd_in3 c (List.mem_of_mem_take hc))
  have c3 := counts_ok r (n := p + s) (lt_up (a := 20) (by omega))
  have fd := frac_done r 0
  rw [done_zero r, Int.zero_add, Int.zero_add] at fd
  rw [fd, show p + s - s = p by omega] at c3
  have B := fB_ok i0 i3 S1 S2 nw c3 (ne_pair p s)
  have c4 : m_law_upto [.int (10 ^ (Int.toNat 20))] sp = _ := c_upto hp (by decide) (lt_up (a := 100) (by decide)) (by omega)
  have v := upV_lt (s := sp) (b := 10 ^ (Int.toNat 20)) (by decide)
  have p1 := pl_up (b := 10 ^ (Int.toNat 20)) hp
  have C := fC_ok (a0 := a0) (a2 := a2) (a3 := some (.dat (nm (p, 0, 0, s)))) (a4 := some (.dat (txD (wd e (p, 0, 0, s) 90)))) (a5 := a5) (a6 := a6) (a7 := some (.dat (.int (p + s)))) (a8 := a8) (a9 := a9) (a10 := a10) (a11 := a11) c4
  generalize upS sp (10 ^ (Int.toNat 20)) = sp1 at *
  generalize upV sp (10 ^ (Int.toNat 20)) = U at *
  have v0 := v.1
  have v1 : U < 10 ^ 20 := v.2
  obtain ⟨u, rfl⟩ : ∃ u : Nat, U = (u : Int) := ⟨U.toNat, (Int.toNat_of_nonneg v0).symm⟩
  have bd : (u : Int) * (p + s) < 10 ^ 20 * 60 := by
    have := Int.mul_le_mul (show (u : Int) ≤ 10 ^ 20 by omega) (show p + s ≤ 59 by omega) (by omega) (by omega)
    omega
  have b0 : 0 ≤ (u : Int) * (p + s) := Int.mul_nonneg v0 (by omega)
  have c5 := act_one r (n := 1 + (u : Int) * (p + s)) (lt_up (a := 100) (by omega))
  rw [frac_far r 1 u] at c5
  have hd : ∃ l, wd e (p, 0, 0, s) 90 = code e (p, 0, 0, s) 1 :: l := ⟨_, by
    unfold wd
    rw [List.range_eq_range', List.range'_succ, List.map_cons]
    rfl⟩
  obtain ⟨l, hl⟩ := hd
  have c6 : dIx (txD (wd e (p, 0, 0, s) 90)) (.int 0) = some (oneS (code e (p, 0, 0, s) 1)) := by
    rw [hl]
    exact ix_word (by rw [← hl]; omega)
  have D := fD_ok (a0 := a0) (a1 := some .spl) (a2 := a2) (a5 := a5) (a6 := a6) (a8 := a8) (a9 := a9) (a10 := a10) (sp := sp1) (fit_of (a := 100) (b := 100) (by omega) (by omega)) c5 c6 (one_ne _ (code_in3 1))
  refine ⟨some (.dat (.int (p + s))), some (.dat (.int (u : Int))), sp1, ?_, p1⟩
  unfold f24
  exact (seq_nx A).trans ((seq_nx B).trans ((seq_nx C).trans D))
theorem turn_ok (n : Nat) (hn : n ≤ 5000) (sp : Spl) (hp : Pl n sp) (t : Int) (a0 a3 a4 a5 a6 a7 a8 a9 a10 a11 : Option SV) :
    ∃ b3 b4 b5 b6 b7 b8 b9 b10 b11 sp', turn24 ⟨[a0, some .spl, some (.dat (.int t)), a3, a4, a5, a6, a7, a8, a9, a10, a11], sp⟩ = some (.nx ⟨[a0, some .spl, some (.dat (.int t)), b3, b4, b5, b6, b7, b8, b9, b10, b11], sp'⟩) ∧ Pl (n + 30) sp' := by
  obtain ⟨x, e, sp1, c1, h, p1⟩ := drawn_rq hp (by omega)
  have A := tA_ok (a0 := a0) (a2 := some (.dat (.int t))) (a3 := a3) (a4 := a4) (a5 := a5) (a6 := a6) (a7 := a7) (a8 := a8) (a9 := a9) (a10 := a10) (a11 := a11) c1
  have c2 : m_acts [nm x, .int 90] = some (txD (wd e x 90)) := acts_ok h.ra (n := 90) (by decide)
  have B := tB_ok (a0 := a0) (a1 := some .spl) (a2 := some (.dat (.int t))) (a4 := a4) (a5 := a5) (a6 := a6) (a7 := a7) (a8 := a8) (a9 := a9) (a10 := a10) (a11 := a11) (sp := sp1) c2
  have c3 : m_law_upto [.int 91] sp1 = _ := c_upto p1 (by decide) (lt_up (a := 10) (by decide)) (by omega)
  have v := upV_lt (s := sp1) (b := 91) (by decide)
  have p2 := pl_up (b := 91) p1
  have C := tC_ok (a0 := a0) (a2 := some (.dat (.int t))) (a3 := some (.dat (nm x))) (a4 := some (.dat (txD (wd e x 90)))) (a5 := a5) (a6 := a6) (a7 := a7) (a8 := a8) (a9 := a9) (a10 := a10) (a11 := a11) c3
  generalize upS sp1 91 = sp2 at *
  generalize upV sp1 91 = U at *
  obtain ⟨u, rfl⟩ : ∃ u : Nat, U = (u : Int) := ⟨U.toNat, (Int.toNat_of_nonneg v.1).symm⟩
  have u91 : u < 91 := by have := v.2; omega
  have c4 : m_acts [nm x, .int (u : Int)] = some (txD (wd e x u)) := acts_ok h.ra (n := u) (by omega)
  have wl : (wd e x 90).length = 90 := wd_len 90
  have c5 := cutT_hi (wd e x 90) u (by omega)
  rw [take_wd (by omega)] at c5
  have SL := sl5_ok (a0 := a0) (a1 := some .spl) (a2 := some (.dat (.int t))) (a3 := some (.dat (nm x))) (a6 := a6) (a7 := a7) (a8 := a8) (a9 := a9) (a10 := a10) (a11 := a11) (sp := sp2) c5
  have EL := act_list h.ra a0 (some .spl) (some (.dat (.int t))) (some (.dat (txD (wd e x 90)))) (some (.dat (.int (u : Int)))) a6 a7 a8 a9 a10 a11 sp2
  have D := tD_ok c4 SL (ne_ab2 wd_in3) EL (join_gen (by omega)) (ne_ab2 wd_in3)
  obtain ⟨d6, d8, d9, d10, sp3, E1, p3⟩ := s24_ok h (z := 10) (by decide) (by decide) p2 (by omega) a0 (some (.dat (.int t))) (some (.dat (txD (wd e x 90)))) (some (.dat (.int (u : Int)))) none a8 a9 a10 a11
  obtain ⟨e6, e8, e9, e10, sp4, E2, p4⟩ := s24_ok h (z := 10 ^ (Int.toNat 30)) (by decide) (by decide) p3 (by omega) a0 (some (.dat (.int t))) (some (.dat (txD (wd e x 90)))) (some (.dat (.int (u : Int)))) d6 d8 d9 d10 a11
  have k2 : (2 : Nat) ≤ sizeLine := by decide
  have it : iTp (eA (aCons (eC (.int 10)) (aCons (FD.e2 (eC (.int 10)) (eC (.int 30)) dPow) (aNil))) oTup) ⟨[a0, some .spl, some (.dat (.int t)), some (.dat (nm x)), some (.dat (txD (wd e x 90))), some (.dat (.int (u : Int))), none, a7, a8, a9, a10, a11], sp2⟩ = some ([.int 10, .int (10 ^ (Int.toNat 30))], ⟨[a0, some .spl, some (.dat (.int t)), some (.dat (nm x)), some (.dat (txD (wd e x 90))), some (.dat (.int (u : Int))), none, a7, a8, a9, a10, a11], sp2⟩) := by
    have pw : dPow (.int 10) (.int 30) = some (.int (10 ^ (Int.toNat 30))) := rfl
    simp only [iTp, eA, aCons, aNil, eC, FD.e2, pw, oTup, k2, List.length_cons, List.length_nil, Nat.reduceAdd, if_true]
  have E : t24E ⟨[a0, some .spl, some (.dat (.int t)), some (.dat (nm x)), some (.dat (txD (wd e x 90))), some (.dat (.int (u : Int))), none, a7, a8, a9, a10, a11], sp2⟩ = some (.nx ⟨[a0, some .spl, some (.dat (.int t)), some (.dat (nm x)), some (.dat (txD (wd e x 90))), some (.dat (.int (u : Int))), e6, some (.dat (.int (10 ^ (Int.toNat 30)))), e8, e9, e10, a11], sp4⟩) := by
    unfold t24E
    refine (sFr_of (g := gNm 7) (B := s24) it).trans ?_
    generalize (10 : Int) ^ (Int.toNat 30) = Z at *
    unfold frN
    simp only [gNm, List.set_cons_succ, List.set_cons_zero]
    rw [E1]
    dsimp only
    unfold frN
    simp only [gNm, List.set_cons_succ, List.set_cons_zero]
    rw [E2]
    rfl
  by_cases q0 : x.2.1 = 0
  · have d0 : x.2.2.1 = 0 := by rw [h.g.dd, if_pos q0]
    obtain ⟨p, q, d, s⟩ := x
    have q0' : q = 0 := q0
    have d0' : d = 0 := d0
    subst q0' d0'
    have F := tF_frac (B1 := (sIf (tNo (tTr (eS 1 (aCons (eV 3) (aNil)) m_law_rooted_right))) (sRt (eC (.bl false))) (sNx))) (B := f24) (d3 := nm (p, 0, 0, s)) (p := p) (s := s) rfl rfl rfl (a0 := a0) (a1 := some .spl) (a2 := some (.dat (.int t))) (a4 := some (.dat (txD (wd e (p, 0, 0, s) 90)))) (a5 := some (.dat (.int (u : Int)))) (a6 := e6) (a7 := some (.dat (.int (10 ^ (Int.toNat 30))))) (a8 := e8) (a9 := e9) (a10 := e10) (a11 := a11) (sp := sp4)
    by_cases w : p + s < 60
    · obtain ⟨b7, b11, sp5, K, p5⟩ := frac_ok h w p4 (by omega) a0 (some (.dat (.int t))) (some (.dat (.int (u : Int)))) e6 (some (.dat (.int (10 ^ (Int.toNat 30))))) e8 e9 e10 a11
      rw [if_pos w, K] at F
      refine ⟨some (.dat (nm (p, 0, 0, s))), some (.dat (txD (wd e (p, 0, 0, s) 90))), some (.dat (.int (u : Int))), e6, b7, e8, e9, e10, b11, sp5, ?_, by unfold Pl at *; omega⟩
      unfold turn24
      exact (seq_nx A).trans ((seq_nx B).trans ((seq_nx C).trans ((seq_nx D).trans ((seq_nx E).trans F))))
    · rw [if_neg w] at F
      refine ⟨some (.dat (nm (p, 0, 0, s))), some (.dat (txD (wd e (p, 0, 0, s) 90))), some (.dat (.int (u : Int))), e6, some (.dat (.int (10 ^ (Int.toNat 30)))), e8, e9, e10, a11, sp4, ?_, by unfold Pl at *; omega⟩
      unfold turn24
      exact (seq_nx A).trans ((seq_nx B).trans ((seq_nx C).trans ((seq_nx D).trans ((seq_nx E).trans F))))
  · have rs : Rs e x := ⟨h.g, h.rt, h.e21, q0, h.pos⟩
    obtain ⟨sp5, K, p5⟩ := rooted_right_ok rs p4 (by omega)
    have i1 : dIx (nm x) (.int 1) = some (.int x.2.1) := rfl
    have F := tF_root (B := (sIf (tBl (FD.e2 (FD.e2 (eIxN 3 (eC (.int 0))) (eIxN 3 (eC (.int 3))) dAdd) (eC (.int 60)) dLt)) f24 (sNx))) (a0 := a0) (a2 := some (.dat (.int t))) (a4 := some (.dat (txD (wd e x 90)))) (a5 := some (.dat (.int (u : Int)))) (a6 := e6) (a7 := some (.dat (.int (10 ^ (Int.toNat 30))))) (a8 := e8) (a9 := e9) (a10 := e10) (a11 := a11) i1 q0 K
    refine ⟨some (.dat (nm x)), some (.dat (txD (wd e x 90))), some (.dat (.int (u : Int))), e6, some (.dat (.int (10 ^ (Int.toNat 30)))), e8, e9, e10, a11, sp5, ?_, by unfold Pl at *; omega⟩
    unfold turn24
    exact (seq_nx A).trans ((seq_nx B).trans ((seq_nx C).trans ((seq_nx D).trans ((seq_nx E).trans F))))
theorem turns_ok : ∀ (m : Nat) (i : Nat) (n : Nat) (sp : Spl) (a2 a3 a4 a5 a6 a7 a8 a9 a10 a11 : Option SV) (a0 : Option SV), n + 30 * m ≤ 5000 → Pl n sp →
    ∃ s', frN ((List.range' i m).map fun (k : Nat) => .int (0 + (k : Int))) (gNm 2) turn24 ⟨[a0, some .spl, a2, a3, a4, a5, a6, a7, a8, a9, a10, a11], sp⟩ = some (.nx s')
  | 0, i, n, sp, a2, a3, a4, a5, a6, a7, a8, a9, a10, a11, a0, _, _ => ⟨_, rfl⟩
  | m + 1, i, n, sp, a2, a3, a4, a5, a6, a7, a8, a9, a10, a11, a0, hn, hp => by
    obtain ⟨b3, b4, b5, b6, b7, b8, b9, b10, b11, sp', h, p⟩ := turn_ok n (by omega) sp hp (0 + (i : Int)) a0 a3 a4 a5 a6 a7 a8 a9 a10 a11
    obtain ⟨s', h'⟩ := turns_ok m (i + 1) (n + 30) sp' (some (.dat (.int (0 + (i : Int))))) b3 b4 b5 b6 b7 b8 b9 b10 b11 a0 (by omega) p
    refine ⟨s', ?_⟩
    rw [List.range'_succ, List.map_cons]
    simp only [frN, gNm, List.set_cons_succ, List.set_cons_zero, h, h']
theorem law_ok (ns : List Int) (h : ns.length ≤ 63) : ∃ nums s', sf ns = some nums ∧ b_law ⟨some (.dat (.scr ns)) :: some .spl :: List.replicate (12 - 2) none, ⟨nums, 0, 0, 0⟩⟩ = some (.rt (.bl true) s') := by
  have h12 : inR 8 = true := rfl
  have hr : rngD 0 (Int.toNat 8) = (List.range' 0 8).map fun (k : Nat) => .int (0 + (k : Int)) := rfl
  obtain ⟨s', e⟩ := turns_ok 8 0 0 ⟨sfN ns, 0, 0, 0⟩ none none none none none none none none none none (some (.dat (.scr ns))) (by decide) (Nat.le_refl 0)
  refine ⟨sfN ns, s', if_pos h, ?_⟩
  rw [b_law_eq]
  show sSeq _ _ ⟨[some (.dat (.scr ns)), some .spl, none, none, none, none, none, none, none, none, none, none], _⟩ = _
  simp only [sSeq, sFr, iRg1, aCons, aNil, eC, h12, if_true, hr, e, sRt]
end
end T4

set_option maxRecDepth 100000
set_option maxHeartbeats 0
namespace T4
open PySem PySem.Spec PyProof.Rows L2 FD
def topS (i : Nat) : Stmt := PySem.Challenge.pw_twospeeds_k24_whole_order.main.body.getD i (.Pass ⟨0, 0, 0, 0⟩)
abbrev st_lowest : Stmt := topS 7
theorem sc_lowest : FnScope ["p", "q", "d", "s", "common"] ["p", "q", "d", "s"] (defScope st_lowest) := ⟨rfl, rfl, rfl, by decide +kernel, rfl, by decide +kernel, by decide +kernel⟩
abbrev st_floor : Stmt := topS 8
theorem sc_floor : FnScope ["one", "p", "q", "d", "s", "root"] ["one"] (defScope st_floor) := ⟨rfl, rfl, rfl, by decide +kernel, rfl, by decide +kernel, by decide +kernel⟩
abbrev st_plus : Stmt := topS 9
theorem sc_plus : FnScope ["first", "second", "d", "p", "q", "_", "s", "other_p", "other_q", "other_s"] ["first", "second"] (defScope st_plus) := ⟨rfl, rfl, rfl, by decide +kernel, rfl, by decide +kernel, by decide +kernel⟩
abbrev st_times : Stmt := topS 10
theorem sc_times : FnScope ["first", "second", "d", "p", "q", "_", "s", "other_p", "other_q", "other_s"] ["first", "second"] (defScope st_times) := ⟨rfl, rfl, rfl, by decide +kernel, rfl, by decide +kernel, by decide +kernel⟩
abbrev st_over : Stmt := topS 11
theorem sc_over : FnScope ["first", "second", "p", "q", "d", "s"] ["first", "second"] (defScope st_over) := ⟨rfl, rfl, rfl, by decide +kernel, rfl, by decide +kernel, by decide +kernel⟩
abbrev st_opposite : Stmt := topS 12
theorem sc_opposite : FnScope ["one", "p", "q", "d", "s"] ["one"] (defScope st_opposite) := ⟨rfl, rfl, rfl, by decide +kernel, rfl, by decide +kernel, by decide +kernel⟩
abbrev st_common_root : Stmt := topS 13
theorem sc_common_root : FnScope ["first", "second", "d", "other_d"] ["first", "second"] (defScope st_common_root) := ⟨rfl, rfl, rfl, by decide +kernel, rfl, by decide +kernel, by decide +kernel⟩
abbrev st_quotients : Stmt := topS 15
theorem sc_quotients : FnScope ["ratio", "count", "state", "floor_root", "found", "_", "quotient"] ["ratio", "count"] (defScope st_quotients) := ⟨rfl, rfl, rfl, by decide +kernel, rfl, by decide +kernel, by decide +kernel⟩
abbrev st_fraction_quotients : Stmt := topS 16
theorem sc_fraction_quotients : FnScope ["ratio", "count", "top", "bottom", "found"] ["ratio", "count"] (defScope st_fraction_quotients) := ⟨rfl, rfl, rfl, by decide +kernel, rfl, by decide +kernel, by decide +kernel⟩
abbrev st_surd_of : Stmt := topS 17
theorem sc_surd_of : FnScope ["ratio", "p", "q", "d", "s", "n", "size"] ["ratio"] (defScope st_surd_of) := ⟨rfl, rfl, rfl, by decide +kernel, rfl, by decide +kernel, by decide +kernel⟩
abbrev st_surd_step : Stmt := topS 18
theorem sc_surd_step : FnScope ["state", "floor_root", "p", "s", "before", "quotient", "following"] ["state", "floor_root"] (defScope st_surd_step) := ⟨rfl, rfl, rfl, by decide +kernel, rfl, by decide +kernel, by decide +kernel⟩
abbrev st_whole : Stmt := topS 19
theorem sc_whole : FnScope ["n"] ["n"] (defScope st_whole) := ⟨rfl, rfl, rfl, by decide +kernel, rfl, by decide +kernel, by decide +kernel⟩
abbrev st_convergents : Stmt := topS 20
theorem sc_convergents : FnScope ["ratio", "count"] ["ratio", "count"] (defScope st_convergents) := ⟨rfl, rfl, rfl, by decide +kernel, rfl, by decide +kernel, by decide +kernel⟩
abbrev st_fractions_of : Stmt := topS 21
theorem sc_fractions_of : FnScope ["row", "found", "quotient", "before", "last"] ["row"] (defScope st_fractions_of) := ⟨rfl, rfl, rfl, by decide +kernel, rfl, by decide +kernel, by decide +kernel⟩
abbrev st_counts : Stmt := topS 24
theorem sc_counts : FnScope ["ratio", "count", "share", "done"] ["ratio", "count"] (defScope st_counts) := ⟨rfl, rfl, rfl, by decide +kernel, rfl, by decide +kernel, by decide +kernel⟩
abbrev st_act_at : Stmt := topS 25
theorem sc_act_at : FnScope ["ratio", "place"] ["ratio", "place"] (defScope st_act_at) := ⟨rfl, rfl, rfl, by decide +kernel, rfl, by decide +kernel, by decide +kernel⟩
abbrev st_acts : Stmt := topS 26
theorem sc_acts : FnScope ["ratio", "count", "letters", "index"] ["ratio", "count"] (defScope st_acts) := ⟨rfl, rfl, rfl, by decide +kernel, rfl, by decide +kernel, by decide +kernel⟩
abbrev st_place_of : Stmt := topS 27
theorem sc_place_of : FnScope ["ratio", "worker", "index"] ["ratio", "worker", "index"] (defScope st_place_of) := ⟨rfl, rfl, rfl, by decide +kernel, rfl, by decide +kernel, by decide +kernel⟩
abbrev st_ceiling : Stmt := topS 28
theorem sc_ceiling : FnScope ["one"] ["one"] (defScope st_ceiling) := ⟨rfl, rfl, rfl, by decide +kernel, rfl, by decide +kernel, by decide +kernel⟩
abbrev st_lengths : Stmt := topS 29
theorem sc_lengths : FnScope ["ratio", "count", "before", "found", "quotient", "last"] ["ratio", "count"] (defScope st_lengths) := ⟨rfl, rfl, rfl, by decide +kernel, rfl, by decide +kernel, by decide +kernel⟩
abbrev st_standard : Stmt := topS 30
theorem sc_standard : FnScope ["ratio", "level", "before", "word", "quotient"] ["ratio", "level"] (defScope st_standard) := ⟨rfl, rfl, rfl, by decide +kernel, rfl, by decide +kernel, by decide +kernel⟩
abbrev st_digits : Stmt := topS 31
theorem sc_digits : FnScope ["ratio", "count", "row", "found", "rest", "length", "digit"] ["ratio", "count"] (defScope st_digits) := ⟨rfl, rfl, rfl, by decide +kernel, rfl, by decide +kernel, by decide +kernel⟩
abbrev st_law_stirred : Stmt := topS 33
theorem sc_law_stirred : FnScope ["cell", "place", "modulus", "value", "turn"] ["cell", "place"] (defScope st_law_stirred) := ⟨rfl, rfl, rfl, by decide +kernel, rfl, by decide +kernel, by decide +kernel⟩
abbrev st_law_spool_of : Stmt := topS 34
theorem sc_law_spool_of : FnScope ["script", "cell", "numbers", "place"] ["script"] (defScope st_law_spool_of) := ⟨rfl, rfl, rfl, by decide +kernel, rfl, by decide +kernel, by decide +kernel⟩
abbrev st_law_upto : Stmt := topS 35
theorem sc_law_upto : FnScope ["spool", "bound", "numbers", "place", "cell", "found"] ["spool", "bound"] (defScope st_law_upto) := ⟨rfl, rfl, rfl, by decide +kernel, rfl, by decide +kernel, by decide +kernel⟩
abbrev st_law_choice : Stmt := topS 36
theorem sc_law_choice : FnScope ["spool", "items"] ["spool", "items"] (defScope st_law_choice) := ⟨rfl, rfl, rfl, by decide +kernel, rfl, by decide +kernel, by decide +kernel⟩
abbrev st_law_common : Stmt := topS 37
theorem sc_law_common : FnScope ["one", "other"] ["one", "other"] (defScope st_law_common) := ⟨rfl, rfl, rfl, by decide +kernel, rfl, by decide +kernel, by decide +kernel⟩
abbrev st_law_square_root : Stmt := topS 38
theorem sc_law_square_root : FnScope ["value", "guess", "factor", "better"] ["value"] (defScope st_law_square_root) := ⟨rfl, rfl, rfl, by decide +kernel, rfl, by decide +kernel, by decide +kernel⟩
abbrev st_law_lowest : Stmt := topS 39
theorem sc_law_lowest : FnScope ["p", "q", "d", "s", "divisor"] ["p", "q", "d", "s"] (defScope st_law_lowest) := ⟨rfl, rfl, rfl, by decide +kernel, rfl, by decide +kernel, by decide +kernel⟩
abbrev st_law_add : Stmt := topS 40
theorem sc_law_add : FnScope ["one", "other", "p", "q"] ["one", "other"] (defScope st_law_add) := ⟨rfl, rfl, rfl, by decide +kernel, rfl, by decide +kernel, by decide +kernel⟩
abbrev st_law_negative : Stmt := topS 41
theorem sc_law_negative : FnScope ["one"] ["one"] (defScope st_law_negative) := ⟨rfl, rfl, rfl, by decide +kernel, rfl, by decide +kernel, by decide +kernel⟩
abbrev st_law_multiply : Stmt := topS 42
theorem sc_law_multiply : FnScope ["one", "other", "d", "p"] ["one", "other"] (defScope st_law_multiply) := ⟨rfl, rfl, rfl, by decide +kernel, rfl, by decide +kernel, by decide +kernel⟩
abbrev st_law_inverse : Stmt := topS 43
theorem sc_law_inverse : FnScope ["one", "p", "q", "d", "s"] ["one"] (defScope st_law_inverse) := ⟨rfl, rfl, rfl, by decide +kernel, rfl, by decide +kernel, by decide +kernel⟩
abbrev st_law_scaled : Stmt := topS 44
theorem sc_law_scaled : FnScope ["one", "places", "p", "q", "d", "s", "ten", "turn", "part"] ["one", "places"] (defScope st_law_scaled) := ⟨rfl, rfl, rfl, by decide +kernel, rfl, by decide +kernel, by decide +kernel⟩
abbrev st_law_sign_of : Stmt := topS 45
theorem sc_law_sign_of : FnScope ["one", "places", "value"] ["one"] (defScope st_law_sign_of) := ⟨rfl, rfl, rfl, by decide +kernel, rfl, by decide +kernel, by decide +kernel⟩
abbrev st_law_whole_part : Stmt := topS 46
theorem sc_law_whole_part : FnScope ["one", "found"] ["one"] (defScope st_law_whole_part) := ⟨rfl, rfl, rfl, by decide +kernel, rfl, by decide +kernel, by decide +kernel⟩
abbrev st_law_drawn : Stmt := topS 47
theorem sc_law_drawn : FnScope ["spool", "d", "size", "p", "q", "s"] ["spool", "d", "size"] (defScope st_law_drawn) := ⟨rfl, rfl, rfl, by decide +kernel, rfl, by decide +kernel, by decide +kernel⟩
abbrev st_law_drawn_ratio : Stmt := topS 48
theorem sc_law_drawn_ratio : FnScope ["spool", "d", "found"] ["spool"] (defScope st_law_drawn_ratio) := ⟨rfl, rfl, rfl, by decide +kernel, rfl, by decide +kernel, by decide +kernel⟩
abbrev st_law_rooted_ratio : Stmt := topS 49
theorem sc_law_rooted_ratio : FnScope ["spool", "found", "some"] ["spool"] (defScope st_law_rooted_ratio) := ⟨rfl, rfl, rfl, by decide +kernel, rfl, by decide +kernel, by decide +kernel⟩
abbrev st_law_exchanged : Stmt := topS 50
theorem sc_law_exchanged : FnScope ["word", "letter"] ["word"] (defScope st_law_exchanged) := ⟨rfl, rfl, rfl, by decide +kernel, rfl, by decide +kernel, by decide +kernel⟩
abbrev st_law_rooted_right : Stmt := topS 51
theorem sc_law_rooted_right : FnScope ["spool", "ratio", "other", "count", "some", "sizes", "pairs", "level", "top", "bottom", "size", "digit"] ["spool", "ratio"] (defScope st_law_rooted_right) := ⟨rfl, rfl, rfl, by decide +kernel, rfl, by decide +kernel, by decide +kernel⟩
abbrev st_law : Stmt := topS 52
theorem sc_law : FnScope ["script", "spool", "turn", "ratio", "word", "some", "place", "size", "index", "kind", "worker", "far"] ["script"] (defScope st_law) := ⟨rfl, rfl, rfl, by decide +kernel, rfl, by decide +kernel, by decide +kernel⟩
section
variable {P : Program} {w : World} {K : PySem.W.Frag} {mg : Str → Option Value} {base : Heap} {f : Addr} {fd : FuncData}
theorem ok0_lowest (F : FunD K "lowest" "lowest" (defArgs st_lowest) (defBody st_lowest) (defScope st_lowest) [] [] f fd) (m_gcd : mg "gcd" = some (.builtin "math.gcd")) : FnG P w K mg base CX0 1 f fd ["p", "q", "d", "s"] (spP K (bodyP 4 5 b_lowest)) :=
  fn_pure (k := 0) F sc_lowest fun C cdv A outer s H E hsp hr =>
    fs_cons (fs_set 4 (fe_gcd m_gcd (fa_cons (fv 0) (fa_cons (fv 1) (fa_cons (fv 3) (fa_nil))))) sc_lowest.nd)
    (fs_cons (fs_if (ft_lt (fv 3) (fe_int)) (fs_one (fs_set 4 (fe_neg (fv 4)) sc_lowest.nd)) (fs_nil))
    (fs_cons (fs_if (ft_eq hr.units (fv 1) (fe_int)) (fs_one (fs_ret (fe_tup (fa_cons (fe_fdiv (fv 0) (fv 4)) (fa_cons (fe_int) (fa_cons (fe_int) (fa_cons (fe_fdiv (fv 3) (fv 4)) (fa_nil)))))))) (fs_nil))
    (fs_one (fs_ret (fe_tup (fa_cons (fe_fdiv (fv 0) (fv 4)) (fa_cons (fe_fdiv (fv 1) (fv 4)) (fa_cons (fv 2) (fa_cons (fe_fdiv (fv 3) (fv 4)) (fa_nil))))))))))
theorem ok0_floor (F : FunD K "floor" "floor" (defArgs st_floor) (defBody st_floor) (defScope st_floor) [] [] f fd) (m_isqrt : mg "isqrt" = some (.builtin "math.isqrt")) : FnG P w K mg base CX0 1 f fd ["one"] (spP K (bodyP 1 6 b_floor)) :=
  fn_pure (k := 0) F sc_floor fun C cdv A outer s H E hsp hr =>
    fs_cons (fs_asg (fv 0) (fg_tup rfl (fgs_cons (fg_name 1 sc_floor.nd) (fgs_cons (fg_name 2 sc_floor.nd) (fgs_cons (fg_name 3 sc_floor.nd) (fgs_cons (fg_name 4 sc_floor.nd) (fgs_nil)))))))
    (fs_cons (fs_set 5 (fe_isqrt m_isqrt (fa_cons (fe_mul (fe_mul (fv 2) (fv 2)) (fv 3)) (fa_nil))) sc_floor.nd)
    (fs_cons (fs_if (ft_lt (fv 2) (fe_int)) (fs_one (fs_ret (fe_fdiv (fe_sub (fe_sub (fv 1) (fv 5)) (fe_int)) (fv 4)))) (fs_nil))
    (fs_one (fs_ret (fe_fdiv (fe_add (fv 1) (fv 5)) (fv 4))))))
theorem ok0_plus (F : FunD K "plus" "plus" (defArgs st_plus) (defBody st_plus) (defScope st_plus) [] [] f fd) (D_lowest : DefOk P w K mg base 1 "lowest" ["p", "q", "d", "s"] (spP K m_lowest)) (D_common_root : DefOk P w K mg base 1 "common_root" ["first", "second"] (spP K m_common_root)) : FnG P w K mg base CX0 2 f fd ["first", "second"] (spP K (bodyP 2 10 b_plus)) :=
  fn_pure (k := 1) F sc_plus fun C cdv A outer s H E hsp hr =>
    fs_cons (fs_set 2 (fe_def D_common_root hr (by decide) (fa_cons (fv 0) (fa_cons (fv 1) (fa_nil)))) sc_plus.nd)
    (fs_cons (fs_asg (fv 0) (fg_tup rfl (fgs_cons (fg_name 3 sc_plus.nd) (fgs_cons (fg_name 4 sc_plus.nd) (fgs_cons (fg_name 5 sc_plus.nd) (fgs_cons (fg_name 6 sc_plus.nd) (fgs_nil)))))))
    (fs_cons (fs_asg (fv 1) (fg_tup rfl (fgs_cons (fg_name 7 sc_plus.nd) (fgs_cons (fg_name 8 sc_plus.nd) (fgs_cons (fg_name 5 sc_plus.nd) (fgs_cons (fg_name 9 sc_plus.nd) (fgs_nil)))))))
    (fs_one (fs_ret (fe_def D_lowest hr (by decide) (fa_cons (fe_add (fe_mul (fv 3) (fv 9)) (fe_mul (fv 7) (fv 6))) (fa_cons (fe_add (fe_mul (fv 4) (fv 9)) (fe_mul (fv 8) (fv 6))) (fa_cons (fv 2) (fa_cons (fe_mul (fv 6) (fv 9)) (fa_nil))))))))))
theorem ok0_times (F : FunD K "times" "times" (defArgs st_times) (defBody st_times) (defScope st_times) [] [] f fd) (D_lowest : DefOk P w K mg base 1 "lowest" ["p", "q", "d", "s"] (spP K m_lowest)) (D_common_root : DefOk P w K mg base 1 "common_root" ["first", "second"] (spP K m_common_root)) : FnG P w K mg base CX0 2 f fd ["first", "second"] (spP K (bodyP 2 10 b_times)) :=
  fn_pure (k := 1) F sc_times fun C cdv A outer s H E hsp hr =>
    fs_cons (fs_set 2 (fe_def D_common_root hr (by decide) (fa_cons (fv 0) (fa_cons (fv 1) (fa_nil)))) sc_times.nd)
    (fs_cons (fs_asg (fv 0) (fg_tup rfl (fgs_cons (fg_name 3 sc_times.nd) (fgs_cons (fg_name 4 sc_times.nd) (fgs_cons (fg_name 5 sc_times.nd) (fgs_cons (fg_name 6 sc_times.nd) (fgs_nil)))))))
    (fs_cons (fs_asg (fv 1) (fg_tup rfl (fgs_cons (fg_name 7 sc_times.nd) (fgs_cons (fg_name 8 sc_times.nd) (fgs_cons (fg_name 5 sc_times.nd) (fgs_cons (fg_name 9 sc_times.nd) (fgs_nil)))))))
    (fs_one (fs_ret (fe_def D_lowest hr (by decide) (fa_cons (fe_add (fe_mul (fv 3) (fv 7)) (fe_mul (fe_mul (fv 4) (fv 8)) (fv 2))) (fa_cons (fe_add (fe_mul (fv 3) (fv 8)) (fe_mul (fv 4) (fv 7))) (fa_cons (fv 2) (fa_cons (fe_mul (fv 6) (fv 9)) (fa_nil))))))))))
theorem ok0_over (F : FunD K "over" "over" (defArgs st_over) (defBody st_over) (defScope st_over) [] [] f fd) (D_times : DefOk P w K mg base 2 "times" ["first", "second"] (spP K m_times)) (D_lowest : DefOk P w K mg base 1 "lowest" ["p", "q", "d", "s"] (spP K m_lowest)) : FnG P w K mg base CX0 3 f fd ["first", "second"] (spP K (bodyP 2 6 b_over)) :=
  fn_pure (k := 2) F sc_over fun C cdv A outer s H E hsp hr =>
    fs_cons (fs_asg (fv 1) (fg_tup rfl (fgs_cons (fg_name 2 sc_over.nd) (fgs_cons (fg_name 3 sc_over.nd) (fgs_cons (fg_name 4 sc_over.nd) (fgs_cons (fg_name 5 sc_over.nd) (fgs_nil)))))))
    (fs_cons (fs_if ((fw_and (ft_eq hr.units (fv 2) (fe_int)) (fw_and1 (ft_eq hr.units (fv 3) (fe_int)))).ft) (fs_one (fs_never)) (fs_nil))
    (fs_one (fs_ret (fe_def D_times hr (by decide) (fa_cons (fv 0) (fa_cons (fe_def D_lowest hr (by decide) (fa_cons (fe_mul (fv 2) (fv 5)) (fa_cons (fe_mul (fe_neg (fv 3)) (fv 5)) (fa_cons (fv 4) (fa_cons (fe_sub (fe_mul (fv 2) (fv 2)) (fe_mul (fe_mul (fv 3) (fv 3)) (fv 4))) (fa_nil)))))) (fa_nil)))))))
theorem ok0_opposite (F : FunD K "opposite" "opposite" (defArgs st_opposite) (defBody st_opposite) (defScope st_opposite) [] [] f fd)  : FnG P w K mg base CX0 1 f fd ["one"] (spP K (bodyP 1 5 b_opposite)) :=
  fn_pure (k := 0) F sc_opposite fun C cdv A outer s H E hsp hr =>
    fs_cons (fs_asg (fv 0) (fg_tup rfl (fgs_cons (fg_name 1 sc_opposite.nd) (fgs_cons (fg_name 2 sc_opposite.nd) (fgs_cons (fg_name 3 sc_opposite.nd) (fgs_cons (fg_name 4 sc_opposite.nd) (fgs_nil)))))))
    (fs_one (fs_ret (fe_tup (fa_cons (fe_neg (fv 1)) (fa_cons (fe_neg (fv 2)) (fa_cons (fv 3) (fa_cons (fv 4) (fa_nil))))))))
theorem ok0_common_root (F : FunD K "common_root" "common_root" (defArgs st_common_root) (defBody st_common_root) (defScope st_common_root) [] [] f fd) (m_max : mg "max" = none) : FnG P w K mg base CX0 1 f fd ["first", "second"] (spP K (bodyP 2 4 b_common_root)) :=
  fn_pure (k := 0) F sc_common_root fun C cdv A outer s H E hsp hr =>
    fs_cons (fs_set 2 (fe_ixn 0 (fe_int)) sc_common_root.nd)
    (fs_cons (fs_set 3 (fe_ixn 1 (fe_int)) sc_common_root.nd)
    (fs_cons (fs_if ((fw_and (ft_ne hr.units (fv 2) (fv 3)) (fw_and (ft_ne hr.units (fv 2) (fe_int)) (fw_and1 (ft_ne hr.units (fv 3) (fe_int))))).ft) (fs_one (fs_never)) (fs_nil))
    (fs_one (fs_ret (fe_max rfl m_max (fa_cons (fv 2) (fa_cons (fv 3) (fa_nil))))))))
theorem ok0_quotients (F : FunD K "quotients" "quotients" (defArgs st_quotients) (defBody st_quotients) (defScope st_quotients) [] [] f fd) (D_surd_step : DefOk P w K mg base 1 "surd_step" ["state", "floor_root"] (spP K m_surd_step)) (D_surd_of : DefOk P w K mg base 1 "surd_of" ["ratio"] (spP K m_surd_of)) (D_fraction_quotients : DefOk P w K mg base 1 "fraction_quotients" ["ratio", "count"] (spP K m_fraction_quotients)) (m_range : mg "range" = none) : FnG P w K mg base CX0 2 f fd ["ratio", "count"] (spP K (bodyP 2 7 b_quotients)) :=
  fn_pure (k := 1) F sc_quotients fun C cdv A outer s H E hsp hr =>
    fs_cons (fs_if (ft_eq hr.units (fe_ixn 0 (fe_int)) (fe_int)) (fs_one (fs_ret (fe_def D_fraction_quotients hr (by decide) (fa_cons (fv 0) (fa_cons (fv 1) (fa_nil)))))) (fs_nil))
    (fs_cons (fs_asg (fe_def D_surd_of hr (by decide) (fa_cons (fv 0) (fa_nil))) (fg_tup rfl (fgs_cons (fg_name 2 sc_quotients.nd) (fgs_cons (fg_name 3 sc_quotients.nd) (fgs_nil)))))
    (fs_cons (fs_own 4 (fl_lst (fa_nil)) sc_quotients.nd)
    (fs_cons (fs_for PassesOwn.never rfl (fi_range1 m_range (fa_cons (fv 1) (fa_nil))) (fg_name 5 sc_quotients.nd) (fs_cons (fs_asg (fe_def D_surd_step hr (by decide) (fa_cons (fv 2) (fa_cons (fv 3) (fa_nil)))) (fg_tup rfl (fgs_cons (fg_name 6 sc_quotients.nd) (fgs_cons (fg_name 2 sc_quotients.nd) (fgs_nil)))))
    (fs_one (fs_app 4 (fv 6)))))
    (fs_one (fs_ret (fv 4))))))
theorem ok0_fraction_quotients (F : FunD K "fraction_quotients" "fraction_quotients" (defArgs st_fraction_quotients) (defBody st_fraction_quotients) (defScope st_fraction_quotients) [] [] f fd) (m_len : mg "len" = none) : FnG P w K mg base CX0 1 f fd ["ratio", "count"] (spP K (bodyP 2 5 b_fraction_quotients)) :=
  fn_pure (k := 0) F sc_fraction_quotients fun C cdv A outer s H E hsp hr =>
    fs_cons (fs_set 2 (fe_ixn 0 (fe_int)) sc_fraction_quotients.nd)
    (fs_cons (fs_set 3 (fe_ixn 0 (fe_int)) sc_fraction_quotients.nd)
    (fs_cons (fs_own 4 (fl_lst (fa_nil)) sc_fraction_quotients.nd)
    (fs_cons (fs_while (fun _ => 0) PassesOwn.never ((fw_and (ft_ne hr.units (fv 3) (fe_int)) (fw_and1 (ft_lt (fe_lenN 4 m_len) (fv 1)))).ft) (fs_cons (fs_app 4 (fe_fdiv (fv 2) (fv 3)))
    (fs_one (fs_par 2 3 (fa_cons (fv 3) (fa_cons (fe_mod (fv 2) (fv 3)) (fa_nil))) rfl sc_fraction_quotients.nd))))
    (fs_one (fs_ret (fv 4))))))
theorem ok0_surd_of (F : FunD K "surd_of" "surd_of" (defArgs st_surd_of) (defBody st_surd_of) (defScope st_surd_of) [] [] f fd) (m_abs : mg "abs" = none) (m_isqrt : mg "isqrt" = some (.builtin "math.isqrt")) : FnG P w K mg base CX0 1 f fd ["ratio"] (spP K (bodyP 1 7 b_surd_of)) :=
  fn_pure (k := 0) F sc_surd_of fun C cdv A outer s H E hsp hr =>
    fs_cons (fs_asg (fv 0) (fg_tup rfl (fgs_cons (fg_name 1 sc_surd_of.nd) (fgs_cons (fg_name 2 sc_surd_of.nd) (fgs_cons (fg_name 3 sc_surd_of.nd) (fgs_cons (fg_name 4 sc_surd_of.nd) (fgs_nil)))))))
    (fs_cons (fs_if (ft_lt (fv 2) (fe_int)) (fs_one (fs_par 1 4 (fa_cons (fe_neg (fv 1)) (fa_cons (fe_neg (fv 4)) (fa_nil))) rfl sc_surd_of.nd)) (fs_nil))
    (fs_cons (fs_set 5 (fe_mul (fe_mul (fv 2) (fv 2)) (fv 3)) sc_surd_of.nd)
    (fs_cons (fs_if (ft_ne hr.units (fe_mod (fe_sub (fv 5) (fe_mul (fv 1) (fv 1))) (fv 4)) (fe_int)) (fs_cons (fs_set 6 (fe_abs m_abs (fa_cons (fv 4) (fa_nil))) sc_surd_of.nd)
    (fs_one (fs_par3 1 4 5 (fa_cons (fe_mul (fv 1) (fv 6)) (fa_cons (fe_mul (fv 4) (fv 6)) (fa_cons (fe_mul (fe_mul (fv 5) (fv 6)) (fv 6)) (fa_nil)))) rfl sc_surd_of.nd))) (fs_nil))
    (fs_one (fs_ret (fe_tup (fa_cons (fe_tup (fa_cons (fv 1) (fa_cons (fv 4) (fa_cons (fe_fdiv (fe_sub (fv 5) (fe_mul (fv 1) (fv 1))) (fv 4)) (fa_nil))))) (fa_cons (fe_isqrt m_isqrt (fa_cons (fv 5) (fa_nil))) (fa_nil)))))))))
theorem ok0_surd_step (F : FunD K "surd_step" "surd_step" (defArgs st_surd_step) (defBody st_surd_step) (defScope st_surd_step) [] [] f fd)  : FnG P w K mg base CX0 1 f fd ["state", "floor_root"] (spP K (bodyP 2 7 b_surd_step)) :=
  fn_pure (k := 0) F sc_surd_step fun C cdv A outer s H E hsp hr =>
    fs_cons (fs_asg (fv 0) (fg_tup rfl (fgs_cons (fg_name 2 sc_surd_step.nd) (fgs_cons (fg_name 3 sc_surd_step.nd) (fgs_cons (fg_name 4 sc_surd_step.nd) (fgs_nil))))))
    (fs_cons (fs_set 5 (fe_if (ft_gt (fv 3) (fe_int)) (fe_fdiv (fe_add (fv 2) (fv 1)) (fv 3)) (fe_fdiv (fe_add (fe_add (fv 2) (fv 1)) (fe_int)) (fv 3))) sc_surd_step.nd)
    (fs_cons (fs_set 6 (fe_sub (fe_mul (fv 5) (fv 3)) (fv 2)) sc_surd_step.nd)
    (fs_one (fs_ret (fe_tup (fa_cons (fv 5) (fa_cons (fe_tup (fa_cons (fv 6) (fa_cons (fe_add (fv 4) (fe_mul (fv 5) (fe_sub (fv 2) (fv 6)))) (fa_cons (fv 3) (fa_nil))))) (fa_nil))))))))
theorem ok0_whole (F : FunD K "whole" "whole" (defArgs st_whole) (defBody st_whole) (defScope st_whole) [] [] f fd)  : FnG P w K mg base CX0 1 f fd ["n"] (spP K (bodyP 1 1 b_whole)) :=
  fn_pure (k := 0) F sc_whole fun C cdv A outer s H E hsp hr =>
    fs_one (fs_ret (fe_tup (fa_cons (fv 0) (fa_cons (fe_int) (fa_cons (fe_int) (fa_cons (fe_int) (fa_nil)))))))
theorem ok0_convergents (F : FunD K "convergents" "convergents" (defArgs st_convergents) (defBody st_convergents) (defScope st_convergents) [] [] f fd) (D_fractions_of : DefOk P w K mg base 1 "fractions_of" ["row"] (spP K m_fractions_of)) (D_quotients : DefOk P w K mg base 2 "quotients" ["ratio", "count"] (spP K m_quotients)) : FnG P w K mg base CX0 3 f fd ["ratio", "count"] (spP K (bodyP 2 2 b_convergents)) :=
  fn_pure (k := 2) F sc_convergents fun C cdv A outer s H E hsp hr =>
    fs_one (fs_ret (fe_sl (fe_def D_fractions_of hr (by decide) (fa_cons (fe_def D_quotients hr (by decide) (fa_cons (fv 0) (fa_cons (fv 1) (fa_nil)))) (fa_nil))) (fo_some (fe_int)) (fo_none)))
theorem ok0_fractions_of (F : FunD K "fractions_of" "fractions_of" (defArgs st_fractions_of) (defBody st_fractions_of) (defScope st_fractions_of) [] [] f fd)  : FnG P w K mg base CX0 1 f fd ["row"] (spP K (bodyP 1 5 b_fractions_of)) :=
  fn_pure (k := 0) F sc_fractions_of fun C cdv A outer s H E hsp hr =>
    fs_cons (fs_own 1 (fl_lst (fa_cons (fe_tup (fa_cons (fe_int) (fa_cons (fe_int) (fa_nil)))) (fa_cons (fe_tup (fa_cons (fe_int) (fa_cons (fe_int) (fa_nil)))) (fa_nil)))) sc_fractions_of.nd)
    (fs_cons (fs_for PassesOwn.never rfl (fi_list (fv 0)) (fg_name 2 sc_fractions_of.nd) (fs_cons (fs_asg (fe_sln 1 (fo_some (fe_neg (fe_int))) (fo_none)) (fg_lst rfl (fgs_cons (fg_name 3 sc_fractions_of.nd) (fgs_cons (fg_name 4 sc_fractions_of.nd) (fgs_nil)))))
    (fs_one (fs_app 1 (fe_tup (fa_cons (fe_add (fe_mul (fv 2) (fe_ixn 4 (fe_int))) (fe_ixn 3 (fe_int))) (fa_cons (fe_add (fe_mul (fv 2) (fe_ixn 4 (fe_int))) (fe_ixn 3 (fe_int))) (fa_nil))))))))
    (fs_one (fs_ret (fv 1))))
theorem ok0_counts (F : FunD K "counts" "counts" (defArgs st_counts) (defBody st_counts) (defScope st_counts) [] [] f fd) (D_ceiling : DefOk P w K mg base 2 "ceiling" ["one"] (spP K m_ceiling)) (D_over : DefOk P w K mg base 3 "over" ["first", "second"] (spP K m_over)) (D_plus : DefOk P w K mg base 2 "plus" ["first", "second"] (spP K m_plus)) (D_whole : DefOk P w K mg base 1 "whole" ["n"] (spP K m_whole)) : FnG P w K mg base CX0 4 f fd ["ratio", "count"] (spP K (bodyP 2 4 b_counts)) :=
  fn_pure (k := 3) F sc_counts fun C cdv A outer s H E hsp hr =>
    fs_cons (fs_set 2 (fe_def D_over hr (by decide) (fa_cons (fe_def D_whole hr (by decide) (fa_cons (fe_add (fv 1) (fe_int)) (fa_nil))) (fa_cons (fe_def D_plus hr (by decide) (fa_cons (fv 0) (fa_cons (fe_def D_whole hr (by decide) (fa_cons (fe_int) (fa_nil))) (fa_nil)))) (fa_nil)))) sc_counts.nd)
    (fs_cons (fs_set 3 (fe_sub (fe_def D_ceiling hr (by decide) (fa_cons (fv 2) (fa_nil))) (fe_int)) sc_counts.nd)
    (fs_one (fs_ret (fe_tup (fa_cons (fe_sub (fv 1) (fv 3)) (fa_cons (fv 3) (fa_nil)))))))
theorem ok0_act_at (F : FunD K "act_at" "act_at" (defArgs st_act_at) (defBody st_act_at) (defScope st_act_at) [] [] f fd) (D_counts : DefOk P w K mg base 4 "counts" ["ratio", "count"] (spP K m_counts)) : FnG P w K mg base CX0 5 f fd ["ratio", "place"] (spP K (bodyP 2 2 b_act_at)) :=
  fn_pure (k := 4) F sc_act_at fun C cdv A outer s H E hsp hr =>
    fs_cons (fs_if (ft_gt (fe_ix (fe_def D_counts hr (by decide) (fa_cons (fv 0) (fa_cons (fv 1) (fa_nil)))) (fe_int)) (fe_ix (fe_def D_counts hr (by decide) (fa_cons (fv 0) (fa_cons (fe_sub (fv 1) (fe_int)) (fa_nil)))) (fe_int))) (fs_one (fs_ret (fe_str))) (fs_nil))
    (fs_one (fs_ret (fe_str)))
theorem ok0_acts (F : FunD K "acts" "acts" (defArgs st_acts) (defBody st_acts) (defScope st_acts) [] [] f fd) (D_counts : DefOk P w K mg base 4 "counts" ["ratio", "count"] (spP K m_counts)) (D_place_of : DefOk P w K mg base 4 "place_of" ["ratio", "worker", "index"] (spP K m_place_of)) (m_range : mg "range" = none) : FnG P w K mg base CX0 5 f fd ["ratio", "count"] (spP K (bodyP 2 4 b_acts)) :=
  fn_pure (k := 4) F sc_acts fun C cdv A outer s H E hsp hr =>
    fs_cons (fs_own 2 (fl_rep (fe_lst (fa_cons (fe_str) (fa_nil))) (fv 1)) sc_acts.nd)
    (fs_cons (fs_for PassesOwn.never rfl (fi_range2 m_range (fa_cons (fe_int) (fa_cons (fe_add (fe_ix (fe_def D_counts hr (by decide) (fa_cons (fv 0) (fa_cons (fv 1) (fa_nil)))) (fe_int)) (fe_int)) (fa_nil)))) (fg_name 3 sc_acts.nd) (fs_one (fs_put 2 (fe_str) (fe_sub (fe_def D_place_of hr (by decide) (fa_cons (fv 0) (fa_cons (fe_str) (fa_cons (fv 3) (fa_nil))))) (fe_int)))))
    (fs_one (fs_ret (fe_join (fe_str) (fv 2)))))
theorem ok0_place_of (F : FunD K "place_of" "place_of" (defArgs st_place_of) (defBody st_place_of) (defScope st_place_of) [] [] f fd) (D_ceiling : DefOk P w K mg base 2 "ceiling" ["one"] (spP K m_ceiling)) (D_over : DefOk P w K mg base 3 "over" ["first", "second"] (spP K m_over)) (D_whole : DefOk P w K mg base 1 "whole" ["n"] (spP K m_whole)) (D_floor : DefOk P w K mg base 1 "floor" ["one"] (spP K m_floor)) (D_times : DefOk P w K mg base 2 "times" ["first", "second"] (spP K m_times)) : FnG P w K mg base CX0 4 f fd ["ratio", "worker", "index"] (spP K (bodyP 3 3 b_place_of)) :=
  fn_pure (k := 3) F sc_place_of fun C cdv A outer s H E hsp hr =>
    fs_cons (fs_if (ft_eq hr.units (fv 1) (fe_str)) (fs_one (fs_ret (fe_add (fv 2) (fe_def D_floor hr (by decide) (fa_cons (fe_def D_times hr (by decide) (fa_cons (fe_def D_whole hr (by decide) (fa_cons (fv 2) (fa_nil))) (fa_cons (fv 0) (fa_nil)))) (fa_nil)))))) (fs_nil))
    (fs_one (fs_ret (fe_sub (fe_add (fv 2) (fe_def D_ceiling hr (by decide) (fa_cons (fe_def D_over hr (by decide) (fa_cons (fe_def D_whole hr (by decide) (fa_cons (fv 2) (fa_nil))) (fa_cons (fv 0) (fa_nil)))) (fa_nil)))) (fe_int))))
theorem ok0_ceiling (F : FunD K "ceiling" "ceiling" (defArgs st_ceiling) (defBody st_ceiling) (defScope st_ceiling) [] [] f fd) (D_floor : DefOk P w K mg base 1 "floor" ["one"] (spP K m_floor)) (D_opposite : DefOk P w K mg base 1 "opposite" ["one"] (spP K m_opposite)) : FnG P w K mg base CX0 2 f fd ["one"] (spP K (bodyP 1 1 b_ceiling)) :=
  fn_pure (k := 1) F sc_ceiling fun C cdv A outer s H E hsp hr =>
    fs_one (fs_ret (fe_neg (fe_def D_floor hr (by decide) (fa_cons (fe_def D_opposite hr (by decide) (fa_cons (fv 0) (fa_nil))) (fa_nil)))))
theorem ok0_lengths (F : FunD K "lengths" "lengths" (defArgs st_lengths) (defBody st_lengths) (defScope st_lengths) [] [] f fd) (D_quotients : DefOk P w K mg base 2 "quotients" ["ratio", "count"] (spP K m_quotients)) : FnG P w K mg base CX0 3 f fd ["ratio", "count"] (spP K (bodyP 2 6 b_lengths)) :=
  fn_pure (k := 2) F sc_lengths fun C cdv A outer s H E hsp hr =>
    fs_cons (fs_set 2 (fe_int) sc_lengths.nd)
    (fs_cons (fs_own 3 (fl_lst (fa_cons (fe_int) (fa_nil))) sc_lengths.nd)
    (fs_cons (fs_for PassesOwn.never rfl (fi_list (fe_def D_quotients hr (by decide) (fa_cons (fv 0) (fa_cons (fv 1) (fa_nil))))) (fg_name 4 sc_lengths.nd) (fs_cons (fs_set 5 (fe_ixn 3 (fe_neg (fe_int))) sc_lengths.nd)
    (fs_cons (fs_app 3 (fe_add (fe_mul (fv 4) (fv 5)) (fv 2)))
    (fs_one (fs_set 2 (fv 5) sc_lengths.nd)))))
    (fs_one (fs_ret (fv 3)))))
theorem ok0_standard (F : FunD K "standard" "standard" (defArgs st_standard) (defBody st_standard) (defScope st_standard) [] [] f fd) (D_quotients : DefOk P w K mg base 2 "quotients" ["ratio", "count"] (spP K m_quotients)) (D_lengths : DefOk P w K mg base 3 "lengths" ["ratio", "count"] (spP K m_lengths)) {t_LONGEST : Tok} (g_LONGEST : mg "LONGEST" = some (.int 2000 t_LONGEST)) : FnG P w K mg base CX0 4 f fd ["ratio", "level"] (spP K (bodyP 2 5 b_standard)) :=
  fn_pure (k := 3) F sc_standard fun C cdv A outer s H E hsp hr =>
    fs_cons (fs_if (ft_gt (fe_ix (fe_def D_lengths hr (by decide) (fa_cons (fv 0) (fa_cons (fv 1) (fa_nil)))) (fv 1)) (fe_gint g_LONGEST)) (fs_one (fs_never)) (fs_nil))
    (fs_cons (fs_set 2 (fe_str) sc_standard.nd)
    (fs_cons (fs_set 3 (fe_str) sc_standard.nd)
    (fs_cons (fs_for PassesOwn.never rfl (fi_list (fe_def D_quotients hr (by decide) (fa_cons (fv 0) (fa_cons (fv 1) (fa_nil))))) (fg_name 4 sc_standard.nd) (fs_one (fs_par 2 3 (fa_cons (fv 3) (fa_cons (fe_add (fe_mulS (fv 3) (fv 4)) (fv 2)) (fa_nil))) rfl sc_standard.nd)))
    (fs_one (fs_ret (fv 3))))))
theorem ok0_digits (F : FunD K "digits" "digits" (defArgs st_digits) (defBody st_digits) (defScope st_digits) [] [] f fd) (D_lengths : DefOk P w K mg base 3 "lengths" ["ratio", "count"] (spP K m_lengths)) (m_tuple : mg "tuple" = none) (m_reversed : mg "reversed" = none) (m_len : mg "len" = none) (m_divmod : mg "divmod" = none) : FnG P w K mg base CX0 4 f fd ["ratio", "count"] (spP K (bodyP 2 7 b_digits)) :=
  fn_pure (k := 3) F sc_digits fun C cdv A outer s H E hsp hr =>
    fs_cons (fs_set 2 (fe_def D_lengths hr (by decide) (fa_cons (fv 0) (fa_cons (fe_mul (fe_int) (fe_bits (fv 1))) (fa_nil)))) sc_digits.nd)
    (fs_cons (fs_own 3 (fl_lst (fa_nil)) sc_digits.nd)
    (fs_cons (fs_set 4 (fv 1) sc_digits.nd)
    (fs_cons (fs_for PassesOwn.never rfl (fi_rev m_reversed (fv 2)) (fg_name 5 sc_digits.nd) (fs_cons (fs_asg (fe_divmod m_divmod (fa_cons (fv 4) (fa_cons (fv 5) (fa_nil)))) (fg_tup rfl (fgs_cons (fg_name 6 sc_digits.nd) (fgs_cons (fg_name 4 sc_digits.nd) (fgs_nil)))))
    (fs_one (fs_if ((fw_or (ft_gt (fv 6) (fe_int)) (fw_or1 (ft_gt (fe_lenN 3 m_len) (fe_int)))).ft) (fs_one (fs_app 3 (fv 6))) (fs_nil)))))
    (fs_cons (fs_revO 3)
    (fs_one (fs_ret (fe_tupleOf m_tuple (fv 3))))))))
theorem ok0_law_stirred (F : FunD K "_law_stirred" "_law_stirred" (defArgs st_law_stirred) (defBody st_law_stirred) (defScope st_law_stirred) [] [] f fd) (m_range : mg "range" = none) : FnG P w K mg base CX0 1 f fd ["cell", "place"] (spP K (bodyP 2 5 b_law_stirred)) :=
  fn_pure (k := 0) F sc_law_stirred fun C cdv A outer s H E hsp hr =>
    fs_cons (fs_set 2 (fe_int) sc_law_stirred.nd)
    (fs_cons (fs_set 3 (fe_mod (fe_add (fe_add (fe_mul (fv 0) (fe_int)) (fe_mul (fv 1) (fe_int))) (fe_int)) (fv 2)) sc_law_stirred.nd)
    (fs_cons (fs_for PassesOwn.never rfl (fi_range1 m_range (fa_cons (fe_int) (fa_nil))) (fg_name 4 sc_law_stirred.nd) (fs_one (fs_set 3 (fe_mod (fe_add (fe_add (fe_add (fe_mul (fv 3) (fv 3)) (fe_mul (fe_int) (fv 3))) (fe_mul (fe_int) (fv 4))) (fv 1)) (fv 2)) sc_law_stirred.nd)))
    (fs_one (fs_ret (fe_add (fe_mul (fv 3) (fv 2)) (fe_mod (fe_add (fe_mul (fv 3) (fe_int)) (fv 1)) (fv 2)))))))
theorem ok0_law_spool_of (F : FunD K "_law_spool_of" "_law_spool_of" (defArgs st_law_spool_of) (defBody st_law_spool_of) (defScope st_law_spool_of) [] [] f fd) (m_abs : mg "abs" = none) (m_enumerate : mg "enumerate" = none) : FnG P w K mg base CX0 1 f fd ["script"] (spN K (bodyN 1 4 b1_law_spool_of b2_law_spool_of b3_law_spool_of)) :=
  fn_new (k := 0) F sc_law_spool_of rfl fun C cdv A outer s H E hr =>
    ⟨fs_lco 2 1 rfl sc_law_spool_of.nd (blkOk_by (N := ["script", "cell", "numbers", "place"]) (sc := defScope st_law_spool_of) (by decide +kernel)) (fi_list (fe_sln 0 (fo_none) (fo_some (fe_int)))) (fun _ _ _ _ _ => pg_name (i := 1) sc_law_spool_of.nd rfl (Or.inl rfl)) (fun _ _ _ _ _ _ => fe_abs m_abs (fa_cons (fv 1) (fa_nil))),
    fs_for PassesOwn.never rfl (fi_enum m_enumerate (fe_sln 0 (fo_some (fe_int)) (fo_some (fe_int)))) (fg_tup rfl (fgs_cons (fg_name 3 sc_law_spool_of.nd) (fgs_cons (fg_name 1 sc_law_spool_of.nd) (fgs_nil)))) (fs_one (fs_put 2 (fe_add (fe_ixn 2 (fe_mod (fv 3) (fe_int))) (fe_abs m_abs (fa_cons (fv 1) (fa_nil)))) (fe_mod (fv 3) (fe_int)))),
    fl_lst (fa_cons (fv 2) (fa_cons (fe_int) (fa_cons (fe_int) (fa_cons (fe_int) (fa_nil)))))⟩
theorem ok0_law_upto (F : FunD K "_law_upto" "_law_upto" (defArgs st_law_upto) (defBody st_law_upto) (defScope st_law_upto) [] [] f fd) (D_law_stirred : DefOk P w K mg base 1 "_law_stirred" ["cell", "place"] (spP K m_law_stirred)) (m_len : mg "len" = none) : FnG P w K mg base CX0 2 f fd ["spool", "bound"] (spS K (bodyS 2 6 b_law_upto)) :=
  fn_spool (k := 1) F sc_law_upto fun C cdv A outer s H E hr =>
    fs_cons (fs_if (ft_lt (fe_sp 0) (fv 1)) (fs_cons (fs_par 2 3 (fa_cons (fe_sp 0) (fa_cons (fe_sp 0) (fa_nil))) rfl sc_law_upto.nd)
    (fs_cons (fs_set 4 (fe_if (ft_ne hr.units (fv 2) (fe_lst (fa_nil))) (fe_ixn 2 (fe_mod (fv 3) (fe_len m_len (fa_cons (fv 2) (fa_nil))))) (fe_int)) sc_law_upto.nd)
    (fs_cons (fs_if ((fw_or (ft_ge (fv 3) (fe_len m_len (fa_cons (fv 2) (fa_nil)))) (fw_or1 (ft_lt (fv 4) (fe_pow (fe_int) (fe_int))))).ft) (fs_one (fs_set 4 (fe_def D_law_stirred hr (by decide) (fa_cons (fe_mod (fv 4) (fe_int)) (fa_cons (fv 3) (fa_nil)))) sc_law_upto.nd)) (fs_nil))
    (fs_cons (fs_sp 0 (fe_add (fv 3) (fe_int)))
    (fs_cons (fs_sp 0 (fv 4))
    (fs_one (fs_sp 0 (fv 4)))))))) (fs_nil))
    (fs_cons (fs_set 5 (fe_mod (fe_sp 0) (fv 1)) sc_law_upto.nd)
    (fs_cons (fs_sp 0 (fe_fdiv (fe_sp 0) (fv 1)))
    (fs_cons (fs_sp 0 (fe_fdiv (fe_sp 0) (fv 1)))
    (fs_one (fs_ret (fv 5))))))
theorem ok0_law_choice (F : FunD K "_law_choice" "_law_choice" (defArgs st_law_choice) (defBody st_law_choice) (defScope st_law_choice) [] [] f fd) (D_law_upto : DefOk P w K mg base 2 "_law_upto" ["spool", "bound"] (spS K m_law_upto)) (m_len : mg "len" = none) : FnG P w K mg base CX0 3 f fd ["spool", "items"] (spS K (bodyS 2 2 b_law_choice)) :=
  fn_spool (k := 2) F sc_law_choice fun C cdv A outer s H E hr =>
    fs_one (fs_ret (fe_ixn 1 (fe_defS 0 D_law_upto hr (by decide) (fa_cons (fe_len m_len (fa_cons (fv 1) (fa_nil))) (fa_nil)))))
theorem ok0_law_common (F : FunD K "_law_common" "_law_common" (defArgs st_law_common) (defBody st_law_common) (defScope st_law_common) [] [] f fd) (m_abs : mg "abs" = none) : FnG P w K mg base CX0 1 f fd ["one", "other"] (spP K (bodyP 2 2 b_law_common)) :=
  fn_pure (k := 0) F sc_law_common fun C cdv A outer s H E hsp hr =>
    fs_cons (fs_while (fun s => (slI s 1).natAbs) PassesOwn.never (ft_ne hr.units (fv 1) (fe_int)) (fs_one (fs_par 0 1 (fa_cons (fv 1) (fa_cons (fe_mod (fv 0) (fv 1)) (fa_nil))) rfl sc_law_common.nd)))
    (fs_one (fs_ret (fe_abs m_abs (fa_cons (fv 0) (fa_nil)))))
theorem ok0_law_square_root (F : FunD K "_law_square_root" "_law_square_root" (defArgs st_law_square_root) (defBody st_law_square_root) (defScope st_law_square_root) [] [] f fd)  : FnG P w K mg base CX0 1 f fd ["value"] (spP K (bodyP 1 4 b_law_square_root)) :=
  fn_pure (k := 0) F sc_law_square_root fun C cdv A outer s H E hsp hr =>
    fs_cons (fs_if (ft_lt (fv 0) (fe_int)) (fs_one (fs_ret (fv 0))) (fs_nil))
    (fs_cons (fs_set 1 (fe_int) sc_law_square_root.nd)
    (fs_cons (fs_for PassesOwn.never rfl (fi_tup (fe_tup (fa_cons (fe_int) (fa_cons (fe_int) (fa_nil))))) (fg_name 2 sc_law_square_root.nd) (fs_one (fs_while (fun s => (4 * slI s 0).toNat) PassesOwn.never (ft_le (fe_mul (fe_mul (fe_mul (fv 1) (fv 1)) (fv 2)) (fv 2)) (fe_mul (fe_int) (fv 0))) (fs_one (fs_set 1 (fe_mul (fv 1) (fv 2)) sc_law_square_root.nd)))))
    (fs_cons (fs_set 3 (fe_fdiv (fe_add (fv 1) (fe_fdiv (fv 0) (fv 1))) (fe_int)) sc_law_square_root.nd)
    (fs_cons (fs_while (fun s => (slI s 1).toNat) PassesOwn.never (ft_lt (fv 3) (fv 1)) (fs_cons (fs_set 1 (fv 3) sc_law_square_root.nd)
    (fs_one (fs_set 3 (fe_fdiv (fe_add (fv 1) (fe_fdiv (fv 0) (fv 1))) (fe_int)) sc_law_square_root.nd))))
    (fs_one (fs_ret (fv 1)))))))
theorem ok0_law_lowest (F : FunD K "_law_lowest" "_law_lowest" (defArgs st_law_lowest) (defBody st_law_lowest) (defScope st_law_lowest) [] [] f fd) (D_law_common : DefOk P w K mg base 1 "_law_common" ["one", "other"] (spP K m_law_common)) : FnG P w K mg base CX0 2 f fd ["p", "q", "d", "s"] (spP K (bodyP 4 5 b_law_lowest)) :=
  fn_pure (k := 1) F sc_law_lowest fun C cdv A outer s H E hsp hr =>
    fs_cons (fs_if ((fw_or (ft_eq hr.units (fv 1) (fe_int)) (fw_or1 (ft_eq hr.units (fv 2) (fe_int)))).ft) (fs_one (fs_asg (fe_tup (fa_cons (fe_int) (fa_cons (fe_int) (fa_nil)))) (fg_tup rfl (fgs_cons (fg_name 1 sc_law_lowest.nd) (fgs_cons (fg_name 2 sc_law_lowest.nd) (fgs_nil)))))) (fs_nil))
    (fs_cons (fs_set 4 (fe_def D_law_common hr (by decide) (fa_cons (fe_def D_law_common hr (by decide) (fa_cons (fv 0) (fa_cons (fv 1) (fa_nil)))) (fa_cons (fv 3) (fa_nil)))) sc_law_lowest.nd)
    (fs_cons (fs_set 4 (fe_if (ft_gt (fv 3) (fe_int)) (fv 4) (fe_sub (fe_int) (fv 4))) sc_law_lowest.nd)
    (fs_one (fs_ret (fe_tup (fa_cons (fe_fdiv (fv 0) (fv 4)) (fa_cons (fe_fdiv (fv 1) (fv 4)) (fa_cons (fv 2) (fa_cons (fe_fdiv (fv 3) (fv 4)) (fa_nil))))))))))
theorem ok0_law_negative (F : FunD K "_law_negative" "_law_negative" (defArgs st_law_negative) (defBody st_law_negative) (defScope st_law_negative) [] [] f fd)  : FnG P w K mg base CX0 1 f fd ["one"] (spP K (bodyP 1 1 b_law_negative)) :=
  fn_pure (k := 0) F sc_law_negative fun C cdv A outer s H E hsp hr =>
    fs_one (fs_ret (fe_tup (fa_cons (fe_sub (fe_int) (fe_ixn 0 (fe_int))) (fa_cons (fe_sub (fe_int) (fe_ixn 0 (fe_int))) (fa_cons (fe_ixn 0 (fe_int)) (fa_cons (fe_ixn 0 (fe_int)) (fa_nil)))))))
theorem ok0_law_scaled (F : FunD K "_law_scaled" "_law_scaled" (defArgs st_law_scaled) (defBody st_law_scaled) (defScope st_law_scaled) [] [] f fd) (D_law_square_root : DefOk P w K mg base 1 "_law_square_root" ["value"] (spP K m_law_square_root)) (m_range : mg "range" = none) : FnG P w K mg base CX0 2 f fd ["one", "places"] (spP K (bodyP 2 9 b_law_scaled)) :=
  fn_pure (k := 1) F sc_law_scaled fun C cdv A outer s H E hsp hr =>
    fs_cons (fs_asg (fv 0) (fg_tup rfl (fgs_cons (fg_name 2 sc_law_scaled.nd) (fgs_cons (fg_name 3 sc_law_scaled.nd) (fgs_cons (fg_name 4 sc_law_scaled.nd) (fgs_cons (fg_name 5 sc_law_scaled.nd) (fgs_nil)))))))
    (fs_cons (fs_set 6 (fe_int) sc_law_scaled.nd)
    (fs_cons (fs_for PassesOwn.never rfl (fi_range1 m_range (fa_cons (fv 1) (fa_nil))) (fg_name 7 sc_law_scaled.nd) (fs_one (fs_set 6 (fe_mul (fv 6) (fe_int)) sc_law_scaled.nd)))
    (fs_cons (fs_set 8 (fe_def D_law_square_root hr (by decide) (fa_cons (fe_mul (fe_mul (fe_mul (fe_mul (fv 3) (fv 3)) (fv 4)) (fv 6)) (fv 6)) (fa_nil))) sc_law_scaled.nd)
    (fs_one (fs_ret (fe_fdiv (fe_add (fe_mul (fv 2) (fv 6)) (fe_if (ft_gt (fv 3) (fe_int)) (fv 8) (fe_sub (fe_int) (fv 8)))) (fv 5)))))))
theorem ok0_law_sign_of (F : FunD K "_law_sign_of" "_law_sign_of" (defArgs st_law_sign_of) (defBody st_law_sign_of) (defScope st_law_sign_of) [] [] f fd) (D_law_scaled : DefOk P w K mg base 2 "_law_scaled" ["one", "places"] (spP K m_law_scaled)) (m_abs : mg "abs" = none) : FnG P w K mg base CX0 3 f fd ["one"] (spP K (bodyP 1 3 b_law_sign_of)) :=
  fn_pure (k := 2) F sc_law_sign_of fun C cdv A outer s H E hsp hr =>
    fs_cons (fs_set 1 (fe_int) sc_law_sign_of.nd)
    (fs_cons (fs_while (fun _ => 12) PassesOwn.never (ft_ne hr.units (fe_sln 0 (fo_none) (fo_some (fe_int))) (fe_tup (fa_cons (fe_int) (fa_cons (fe_int) (fa_nil))))) (fs_cons (fs_set 2 (fe_def D_law_scaled hr (by decide) (fa_cons (fv 0) (fa_cons (fv 1) (fa_nil)))) sc_law_sign_of.nd)
    (fs_cons (fs_if (ft_gt (fe_abs m_abs (fa_cons (fv 2) (fa_nil))) (fe_int)) (fs_one (fs_ret (fe_if (ft_gt (fv 2) (fe_int)) (fe_int) (fe_sub (fe_int) (fe_int))))) (fs_nil))
    (fs_one (fs_set 1 (fe_mul (fe_int) (fv 1)) sc_law_sign_of.nd)))))
    (fs_one (fs_ret (fe_int))))
theorem ok0_law_drawn (F : FunD K "_law_drawn" "_law_drawn" (defArgs st_law_drawn) (defBody st_law_drawn) (defScope st_law_drawn) [] [] f fd) (D_law_lowest : DefOk P w K mg base 2 "_law_lowest" ["p", "q", "d", "s"] (spP K m_law_lowest)) (D_law_choice : DefOk P w K mg base 3 "_law_choice" ["spool", "items"] (spS K m_law_choice)) (D_law_upto : DefOk P w K mg base 2 "_law_upto" ["spool", "bound"] (spS K m_law_upto)) : FnG P w K mg base CX0 4 f fd ["spool", "d", "size"] (spS K (bodyS 3 6 b_law_drawn)) :=
  fn_spool (k := 3) F sc_law_drawn fun C cdv A outer s H E hr =>
    fs_cons (fs_par 3 4 (fa_cons (fe_sub (fe_defS 0 D_law_upto hr (by decide) (fa_cons (fe_add (fe_mul (fe_int) (fv 2)) (fe_int)) (fa_nil))) (fv 2)) (fa_cons (fe_sub (fe_defS 0 D_law_upto hr (by decide) (fa_cons (fe_add (fe_mul (fe_int) (fv 2)) (fe_int)) (fa_nil))) (fv 2)) (fa_nil))) rfl sc_law_drawn.nd)
    (fs_cons (fs_set 5 (fe_add (fe_int) (fe_defS 0 D_law_upto hr (by decide) (fa_cons (fv 2) (fa_nil)))) sc_law_drawn.nd)
    (fs_one (fs_ret (fe_def D_law_lowest hr (by decide) (fa_cons (fv 3) (fa_cons (fe_defS 0 D_law_choice hr (by decide) (fa_cons (fe_lst (fa_cons (fe_int) (fa_cons (fv 4) (fa_cons (fv 4) (fa_nil))))) (fa_nil))) (fa_cons (fv 1) (fa_cons (fv 5) (fa_nil)))))))))
theorem ok0_law_drawn_ratio (F : FunD K "_law_drawn_ratio" "_law_drawn_ratio" (defArgs st_law_drawn_ratio) (defBody st_law_drawn_ratio) (defScope st_law_drawn_ratio) [] [] f fd) (D_law_sign_of : DefOk P w K mg base 3 "_law_sign_of" ["one"] (spP K m_law_sign_of)) (D_law_negative : DefOk P w K mg base 1 "_law_negative" ["one"] (spP K m_law_negative)) (D_law_drawn : DefOk P w K mg base 4 "_law_drawn" ["spool", "d", "size"] (spS K m_law_drawn)) (D_law_choice : DefOk P w K mg base 3 "_law_choice" ["spool", "items"] (spS K m_law_choice)) : FnG P w K mg base CX0 5 f fd ["spool"] (spS K (bodyS 1 3 b_law_drawn_ratio)) :=
  fn_spool (k := 4) F sc_law_drawn_ratio fun C cdv A outer s H E hr =>
    fs_cons (fs_set 1 (fe_defS 0 D_law_choice hr (by decide) (fa_cons (fe_lst (fa_cons (fe_int) (fa_cons (fe_int) (fa_cons (fe_int) (fa_cons (fe_int) (fa_cons (fe_int) (fa_cons (fe_int) (fa_cons (fe_int) (fa_cons (fe_int) (fa_nil)))))))))) (fa_nil))) sc_law_drawn_ratio.nd)
    (fs_cons (fs_set 2 (fe_defS 0 D_law_drawn hr (by decide) (fa_cons (fv 1) (fa_cons (fe_defS 0 D_law_choice hr (by decide) (fa_cons (fe_lst (fa_cons (fe_int) (fa_cons (fe_int) (fa_cons (fe_int) (fa_cons (fe_int) (fa_nil)))))) (fa_nil))) (fa_nil)))) sc_law_drawn_ratio.nd)
    (fs_cons (fs_if (ft_lt (fe_def D_law_sign_of hr (by decide) (fa_cons (fv 2) (fa_nil))) (fe_int)) (fs_one (fs_set 2 (fe_def D_law_negative hr (by decide) (fa_cons (fv 2) (fa_nil))) sc_law_drawn_ratio.nd)) (fs_nil))
    (fs_one (fs_ret (fe_if (ft_ne hr.units (fe_sln 2 (fo_none) (fo_some (fe_int))) (fe_tup (fa_cons (fe_int) (fa_cons (fe_int) (fa_nil))))) (fv 2) (fe_tup (fa_cons (fe_int) (fa_cons (fe_int) (fa_cons (fe_int) (fa_cons (fe_int) (fa_nil)))))))))))
theorem ok0_law_exchanged (F : FunD K "_law_exchanged" "_law_exchanged" (defArgs st_law_exchanged) (defBody st_law_exchanged) (defScope st_law_exchanged) [] [] f fd)  : FnG P w K mg base CX0 1 f fd ["word"] (spP K (bodyP 1 2 b_law_exchanged)) :=
  fn_pure (k := 0) F sc_law_exchanged fun C cdv A outer s H E hsp hr =>
    fs_one (fs_ret (fe_join (fe_str) (fe_fl (fl_lc 1 rfl sc_law_exchanged.nd (blkOk_by (N := ["word", "letter"]) (sc := defScope st_law_exchanged) (by decide +kernel)) (fi_strS (fv 0)) (fun _ _ _ _ _ => pg_name (i := 1) sc_law_exchanged.nd rfl (Or.inl rfl)) (fun _ _ _ _ _ _ => fe_if (ft_eq hr.units (fv 1) (fe_str)) (fe_str) (fe_str))))))
theorem ok0_law_rooted_right (F : FunD K "_law_rooted_right" "_law_rooted_right" (defArgs st_law_rooted_right) (defBody st_law_rooted_right) (defScope st_law_rooted_right) [] [] f fd) (D_standard : DefOk P w K mg base 4 "standard" ["ratio", "level"] (spP K m_standard)) (D_convergents : DefOk P w K mg base 3 "convergents" ["ratio", "count"] (spP K m_convergents)) (D_lengths : DefOk P w K mg base 3 "lengths" ["ratio", "count"] (spP K m_lengths)) (D_digits : DefOk P w K mg base 4 "digits" ["ratio", "count"] (spP K m_digits)) (D_counts : DefOk P w K mg base 4 "counts" ["ratio", "count"] (spP K m_counts)) (D_law_upto : DefOk P w K mg base 2 "_law_upto" ["spool", "bound"] (spS K m_law_upto)) (D_acts : DefOk P w K mg base 5 "acts" ["ratio", "count"] (spP K m_acts)) (D_law_exchanged : DefOk P w K mg base 1 "_law_exchanged" ["word"] (spP K m_law_exchanged)) (D_over : DefOk P w K mg base 3 "over" ["first", "second"] (spP K m_over)) (m_range : mg "range" = none) (m_sum : mg "sum" = none) (m_zip : mg "zip" = none) (m_len : mg "len" = none) : FnG P w K mg base CX0 6 f fd ["spool", "ratio"] (spS K (bodyS 2 12 b_law_rooted_right)) :=
  fn_spool (k := 5) F sc_law_rooted_right fun C cdv A outer s H E hr =>
    fs_cons (fs_set 2 (fe_def D_over hr (by decide) (fa_cons (fe_tup (fa_cons (fe_int) (fa_cons (fe_int) (fa_cons (fe_int) (fa_cons (fe_int) (fa_nil)))))) (fa_cons (fv 1) (fa_nil)))) sc_law_rooted_right.nd)
    (fs_cons (fs_if (ft_ne hr.units (fe_def D_acts hr (by decide) (fa_cons (fv 2) (fa_cons (fe_int) (fa_nil)))) (fe_def D_law_exchanged hr (by decide) (fa_cons (fe_def D_acts hr (by decide) (fa_cons (fv 1) (fa_cons (fe_int) (fa_nil)))) (fa_nil)))) (fs_one (fs_ret (fe_bl))) (fs_nil))
    (fs_cons (fs_set 3 (fe_defS 0 D_law_upto hr (by decide) (fa_cons (fe_pow (fe_int) (fe_int)) (fa_nil))) sc_law_rooted_right.nd)
    (fs_cons (fs_if (ft_ne hr.units (fe_def D_counts hr (by decide) (fa_cons (fv 2) (fa_cons (fv 3) (fa_nil)))) (fe_rev2 (fe_def D_counts hr (by decide) (fa_cons (fv 1) (fa_cons (fv 3) (fa_nil)))))) (fs_one (fs_ret (fe_bl))) (fs_nil))
    (fs_cons (fs_set 4 (fe_def D_digits hr (by decide) (fa_cons (fv 1) (fa_cons (fv 3) (fa_nil)))) sc_law_rooted_right.nd)
    (fs_cons (fs_set 5 (fe_def D_lengths hr (by decide) (fa_cons (fv 1) (fa_cons (fe_len m_len (fa_cons (fv 4) (fa_nil))) (fa_nil)))) sc_law_rooted_right.nd)
    (fs_cons (fs_if (ft_ne hr.units (fe_sumL rfl m_sum (fa_cons (fe_fl (fl_lcP 10 11 (by decide) rfl sc_law_rooted_right.nd (blkOk_by (N := ["spool", "ratio", "other", "count", "some", "sizes", "pairs", "level", "top", "bottom", "size", "digit"]) (sc := defScope st_law_rooted_right) (by decide +kernel)) (fi_zipM m_zip (fa_cons (fv 5) (fa_cons (fv 4) (fa_nil)))) (fun _ _ _ _ _ => pg_tup rfl (pgs_cons (pg_name (i := 10) sc_law_rooted_right.nd rfl (Or.inl rfl)) (pgs_cons (pg_name (i := 11) sc_law_rooted_right.nd rfl (Or.inl rfl)) pgs_nil))) (fun _ _ _ _ _ _ => fe_mul (fv 10) (fv 11)))) (fa_nil))) (fv 3)) (fs_one (fs_ret (fe_bl))) (fs_nil))
    (fs_cons (fs_set 6 (fe_def D_convergents hr (by decide) (fa_cons (fv 1) (fa_cons (fe_int) (fa_nil)))) sc_law_rooted_right.nd)
    (fs_cons (fs_for PassesOwn.never rfl (fi_range2 m_range (fa_cons (fe_int) (fa_cons (fe_int) (fa_nil)))) (fg_name 7 sc_law_rooted_right.nd) (fs_cons (fs_asg (fe_ixn 6 (fe_sub (fv 7) (fe_int))) (fg_tup rfl (fgs_cons (fg_name 8 sc_law_rooted_right.nd) (fgs_cons (fg_name 9 sc_law_rooted_right.nd) (fgs_nil)))))
    (fs_cons (fs_if (ft_nin hr.units (fe_sln 5 (fo_some (fv 7)) (fo_some (fe_add (fv 7) (fe_int)))) (fe_tup (fa_cons (fe_lst (fa_nil)) (fa_cons (fe_lst (fa_cons (fe_add (fv 8) (fv 9)) (fa_nil))) (fa_nil))))) (fs_one (fs_ret (fe_bl))) (fs_nil))
    (fs_one (fs_if ((fw_and (ft_lt (fe_add (fv 8) (fv 9)) (fe_int)) (fw_and1 (ft_ne hr.units (fe_scount (fe_def D_standard hr (by decide) (fa_cons (fv 1) (fa_cons (fv 7) (fa_nil))))) (fv 9)))).ft) (fs_one (fs_ret (fe_bl))) (fs_nil))))))
    (fs_one (fs_ret (fe_bl)))))))))))

theorem ok_law (F : FunD K "law" "law" (defArgs st_law) (defBody st_law) (defScope st_law) [] [] f fd) (D_law_rooted_right : DefOk P w K mg base 6 "_law_rooted_right" ["spool", "ratio"] (spS K m_law_rooted_right)) (D_act_at : DefOk P w K mg base 5 "act_at" ["ratio", "place"] (spP K m_act_at)) (D_law_upto : DefOk P w K mg base 2 "_law_upto" ["spool", "bound"] (spS K m_law_upto)) (D_counts : DefOk P w K mg base 4 "counts" ["ratio", "count"] (spP K m_counts)) (D_place_of : DefOk P w K mg base 4 "place_of" ["ratio", "worker", "index"] (spP K m_place_of)) (D_acts : DefOk P w K mg base 5 "acts" ["ratio", "count"] (spP K m_acts)) (D_law_drawn_ratio : DefOk P w K mg base 5 "_law_drawn_ratio" ["spool"] (spS K m_law_drawn_ratio)) (D_law_spool_of : DefOk P w K mg base 1 "_law_spool_of" ["script"] (spN K mN_law_spool_of)) (m_range : mg "range" = none) (m_enumerate : mg "enumerate" = none) : FnG P w K mg base CX0 7 f fd ["script"] (spLaw K) := by
  obtain ⟨fa1, fd1, F1, hm1, hk1, hb1⟩ := D_law_spool_of
  exact fn_law (k := 6) sf F sc_law rfl
    (fun C cdv A outer s H E hr => ps_set sc_law.nd rfl (Or.inl rfl) (pe_callG (F1.mono (by decide)) hr rfl hm1 hk1 hb1 .nil pass0 (pa_cons (pe_var rfl (Or.inl rfl) (by decide) (by decide)) pa_nil rfl) (by decide) rfl rfl) rfl (.inl rfl))
    (fun C cdv A outer s H E hr => fs_cons (fs_for PassesOwn.never rfl (fi_range1 m_range (fa_cons (fe_int) (fa_nil))) (fg_name 2 sc_law.nd) (fs_cons (fs_set 3 (fe_defS 1 D_law_drawn_ratio hr (by decide) (fa_nil)) sc_law.nd)
    (fs_cons (fs_set 4 (fe_def D_acts hr (by decide) (fa_cons (fv 3) (fa_cons (fe_int) (fa_nil)))) sc_law.nd)
    (fs_cons (fs_set 5 (fe_defS 1 D_law_upto hr (by decide) (fa_cons (fe_int) (fa_nil))) sc_law.nd)
    (fs_cons (fs_if ((fw_or (ft_ne hr.units (fe_def D_acts hr (by decide) (fa_cons (fv 3) (fa_cons (fv 5) (fa_nil)))) (fe_sls 4 (fo_none) (fo_some (fv 5)))) (fw_or1 (ft_ne hr.units (fe_join (fe_str) (fe_fl (fl_lc 6 rfl sc_law.nd (blkOk_by (N := ["script", "spool", "turn", "ratio", "word", "some", "place", "size", "index", "kind", "worker", "far"]) (sc := defScope st_law) (by decide +kernel)) (fi_range1 m_range (fa_cons (fe_int) (fa_nil))) (fun _ _ _ _ _ => pg_name (i := 6) sc_law.nd rfl (Or.inl rfl)) (fun _ _ _ _ _ _ => fe_def D_act_at hr (by decide) (fa_cons (fv 3) (fa_cons (fe_add (fv 6) (fe_int)) (fa_nil))))))) (fv 4)))).ft) (fs_one (fs_ret (fe_bl))) (fs_nil))
    (fs_cons (fs_for PassesOwn.never rfl (fi_tup (fe_tup (fa_cons (fe_int) (fa_cons (fe_pow (fe_int) (fe_int)) (fa_nil))))) (fg_name 7 sc_law.nd) (fs_cons (fs_set 8 (fe_add (fe_int) (fe_defS 1 D_law_upto hr (by decide) (fa_cons (fv 7) (fa_nil)))) sc_law.nd)
    (fs_one (fs_for PassesOwn.never rfl (fi_enumS m_enumerate (fe_str)) (fg_tup rfl (fgs_cons (fg_name 9 sc_law.nd) (fgs_cons (fg_name 10 sc_law.nd) (fgs_nil)))) (fs_cons (fs_set 6 (fe_def D_place_of hr (by decide) (fa_cons (fv 3) (fa_cons (fv 10) (fa_cons (fv 8) (fa_nil))))) sc_law.nd)
    (fs_cons (fs_if ((fw_or (ft_ne hr.units (fe_def D_act_at hr (by decide) (fa_cons (fv 3) (fa_cons (fv 6) (fa_nil)))) (fv 10)) (fw_or1 (ft_ne hr.units (fe_ix (fe_def D_counts hr (by decide) (fa_cons (fv 3) (fa_cons (fv 6) (fa_nil)))) (fv 9)) (fv 8)))).ft) (fs_one (fs_ret (fe_bl))) (fs_nil))
    (fs_one (fs_if (ft_ne hr.units (fe_ix (fe_def D_counts hr (by decide) (fa_cons (fv 3) (fa_cons (fe_sub (fv 6) (fe_int)) (fa_nil)))) (fv 9)) (fe_sub (fv 8) (fe_int))) (fs_one (fs_ret (fe_bl))) (fs_nil)))))))))
    (fs_one (fs_if (ft_ne hr.units (fe_ixn 3 (fe_int)) (fe_int)) (fs_one (fs_if (ft_not (ft_tr (fe_defS 1 D_law_rooted_right hr (by decide) (fa_cons (fv 3) (fa_nil))))) (fs_one (fs_ret (fe_bl))) (fs_nil))) (fs_one (fs_if (ft_lt (fe_add (fe_ixn 3 (fe_int)) (fe_ixn 3 (fe_int))) (fe_int)) (fs_cons (fs_set 7 (fe_add (fe_ixn 3 (fe_int)) (fe_ixn 3 (fe_int))) sc_law.nd)
    (fs_cons (fs_if ((fw_or (ft_ne hr.units (fe_sls 4 (fo_some (fv 7)) (fo_none)) (fe_sls 4 (fo_none) (fo_some (fe_sub (fe_int) (fv 7))))) (fw_or1 (ft_ne hr.units (fe_def D_counts hr (by decide) (fa_cons (fv 3) (fa_cons (fv 7) (fa_nil)))) (fe_tup (fa_cons (fe_ixn 3 (fe_int)) (fa_cons (fe_ixn 3 (fe_int)) (fa_nil))))))).ft) (fs_one (fs_ret (fe_bl))) (fs_nil))
    (fs_cons (fs_set 11 (fe_defS 1 D_law_upto hr (by decide) (fa_cons (fe_pow (fe_int) (fe_int)) (fa_nil))) sc_law.nd)
    (fs_one (fs_if (ft_ne hr.units (fe_def D_act_at hr (by decide) (fa_cons (fv 3) (fa_cons (fe_add (fe_int) (fe_mul (fv 11) (fv 7))) (fa_nil)))) (fe_ixn 4 (fe_int))) (fs_one (fs_ret (fe_bl))) (fs_nil)))))) (fs_nil)))))))))))
    (fs_one (fs_ret (fe_bl)))) (by decide) law_ok
end
def d_lowest : He.DefD := ⟨("lowest", none), "lowest", "lowest", defArgs st_lowest, defBody st_lowest, defScope st_lowest, [], []⟩
def d_floor : He.DefD := ⟨("floor", none), "floor", "floor", defArgs st_floor, defBody st_floor, defScope st_floor, [], []⟩
def d_plus : He.DefD := ⟨("plus", none), "plus", "plus", defArgs st_plus, defBody st_plus, defScope st_plus, [], []⟩
def d_times : He.DefD := ⟨("times", none), "times", "times", defArgs st_times, defBody st_times, defScope st_times, [], []⟩
def d_over : He.DefD := ⟨("over", none), "over", "over", defArgs st_over, defBody st_over, defScope st_over, [], []⟩
def d_opposite : He.DefD := ⟨("opposite", none), "opposite", "opposite", defArgs st_opposite, defBody st_opposite, defScope st_opposite, [], []⟩
def d_common_root : He.DefD := ⟨("common_root", none), "common_root", "common_root", defArgs st_common_root, defBody st_common_root, defScope st_common_root, [], []⟩
def d_quotients : He.DefD := ⟨("quotients", none), "quotients", "quotients", defArgs st_quotients, defBody st_quotients, defScope st_quotients, [], []⟩
def d_fraction_quotients : He.DefD := ⟨("fraction_quotients", none), "fraction_quotients", "fraction_quotients", defArgs st_fraction_quotients, defBody st_fraction_quotients, defScope st_fraction_quotients, [], []⟩
def d_surd_of : He.DefD := ⟨("surd_of", none), "surd_of", "surd_of", defArgs st_surd_of, defBody st_surd_of, defScope st_surd_of, [], []⟩
def d_surd_step : He.DefD := ⟨("surd_step", none), "surd_step", "surd_step", defArgs st_surd_step, defBody st_surd_step, defScope st_surd_step, [], []⟩
def d_whole : He.DefD := ⟨("whole", none), "whole", "whole", defArgs st_whole, defBody st_whole, defScope st_whole, [], []⟩
def d_convergents : He.DefD := ⟨("convergents", none), "convergents", "convergents", defArgs st_convergents, defBody st_convergents, defScope st_convergents, [], []⟩
def d_fractions_of : He.DefD := ⟨("fractions_of", none), "fractions_of", "fractions_of", defArgs st_fractions_of, defBody st_fractions_of, defScope st_fractions_of, [], []⟩
def d_counts : He.DefD := ⟨("counts", none), "counts", "counts", defArgs st_counts, defBody st_counts, defScope st_counts, [], []⟩
def d_act_at : He.DefD := ⟨("act_at", none), "act_at", "act_at", defArgs st_act_at, defBody st_act_at, defScope st_act_at, [], []⟩
def d_acts : He.DefD := ⟨("acts", none), "acts", "acts", defArgs st_acts, defBody st_acts, defScope st_acts, [], []⟩
def d_place_of : He.DefD := ⟨("place_of", none), "place_of", "place_of", defArgs st_place_of, defBody st_place_of, defScope st_place_of, [], []⟩
def d_ceiling : He.DefD := ⟨("ceiling", none), "ceiling", "ceiling", defArgs st_ceiling, defBody st_ceiling, defScope st_ceiling, [], []⟩
def d_lengths : He.DefD := ⟨("lengths", none), "lengths", "lengths", defArgs st_lengths, defBody st_lengths, defScope st_lengths, [], []⟩
def d_standard : He.DefD := ⟨("standard", none), "standard", "standard", defArgs st_standard, defBody st_standard, defScope st_standard, [], []⟩
def d_digits : He.DefD := ⟨("digits", none), "digits", "digits", defArgs st_digits, defBody st_digits, defScope st_digits, [], []⟩
def d_law_stirred : He.DefD := ⟨("_law_stirred", none), "_law_stirred", "_law_stirred", defArgs st_law_stirred, defBody st_law_stirred, defScope st_law_stirred, [], []⟩
def d_law_spool_of : He.DefD := ⟨("_law_spool_of", none), "_law_spool_of", "_law_spool_of", defArgs st_law_spool_of, defBody st_law_spool_of, defScope st_law_spool_of, [], []⟩
def d_law_upto : He.DefD := ⟨("_law_upto", none), "_law_upto", "_law_upto", defArgs st_law_upto, defBody st_law_upto, defScope st_law_upto, [], []⟩
def d_law_choice : He.DefD := ⟨("_law_choice", none), "_law_choice", "_law_choice", defArgs st_law_choice, defBody st_law_choice, defScope st_law_choice, [], []⟩
def d_law_common : He.DefD := ⟨("_law_common", none), "_law_common", "_law_common", defArgs st_law_common, defBody st_law_common, defScope st_law_common, [], []⟩
def d_law_square_root : He.DefD := ⟨("_law_square_root", none), "_law_square_root", "_law_square_root", defArgs st_law_square_root, defBody st_law_square_root, defScope st_law_square_root, [], []⟩
def d_law_lowest : He.DefD := ⟨("_law_lowest", none), "_law_lowest", "_law_lowest", defArgs st_law_lowest, defBody st_law_lowest, defScope st_law_lowest, [], []⟩
def d_law_add : He.DefD := ⟨("_law_add", none), "_law_add", "_law_add", defArgs st_law_add, defBody st_law_add, defScope st_law_add, [], []⟩
def d_law_negative : He.DefD := ⟨("_law_negative", none), "_law_negative", "_law_negative", defArgs st_law_negative, defBody st_law_negative, defScope st_law_negative, [], []⟩
def d_law_multiply : He.DefD := ⟨("_law_multiply", none), "_law_multiply", "_law_multiply", defArgs st_law_multiply, defBody st_law_multiply, defScope st_law_multiply, [], []⟩
def d_law_inverse : He.DefD := ⟨("_law_inverse", none), "_law_inverse", "_law_inverse", defArgs st_law_inverse, defBody st_law_inverse, defScope st_law_inverse, [], []⟩
def d_law_scaled : He.DefD := ⟨("_law_scaled", none), "_law_scaled", "_law_scaled", defArgs st_law_scaled, defBody st_law_scaled, defScope st_law_scaled, [], []⟩
def d_law_sign_of : He.DefD := ⟨("_law_sign_of", none), "_law_sign_of", "_law_sign_of", defArgs st_law_sign_of, defBody st_law_sign_of, defScope st_law_sign_of, [], []⟩
def d_law_whole_part : He.DefD := ⟨("_law_whole_part", none), "_law_whole_part", "_law_whole_part", defArgs st_law_whole_part, defBody st_law_whole_part, defScope st_law_whole_part, [], []⟩
def d_law_drawn : He.DefD := ⟨("_law_drawn", none), "_law_drawn", "_law_drawn", defArgs st_law_drawn, defBody st_law_drawn, defScope st_law_drawn, [], []⟩
def d_law_drawn_ratio : He.DefD := ⟨("_law_drawn_ratio", none), "_law_drawn_ratio", "_law_drawn_ratio", defArgs st_law_drawn_ratio, defBody st_law_drawn_ratio, defScope st_law_drawn_ratio, [], []⟩
def d_law_rooted_ratio : He.DefD := ⟨("_law_rooted_ratio", none), "_law_rooted_ratio", "_law_rooted_ratio", defArgs st_law_rooted_ratio, defBody st_law_rooted_ratio, defScope st_law_rooted_ratio, [], []⟩
def d_law_exchanged : He.DefD := ⟨("_law_exchanged", none), "_law_exchanged", "_law_exchanged", defArgs st_law_exchanged, defBody st_law_exchanged, defScope st_law_exchanged, [], []⟩
def d_law_rooted_right : He.DefD := ⟨("_law_rooted_right", none), "_law_rooted_right", "_law_rooted_right", defArgs st_law_rooted_right, defBody st_law_rooted_right, defScope st_law_rooted_right, [], []⟩
def d_law : He.DefD := ⟨("law", none), "law", "law", defArgs st_law, defBody st_law, defScope st_law, [], []⟩
def fnL : List He.DefD := ([d_lowest, d_floor, d_plus, d_times, d_over, d_opposite, d_common_root, d_quotients, d_fraction_quotients, d_surd_of, d_surd_step, d_whole, d_convergents, d_fractions_of, d_counts, d_act_at, d_acts, d_place_of, d_ceiling, d_lengths, d_standard, d_digits, d_law_stirred, d_law_spool_of, d_law_upto, d_law_choice, d_law_common, d_law_square_root, d_law_lowest, d_law_add, d_law_negative, d_law_multiply, d_law_inverse, d_law_scaled, d_law_sign_of] : List He.DefD) ++ ([d_law_whole_part, d_law_drawn, d_law_drawn_ratio, d_law_rooted_ratio, d_law_exchanged, d_law_rooted_right, d_law] : List He.DefD)
def faL : List He.Fa := ([.glo "lowest", .glo "floor", .glo "plus", .glo "times", .glo "over", .glo "opposite", .glo "common_root", .glo "quotients", .glo "fraction_quotients", .glo "surd_of", .glo "surd_step", .glo "whole", .glo "convergents", .glo "fractions_of", .glo "counts", .glo "act_at", .glo "acts", .glo "place_of", .glo "ceiling", .glo "lengths", .glo "standard", .glo "digits", .glo "_law_stirred", .glo "_law_spool_of", .glo "_law_upto", .glo "_law_choice", .glo "_law_common", .glo "_law_square_root", .glo "_law_lowest", .glo "_law_add", .glo "_law_negative", .glo "_law_multiply", .glo "_law_inverse", .glo "_law_scaled", .glo "_law_sign_of"] : List He.Fa) ++ ([.glo "_law_whole_part", .glo "_law_drawn", .glo "_law_drawn_ratio", .glo "_law_rooted_ratio", .glo "_law_exchanged", .glo "_law_rooted_right", .glo "law", .free "max", .free "range", .free "len", .free "abs", .free "tuple", .free "reversed", .free "divmod", .free "enumerate", .free "sum", .free "zip", .int "LONGEST" 2000] : List He.Fa)
def exB (K : PySem.W.Frag) : Bool := (bltB "gcd" "math.gcd" K) && (bltB "isqrt" "math.isqrt" K)
abbrev Rw : PySem.W.OpenRow := PySem.W.OpenLaw.row PySem.Challenge.rw_twospeeds_k24_whole_order
abbrev hk : PySem.W.Hook := hookX 4 faL fnL exB
def loose : List PySem.Str := ([("TwoSpeedsError" : PySem.Str), ("TooMany" : PySem.Str), ("ZeroDivisor" : PySem.Str), ("OtherRoot" : PySem.Str), ("lowest" : PySem.Str), ("floor" : PySem.Str), ("plus" : PySem.Str), ("times" : PySem.Str), ("over" : PySem.Str), ("opposite" : PySem.Str), ("common_root" : PySem.Str), ("quotients" : PySem.Str), ("fraction_quotients" : PySem.Str), ("surd_of" : PySem.Str), ("surd_step" : PySem.Str), ("whole" : PySem.Str), ("convergents" : PySem.Str), ("fractions_of" : PySem.Str), ("LONGEST" : PySem.Str), ("counts" : PySem.Str), ("act_at" : PySem.Str), ("acts" : PySem.Str), ("place_of" : PySem.Str), ("ceiling" : PySem.Str), ("lengths" : PySem.Str), ("standard" : PySem.Str), ("digits" : PySem.Str), ("_law_stirred" : PySem.Str), ("_law_spool_of" : PySem.Str), ("_law_upto" : PySem.Str), ("_law_choice" : PySem.Str), ("_law_common" : PySem.Str), ("_law_square_root" : PySem.Str), ("_law_lowest" : PySem.Str), ("_law_add" : PySem.Str)] : List PySem.Str) ++ ([("_law_negative" : PySem.Str), ("_law_multiply" : PySem.Str), ("_law_inverse" : PySem.Str), ("_law_scaled" : PySem.Str), ("_law_sign_of" : PySem.Str), ("_law_whole_part" : PySem.Str), ("_law_drawn" : PySem.Str), ("_law_drawn_ratio" : PySem.Str), ("_law_rooted_ratio" : PySem.Str), ("_law_exchanged" : PySem.Str), ("_law_rooted_right" : PySem.Str)] : List PySem.Str)
theorem run (w : World) : HandSHeadRun.RunEqI Rw (PySem.W.view Rw.prog [0, 52]) hk (obT 4 faL fnL exB) 8000 loose w := by
  unfold HandSHeadRun.RunEqI
  kernel_rfl
theorem facts {P : Program} {w : World} {K : PySem.W.Frag} {h : Heap} {mg : Str → Option Value} {f : Addr} (X : K.In h) (G : h.Ns mainGlobals mg) (hfa : mg ("law" : Str) = some (.ref f)) (c : He.SaysD faL fnL K) (cx : exB K = true) :
    ∃ fd : FuncData, (∀ (s : Shared) (v : Value), BindsTo s fd ⟨[v], []⟩ [("script", v)]) ∧ ∀ base : Heap, K.In base → base.Ns mainGlobals mg → FnG P w K mg base CX0 7 f fd ["script"] (spLaw K) := by
  have c0 := c
  obtain ⟨fd_lowest, F_lowest⟩ := c.def_ 0 (d := d_lowest) rfl
  have g_lowest := He.glo_ok X G (c.fact 0 (f := .glo "lowest") rfl)
  obtain ⟨fd_floor, F_floor⟩ := c.def_ 1 (d := d_floor) rfl
  have g_floor := He.glo_ok X G (c.fact 1 (f := .glo "floor") rfl)
  obtain ⟨fd_plus, F_plus⟩ := c.def_ 2 (d := d_plus) rfl
  have g_plus := He.glo_ok X G (c.fact 2 (f := .glo "plus") rfl)
  obtain ⟨fd_times, F_times⟩ := c.def_ 3 (d := d_times) rfl
  have g_times := He.glo_ok X G (c.fact 3 (f := .glo "times") rfl)
  obtain ⟨fd_over, F_over⟩ := c.def_ 4 (d := d_over) rfl
  have g_over := He.glo_ok X G (c.fact 4 (f := .glo "over") rfl)
  obtain ⟨fd_opposite, F_opposite⟩ := c.def_ 5 (d := d_opposite) rfl
  have g_opposite := He.glo_ok X G (c.fact 5 (f := .glo "opposite") rfl)
  obtain ⟨fd_common_root, F_common_root⟩ := c.def_ 6 (d := d_common_root) rfl
  have g_common_root := He.glo_ok X G (c.fact 6 (f := .glo "common_root") rfl)
  obtain ⟨fd_quotients, F_quotients⟩ := c.def_ 7 (d := d_quotients) rfl
  have g_quotients := He.glo_ok X G (c.fact 7 (f := .glo "quotients") rfl)
  obtain ⟨fd_fraction_quotients, F_fraction_quotients⟩ := c.def_ 8 (d := d_fraction_quotients) rfl
  have g_fraction_quotients := He.glo_ok X G (c.fact 8 (f := .glo "fraction_quotients") rfl)
  obtain ⟨fd_surd_of, F_surd_of⟩ := c.def_ 9 (d := d_surd_of) rfl
  have g_surd_of := He.glo_ok X G (c.fact 9 (f := .glo "surd_of") rfl)
  obtain ⟨fd_surd_step, F_surd_step⟩ := c.def_ 10 (d := d_surd_step) rfl
  have g_surd_step := He.glo_ok X G (c.fact 10 (f := .glo "surd_step") rfl)
  obtain ⟨fd_whole, F_whole⟩ := c.def_ 11 (d := d_whole) rfl
  have g_whole := He.glo_ok X G (c.fact 11 (f := .glo "whole") rfl)
  obtain ⟨fd_convergents, F_convergents⟩ := c.def_ 12 (d := d_convergents) rfl
  have g_convergents := He.glo_ok X G (c.fact 12 (f := .glo "convergents") rfl)
  obtain ⟨fd_fractions_of, F_fractions_of⟩ := c.def_ 13 (d := d_fractions_of) rfl
  have g_fractions_of := He.glo_ok X G (c.fact 13 (f := .glo "fractions_of") rfl)
  obtain ⟨fd_counts, F_counts⟩ := c.def_ 14 (d := d_counts) rfl
  have g_counts := He.glo_ok X G (c.fact 14 (f := .glo "counts") rfl)
  obtain ⟨fd_act_at, F_act_at⟩ := c.def_ 15 (d := d_act_at) rfl
  have g_act_at := He.glo_ok X G (c.fact 15 (f := .glo "act_at") rfl)
  obtain ⟨fd_acts, F_acts⟩ := c.def_ 16 (d := d_acts) rfl
  have g_acts := He.glo_ok X G (c.fact 16 (f := .glo "acts") rfl)
  obtain ⟨fd_place_of, F_place_of⟩ := c.def_ 17 (d := d_place_of) rfl
  have g_place_of := He.glo_ok X G (c.fact 17 (f := .glo "place_of") rfl)
  obtain ⟨fd_ceiling, F_ceiling⟩ := c.def_ 18 (d := d_ceiling) rfl
  have g_ceiling := He.glo_ok X G (c.fact 18 (f := .glo "ceiling") rfl)
  obtain ⟨fd_lengths, F_lengths⟩ := c.def_ 19 (d := d_lengths) rfl
  have g_lengths := He.glo_ok X G (c.fact 19 (f := .glo "lengths") rfl)
  obtain ⟨fd_standard, F_standard⟩ := c.def_ 20 (d := d_standard) rfl
  have g_standard := He.glo_ok X G (c.fact 20 (f := .glo "standard") rfl)
  obtain ⟨fd_digits, F_digits⟩ := c.def_ 21 (d := d_digits) rfl
  have g_digits := He.glo_ok X G (c.fact 21 (f := .glo "digits") rfl)
  obtain ⟨fd_law_stirred, F_law_stirred⟩ := c.def_ 22 (d := d_law_stirred) rfl
  have g_law_stirred := He.glo_ok X G (c.fact 22 (f := .glo "_law_stirred") rfl)
  obtain ⟨fd_law_spool_of, F_law_spool_of⟩ := c.def_ 23 (d := d_law_spool_of) rfl
  have g_law_spool_of := He.glo_ok X G (c.fact 23 (f := .glo "_law_spool_of") rfl)
  obtain ⟨fd_law_upto, F_law_upto⟩ := c.def_ 24 (d := d_law_upto) rfl
  have g_law_upto := He.glo_ok X G (c.fact 24 (f := .glo "_law_upto") rfl)
  obtain ⟨fd_law_choice, F_law_choice⟩ := c.def_ 25 (d := d_law_choice) rfl
  have g_law_choice := He.glo_ok X G (c.fact 25 (f := .glo "_law_choice") rfl)
  obtain ⟨fd_law_common, F_law_common⟩ := c.def_ 26 (d := d_law_common) rfl
  have g_law_common := He.glo_ok X G (c.fact 26 (f := .glo "_law_common") rfl)
  obtain ⟨fd_law_square_root, F_law_square_root⟩ := c.def_ 27 (d := d_law_square_root) rfl
  have g_law_square_root := He.glo_ok X G (c.fact 27 (f := .glo "_law_square_root") rfl)
  obtain ⟨fd_law_lowest, F_law_lowest⟩ := c.def_ 28 (d := d_law_lowest) rfl
  have g_law_lowest := He.glo_ok X G (c.fact 28 (f := .glo "_law_lowest") rfl)
  obtain ⟨fd_law_add, F_law_add⟩ := c.def_ 29 (d := d_law_add) rfl
  have g_law_add := He.glo_ok X G (c.fact 29 (f := .glo "_law_add") rfl)
  obtain ⟨fd_law_negative, F_law_negative⟩ := c.def_ 30 (d := d_law_negative) rfl
  have g_law_negative := He.glo_ok X G (c.fact 30 (f := .glo "_law_negative") rfl)
  obtain ⟨fd_law_multiply, F_law_multiply⟩ := c.def_ 31 (d := d_law_multiply) rfl
  have g_law_multiply := He.glo_ok X G (c.fact 31 (f := .glo "_law_multiply") rfl)
  obtain ⟨fd_law_inverse, F_law_inverse⟩ := c.def_ 32 (d := d_law_inverse) rfl
  have g_law_inverse := He.glo_ok X G (c.fact 32 (f := .glo "_law_inverse") rfl)
  obtain ⟨fd_law_scaled, F_law_scaled⟩ := c.def_ 33 (d := d_law_scaled) rfl
  have g_law_scaled := He.glo_ok X G (c.fact 33 (f := .glo "_law_scaled") rfl)
  obtain ⟨fd_law_sign_of, F_law_sign_of⟩ := c.def_ 34 (d := d_law_sign_of) rfl
  have g_law_sign_of := He.glo_ok X G (c.fact 34 (f := .glo "_law_sign_of") rfl)
  obtain ⟨fd_law_whole_part, F_law_whole_part⟩ := c.def_ 35 (d := d_law_whole_part) rfl
  have g_law_whole_part := He.glo_ok X G (c.fact 35 (f := .glo "_law_whole_part") rfl)
  obtain ⟨fd_law_drawn, F_law_drawn⟩ := c.def_ 36 (d := d_law_drawn) rfl
  have g_law_drawn := He.glo_ok X G (c.fact 36 (f := .glo "_law_drawn") rfl)
  obtain ⟨fd_law_drawn_ratio, F_law_drawn_ratio⟩ := c.def_ 37 (d := d_law_drawn_ratio) rfl
  have g_law_drawn_ratio := He.glo_ok X G (c.fact 37 (f := .glo "_law_drawn_ratio") rfl)
  obtain ⟨fd_law_rooted_ratio, F_law_rooted_ratio⟩ := c.def_ 38 (d := d_law_rooted_ratio) rfl
  have g_law_rooted_ratio := He.glo_ok X G (c.fact 38 (f := .glo "_law_rooted_ratio") rfl)
  obtain ⟨fd_law_exchanged, F_law_exchanged⟩ := c.def_ 39 (d := d_law_exchanged) rfl
  have g_law_exchanged := He.glo_ok X G (c.fact 39 (f := .glo "_law_exchanged") rfl)
  obtain ⟨fd_law_rooted_right, F_law_rooted_right⟩ := c.def_ 40 (d := d_law_rooted_right) rfl
  have g_law_rooted_right := He.glo_ok X G (c.fact 40 (f := .glo "_law_rooted_right") rfl)
  obtain ⟨fd_law, F_law⟩ := c.def_ 41 (d := d_law) rfl
  have g_law := He.glo_ok X G (c.fact 41 (f := .glo "law") rfl)
  have m_max := He.free_ok X G (c.fact 42 (f := .free "max") rfl)
  have m_range := He.free_ok X G (c.fact 43 (f := .free "range") rfl)
  have m_len := He.free_ok X G (c.fact 44 (f := .free "len") rfl)
  have m_abs := He.free_ok X G (c.fact 45 (f := .free "abs") rfl)
  have m_tuple := He.free_ok X G (c.fact 46 (f := .free "tuple") rfl)
  have m_reversed := He.free_ok X G (c.fact 47 (f := .free "reversed") rfl)
  have m_divmod := He.free_ok X G (c.fact 48 (f := .free "divmod") rfl)
  have m_enumerate := He.free_ok X G (c.fact 49 (f := .free "enumerate") rfl)
  have m_sum := He.free_ok X G (c.fact 50 (f := .free "sum") rfl)
  have m_zip := He.free_ok X G (c.fact 51 (f := .free "zip") rfl)
  obtain ⟨t_LONGEST, g_LONGEST⟩ := He.int_ok X G (c.fact 52 (f := .int "LONGEST" 2000) rfl)
  unfold exB at cx
  simp only [Bool.and_eq_true] at cx
  obtain ⟨x0, x1⟩ := cx
  have m_gcd := blt_ok X G x0
  have m_isqrt := blt_ok X G x1
  have e := hfa.symm.trans g_law
  cases e
  have b := L2.FunD.bindsA (ps := ["script"]) F_law fun _ _ _ _ _ _ us hl => match us, hl with | [_], _ => rfl
  refine ⟨fd_law, fun s v => b s [v] rfl, fun base _ _ => ?_⟩
  have D_lowest : DefOk P w K mg base 1 "lowest" ["p", "q", "d", "s"] (spP K m_lowest) := def_ok (st := st_lowest) F_lowest g_lowest (FD.FnG.toP (ok0_lowest F_lowest m_gcd) t_lowest) fun _ _ _ _ _ _ us hl => match us, hl with | [_, _, _, _], _ => rfl
  have D_floor : DefOk P w K mg base 1 "floor" ["one"] (spP K m_floor) := def_ok (st := st_floor) F_floor g_floor (FD.FnG.toP (ok0_floor F_floor m_isqrt) t_floor) fun _ _ _ _ _ _ us hl => match us, hl with | [_], _ => rfl
  have D_opposite : DefOk P w K mg base 1 "opposite" ["one"] (spP K m_opposite) := def_ok (st := st_opposite) F_opposite g_opposite (FD.FnG.toP (ok0_opposite F_opposite ) t_opposite) fun _ _ _ _ _ _ us hl => match us, hl with | [_], _ => rfl
  have D_common_root : DefOk P w K mg base 1 "common_root" ["first", "second"] (spP K m_common_root) := def_ok (st := st_common_root) F_common_root g_common_root (FD.FnG.toP (ok0_common_root F_common_root m_max) t_common_root) fun _ _ _ _ _ _ us hl => match us, hl with | [_, _], _ => rfl
  have D_fraction_quotients : DefOk P w K mg base 1 "fraction_quotients" ["ratio", "count"] (spP K m_fraction_quotients) := def_ok (st := st_fraction_quotients) F_fraction_quotients g_fraction_quotients (FD.FnG.toP (ok0_fraction_quotients F_fraction_quotients m_len) t_fraction_quotients) fun _ _ _ _ _ _ us hl => match us, hl with | [_, _], _ => rfl
  have D_surd_of : DefOk P w K mg base 1 "surd_of" ["ratio"] (spP K m_surd_of) := def_ok (st := st_surd_of) F_surd_of g_surd_of (FD.FnG.toP (ok0_surd_of F_surd_of m_abs m_isqrt) t_surd_of) fun _ _ _ _ _ _ us hl => match us, hl with | [_], _ => rfl
  have D_surd_step : DefOk P w K mg base 1 "surd_step" ["state", "floor_root"] (spP K m_surd_step) := def_ok (st := st_surd_step) F_surd_step g_surd_step (FD.FnG.toP (ok0_surd_step F_surd_step ) t_surd_step) fun _ _ _ _ _ _ us hl => match us, hl with | [_, _], _ => rfl
  have D_whole : DefOk P w K mg base 1 "whole" ["n"] (spP K m_whole) := def_ok (st := st_whole) F_whole g_whole (FD.FnG.toP (ok0_whole F_whole ) t_whole) fun _ _ _ _ _ _ us hl => match us, hl with | [_], _ => rfl
  have D_fractions_of : DefOk P w K mg base 1 "fractions_of" ["row"] (spP K m_fractions_of) := def_ok (st := st_fractions_of) F_fractions_of g_fractions_of (FD.FnG.toP (ok0_fractions_of F_fractions_of ) t_fractions_of) fun _ _ _ _ _ _ us hl => match us, hl with | [_], _ => rfl
  have D_law_stirred : DefOk P w K mg base 1 "_law_stirred" ["cell", "place"] (spP K m_law_stirred) := def_ok (st := st_law_stirred) F_law_stirred g_law_stirred (FD.FnG.toP (ok0_law_stirred F_law_stirred m_range) t_law_stirred) fun _ _ _ _ _ _ us hl => match us, hl with | [_, _], _ => rfl
  have D_law_spool_of : DefOk P w K mg base 1 "_law_spool_of" ["script"] (spN K mN_law_spool_of) := def_ok (st := st_law_spool_of) F_law_spool_of g_law_spool_of ((ok0_law_spool_of F_law_spool_of m_abs m_enumerate).imp t_law_spool_of) fun _ _ _ _ _ _ us hl => match us, hl with | [_], _ => rfl
  have D_law_common : DefOk P w K mg base 1 "_law_common" ["one", "other"] (spP K m_law_common) := def_ok (st := st_law_common) F_law_common g_law_common (FD.FnG.toP (ok0_law_common F_law_common m_abs) t_law_common) fun _ _ _ _ _ _ us hl => match us, hl with | [_, _], _ => rfl
  have D_law_square_root : DefOk P w K mg base 1 "_law_square_root" ["value"] (spP K m_law_square_root) := def_ok (st := st_law_square_root) F_law_square_root g_law_square_root (FD.FnG.toP (ok0_law_square_root F_law_square_root ) t_law_square_root) fun _ _ _ _ _ _ us hl => match us, hl with | [_], _ => rfl
  have D_law_negative : DefOk P w K mg base 1 "_law_negative" ["one"] (spP K m_law_negative) := def_ok (st := st_law_negative) F_law_negative g_law_negative (FD.FnG.toP (ok0_law_negative F_law_negative ) t_law_negative) fun _ _ _ _ _ _ us hl => match us, hl with | [_], _ => rfl
  have D_law_exchanged : DefOk P w K mg base 1 "_law_exchanged" ["word"] (spP K m_law_exchanged) := def_ok (st := st_law_exchanged) F_law_exchanged g_law_exchanged (FD.FnG.toP (ok0_law_exchanged F_law_exchanged ) t_law_exchanged) fun _ _ _ _ _ _ us hl => match us, hl with | [_], _ => rfl
  have D_plus : DefOk P w K mg base 2 "plus" ["first", "second"] (spP K m_plus) := def_ok (st := st_plus) F_plus g_plus (FD.FnG.toP (ok0_plus F_plus D_lowest D_common_root) t_plus) fun _ _ _ _ _ _ us hl => match us, hl with | [_, _], _ => rfl
  have D_times : DefOk P w K mg base 2 "times" ["first", "second"] (spP K m_times) := def_ok (st := st_times) F_times g_times (FD.FnG.toP (ok0_times F_times D_lowest D_common_root) t_times) fun _ _ _ _ _ _ us hl => match us, hl with | [_, _], _ => rfl
  have D_quotients : DefOk P w K mg base 2 "quotients" ["ratio", "count"] (spP K m_quotients) := def_ok (st := st_quotients) F_quotients g_quotients (FD.FnG.toP (ok0_quotients F_quotients D_surd_step D_surd_of D_fraction_quotients m_range) t_quotients) fun _ _ _ _ _ _ us hl => match us, hl with | [_, _], _ => rfl
  have D_ceiling : DefOk P w K mg base 2 "ceiling" ["one"] (spP K m_ceiling) := def_ok (st := st_ceiling) F_ceiling g_ceiling (FD.FnG.toP (ok0_ceiling F_ceiling D_floor D_opposite) t_ceiling) fun _ _ _ _ _ _ us hl => match us, hl with | [_], _ => rfl
  have D_law_upto : DefOk P w K mg base 2 "_law_upto" ["spool", "bound"] (spS K m_law_upto) := def_ok (st := st_law_upto) F_law_upto g_law_upto (FD.FnG.toS (ok0_law_upto F_law_upto D_law_stirred m_len) t_law_upto) fun _ _ _ _ _ _ us hl => match us, hl with | [_, _], _ => rfl
  have D_law_lowest : DefOk P w K mg base 2 "_law_lowest" ["p", "q", "d", "s"] (spP K m_law_lowest) := def_ok (st := st_law_lowest) F_law_lowest g_law_lowest (FD.FnG.toP (ok0_law_lowest F_law_lowest D_law_common) t_law_lowest) fun _ _ _ _ _ _ us hl => match us, hl with | [_, _, _, _], _ => rfl
  have D_law_scaled : DefOk P w K mg base 2 "_law_scaled" ["one", "places"] (spP K m_law_scaled) := def_ok (st := st_law_scaled) F_law_scaled g_law_scaled (FD.FnG.toP (ok0_law_scaled F_law_scaled D_law_square_root m_range) t_law_scaled) fun _ _ _ _ _ _ us hl => match us, hl with | [_, _], _ => rfl
  have D_over : DefOk P w K mg base 3 "over" ["first", "second"] (spP K m_over) := def_ok (st := st_over) F_over g_over (FD.FnG.toP (ok0_over F_over D_times D_lowest) t_over) fun _ _ _ _ _ _ us hl => match us, hl with | [_, _], _ => rfl
  have D_convergents : DefOk P w K mg base 3 "convergents" ["ratio", "count"] (spP K m_convergents) := def_ok (st := st_convergents) F_convergents g_convergents (FD.FnG.toP (ok0_convergents F_convergents D_fractions_of D_quotients) t_convergents) fun _ _ _ _ _ _ us hl => match us, hl with | [_, _], _ => rfl
  have D_lengths : DefOk P w K mg base 3 "lengths" ["ratio", "count"] (spP K m_lengths) := def_ok (st := st_lengths) F_lengths g_lengths (FD.FnG.toP (ok0_lengths F_lengths D_quotients) t_lengths) fun _ _ _ _ _ _ us hl => match us, hl with | [_, _], _ => rfl
  have D_law_choice : DefOk P w K mg base 3 "_law_choice" ["spool", "items"] (spS K m_law_choice) := def_ok (st := st_law_choice) F_law_choice g_law_choice (FD.FnG.toS (ok0_law_choice F_law_choice D_law_upto m_len) t_law_choice) fun _ _ _ _ _ _ us hl => match us, hl with | [_, _], _ => rfl
  have D_law_sign_of : DefOk P w K mg base 3 "_law_sign_of" ["one"] (spP K m_law_sign_of) := def_ok (st := st_law_sign_of) F_law_sign_of g_law_sign_of (FD.FnG.toP (ok0_law_sign_of F_law_sign_of D_law_scaled m_abs) t_law_sign_of) fun _ _ _ _ _ _ us hl => match us, hl with | [_], _ => rfl
  have D_counts : DefOk P w K mg base 4 "counts" ["ratio", "count"] (spP K m_counts) := def_ok (st := st_counts) F_counts g_counts (FD.FnG.toP (ok0_counts F_counts D_ceiling D_over D_plus D_whole) t_counts) fun _ _ _ _ _ _ us hl => match us, hl with | [_, _], _ => rfl
  have D_place_of : DefOk P w K mg base 4 "place_of" ["ratio", "worker", "index"] (spP K m_place_of) := def_ok (st := st_place_of) F_place_of g_place_of (FD.FnG.toP (ok0_place_of F_place_of D_ceiling D_over D_whole D_floor D_times) t_place_of) fun _ _ _ _ _ _ us hl => match us, hl with | [_, _, _], _ => rfl
  have D_standard : DefOk P w K mg base 4 "standard" ["ratio", "level"] (spP K m_standard) := def_ok (st := st_standard) F_standard g_standard (FD.FnG.toP (ok0_standard F_standard D_quotients D_lengths g_LONGEST) t_standard) fun _ _ _ _ _ _ us hl => match us, hl with | [_, _], _ => rfl
  have D_digits : DefOk P w K mg base 4 "digits" ["ratio", "count"] (spP K m_digits) := def_ok (st := st_digits) F_digits g_digits (FD.FnG.toP (ok0_digits F_digits D_lengths m_tuple m_reversed m_len m_divmod) t_digits) fun _ _ _ _ _ _ us hl => match us, hl with | [_, _], _ => rfl
  have D_law_drawn : DefOk P w K mg base 4 "_law_drawn" ["spool", "d", "size"] (spS K m_law_drawn) := def_ok (st := st_law_drawn) F_law_drawn g_law_drawn (FD.FnG.toS (ok0_law_drawn F_law_drawn D_law_lowest D_law_choice D_law_upto) t_law_drawn) fun _ _ _ _ _ _ us hl => match us, hl with | [_, _, _], _ => rfl
  have D_act_at : DefOk P w K mg base 5 "act_at" ["ratio", "place"] (spP K m_act_at) := def_ok (st := st_act_at) F_act_at g_act_at (FD.FnG.toP (ok0_act_at F_act_at D_counts) t_act_at) fun _ _ _ _ _ _ us hl => match us, hl with | [_, _], _ => rfl
  have D_acts : DefOk P w K mg base 5 "acts" ["ratio", "count"] (spP K m_acts) := def_ok (st := st_acts) F_acts g_acts (FD.FnG.toP (ok0_acts F_acts D_counts D_place_of m_range) t_acts) fun _ _ _ _ _ _ us hl => match us, hl with | [_, _], _ => rfl
  have D_law_drawn_ratio : DefOk P w K mg base 5 "_law_drawn_ratio" ["spool"] (spS K m_law_drawn_ratio) := def_ok (st := st_law_drawn_ratio) F_law_drawn_ratio g_law_drawn_ratio (FD.FnG.toS (ok0_law_drawn_ratio F_law_drawn_ratio D_law_sign_of D_law_negative D_law_drawn D_law_choice) t_law_drawn_ratio) fun _ _ _ _ _ _ us hl => match us, hl with | [_], _ => rfl
  have D_law_rooted_right : DefOk P w K mg base 6 "_law_rooted_right" ["spool", "ratio"] (spS K m_law_rooted_right) := def_ok (st := st_law_rooted_right) F_law_rooted_right g_law_rooted_right (FD.FnG.toS (ok0_law_rooted_right F_law_rooted_right D_standard D_convergents D_lengths D_digits D_counts D_law_upto D_acts D_law_exchanged D_over m_range m_sum m_zip m_len) t_law_rooted_right) fun _ _ _ _ _ _ us hl => match us, hl with | [_, _], _ => rfl
  exact ok_law F_law D_law_rooted_right D_act_at D_law_upto D_counts D_place_of D_acts D_law_drawn_ratio D_law_spool_of m_range m_enumerate
end T4
open PySem PySem.W PySem.Calls PyProof.Rows
set_option maxRecDepth 100000 in
set_option maxHeartbeats 0 in
theorem PySem.Challenge.cw_twospeeds_k24_whole_order_holds : PySem.Challenge.rw_twospeeds_k24_whole_order.Holds := by
  w_on; o_law
  refine HandSHeadRun.head_imp (r := OpenLaw.row PySem.Challenge.rw_twospeeds_k24_whole_order) (q := view (OpenLaw.row PySem.Challenge.rw_twospeeds_k24_whole_order).prog [0, 52]) (H := T4.hk) (ob := FD.obT 4 T4.faL T4.fnL T4.exB) (M := 8000) (loose := T4.loose) (d := HandSHeadRun.topDef (OpenLaw.row PySem.Challenge.rw_twospeeds_k24_whole_order).prog 52) (kwd := []) (FD.obT_eq 4 T4.faL T4.fnL T4.exB)
    T4.run (by kernel_rfl) (by kernel_rfl) (by kernel_rfl) (by rfl) (by first | assumption | decide +kernel) (by decide +kernel) ⟨rfl, rfl, rfl, rfl, rfl, by decide +kernel⟩ ?hw ?hc
  case hw => w_witness2
  case hc =>
    refine FD.walkG (l := PySem.Challenge.rw_twospeeds_k24_whole_order) (n := 63) (k := 7) (x := "script") (CX := L2.CX0) rfl (by decide) (by kernel_rfl) ⟨⟨rfl, by decide, by decide⟩, rfl⟩ ?F (fun _ _ _ _ z => z)
    intro w mg fa h Y G hmg0
    obtain ⟨K, KX, c, cx⟩ := Y
    have hmg : mg ("law" : PySem.Str) = some (.ref fa) := by
      have e : (HandSHeadRun.topDef (OpenLaw.row PySem.Challenge.rw_twospeeds_k24_whole_order).prog 52).name = ("law" : PySem.Str) := by kernel_rfl
      rw [← e]
      exact hmg0
    obtain ⟨fd, hb, hF⟩ := T4.facts (P := (PySem.Challenge.rw_twospeeds_k24_whole_order).prog) (w := w) KX G hmg c cx
    exact ⟨K, fd, FD.spLaw K, KX, hb, fun H a ns hl _ hS => ⟨a, ns, rfl, hS, hl, fun _ => rfl⟩, hF⟩
