import PyProof.Rows.All
import HandS.ForMost
import HandS.ForExc
import HandS.Wide
import HandS.Gcd
import HandS.Defaults
import HandS.RaiseMore
import HandS.HeadHook1
import HandS.TupMul
import HandS.Style
import HandS.Steps
import HandS.HeadEnd
import KE.KMathG
import KE.KStateDown
import HandS.Head0
import HandS.Head1
import HandS.Head2
import HandS.Head3
import HandS.HeadHook2
import PyProof.ReprRoads
import PyProof.Rows.ReprR
import HandS.ExcValue
import HandS.ExcOwn
import HandS.ExcIs
import KE.KExcIs
import PyProof.Rows.Digits
import HandS.FStr
import PyProof.Rows.CountFlat
import Flt.RightSqrt
import PyProof.ReprLen
import KE.KTupSum
import HandS.IsInst
import HandS.Text
import PyProof.Draws
import HandS.Conv
import HandS.Rev
import HandS.WideBits
import PyProof.StrOps2
import HandS.Zip
import PyProof.P3In
import KE.KExcSuper
import HandS.ExcInit
import HandS.ExcField
import PySem.Challenge.RW_twospeeds_k06_errors
set_option Elab.async false
set_option linter.all false
set_option maxRecDepth 100000
namespace FD
open PySem PySem.Spec PyProof.Rows L2
abbrev St := L2.St

/-- at a: an exception of this class, with this dict -/
def ExK (cls : Value) (d : Option Addr) (a : Addr) : HO := .ext fun h => ∃ (oe : Obj) (vs : Array Value), h.get? a = some oe ∧ Zc cls d oe ∧ oe.data = .fields vs
/-! ## values as data -/
inductive DV where
  | non | bl (b : Bool) | int (i : Int) | str (x : Str) | tup (ds : List DV) | lst (ds : List DV) | scr (ns : List Int) | raw (v : V) | exc (c : Str) (fs : List (Str × Int))

/-- the fields of an exception: whole numbers, in its dict -/
def XfR (G : Hp) : Option Addr → List (Str × Int) → Prop
  | none, fs => fs = []
  | some d, fs => G d = some (.xd (fs.map fun p => (p.1, V.int p.2)))

mutual
/-- the value v is the datum d in the heap G -/
def Rp (K : PySem.W.Frag) (G : Hp) (v : V) : DV → Prop
  | .non => v = .non
  | .bl b => v = .bl b
  | .int i => v = .int i
  | .str x => v = .str x
  | .tup ds => ∃ a vs, v = .ref a ∧ G a = some (.tup vs) ∧ RpL K G vs ds
  | .lst ds => ∃ a vs, v = .ref a ∧ G a = some (.lst vs) ∧ RpL K G vs ds
  | .scr ns => ∃ a, v = .ref a ∧ SqL K G a (ns.map V.int)
  | .raw u => v = u
  | .exc c fs => ∃ a d, v = .ref a ∧ G a = some (ExK (.ref (He.ga K c)) d a) ∧ XfR G d fs
def RpL (K : PySem.W.Frag) (G : Hp) (vs : List V) : List DV → Prop
  | [] => vs = []
  | d :: ds => ∃ v r, vs = v :: r ∧ Rp K G v d ∧ RpL K G r ds
end

theorem Same.tup {K : PySem.W.Frag} {H H' : Hp} {a : Addr} {xs : List V} (e : Same H H') (h : H a = some (.tup xs)) : SqT K H' a xs := .inl (.inl (e _ _ h))
section
variable {K : PySem.W.Frag} {G G' H : Hp}
mutual
theorem Rp.mono (e : Same G G') : ∀ (d : DV) (v : V), Rp K G v d → Rp K G' v d
  | .non, _, h => h
  | .bl _, _, h => h
  | .int _, _, h => h
  | .str _, _, h => h
  | .tup ds, _, h => by
    obtain ⟨a, vs, e1, h1, h2⟩ := h
    exact ⟨a, vs, e1, e _ _ h1, RpL.mono e ds vs h2⟩
  | .lst ds, _, h => by
    obtain ⟨a, vs, e1, h1, h2⟩ := h
    exact ⟨a, vs, e1, e _ _ h1, RpL.mono e ds vs h2⟩
  | .scr _, _, h => by
    obtain ⟨a, e1, h1⟩ := h
    exact ⟨a, e1, e.seq h1⟩
  | .raw _, _, h => h
  | .exc _ _, _, h => by
    obtain ⟨a, d, e1, h1, h2⟩ := h
    refine ⟨a, d, e1, e _ _ h1, ?_⟩
    cases d with
    | none => exact h2
    | some d => exact e _ _ h2
theorem RpL.mono (e : Same G G') : ∀ (ds : List DV) (vs : List V), RpL K G vs ds → RpL K G' vs ds
  | [], _, h => h
  | d :: ds, _, h => by
    obtain ⟨v, r, e1, h1, h2⟩ := h
    exact ⟨v, r, e1, Rp.mono e d v h1, RpL.mono e ds r h2⟩
end
theorem RpL.length : ∀ {ds : List DV} {vs : List V}, RpL K G vs ds → vs.length = ds.length
  | [], _, h => by
    have h' : _ = [] := h
    rw [h']; rfl
  | d :: ds, _, h => by
    obtain ⟨v, r, e1, _, h2⟩ := h
    rw [e1, List.length_cons, List.length_cons, RpL.length h2]
theorem RpL.get : ∀ {ds : List DV} {vs : List V} {i : Nat} {d : DV}, RpL K G vs ds → ds[i]? = some d → ∃ v, vs[i]? = some v ∧ Rp K G v d
  | [], _, i, d, _, e => by simp at e
  | d :: ds, _, 0, d', h, e => by
    obtain ⟨v, r, e1, h1, h2⟩ := h
    simp at e
    subst e e1
    exact ⟨v, rfl, h1⟩
  | d :: ds, _, i + 1, d', h, e => by
    obtain ⟨v, r, e1, h1, h2⟩ := h
    subst e1
    obtain ⟨w, q1, q2⟩ := RpL.get (i := i) h2 (by simpa using e)
    exact ⟨w, by simpa using q1, q2⟩
theorem RpL.get' : ∀ {ds : List DV} {vs : List V} {i : Nat} {v : V}, RpL K G vs ds → vs[i]? = some v → ∃ d, ds[i]? = some d ∧ Rp K G v d := fun {ds vs i v} h e => by
  have hl := h.length
  have hi : i < vs.length := (List.getElem?_eq_some_iff.mp e).1
  have hd : ds[i]? = some ds[i] := List.getElem?_eq_getElem (by omega)
  obtain ⟨w, q1, q2⟩ := h.get hd
  rw [e] at q1
  cases q1
  exact ⟨_, hd, q2⟩
theorem RpL.append : ∀ {ds es : List DV} {vs us : List V}, RpL K G vs ds → RpL K G us es → RpL K G (vs ++ us) (ds ++ es)
  | [], _, _, _, h, h' => by
    have e : _ = [] := h
    subst e
    exact h'
  | d :: ds, es, _, us, h, h' => by
    obtain ⟨v, r, e1, h1, h2⟩ := h
    subst e1
    exact ⟨v, r ++ us, rfl, h1, RpL.append h2 h'⟩
theorem RpL.one {v : V} {d : DV} (h : Rp K G v d) : RpL K G [v] [d] := ⟨v, [], rfl, h, rfl⟩
theorem RpL.take : ∀ {ds : List DV} {vs : List V} (n : Nat), RpL K G vs ds → RpL K G (vs.take n) (ds.take n)
  | [], _, n, h => by
    have e : _ = [] := h
    subst e
    simp
    rfl
  | d :: ds, _, 0, h => rfl
  | d :: ds, _, n + 1, h => by
    obtain ⟨v, r, e1, h1, h2⟩ := h
    subst e1
    exact ⟨v, r.take n, rfl, h1, RpL.take n h2⟩
theorem RpL.drop : ∀ {ds : List DV} {vs : List V} (n : Nat), RpL K G vs ds → RpL K G (vs.drop n) (ds.drop n)
  | [], _, n, h => by
    have e : _ = [] := h
    subst e
    simp
    rfl
  | d :: ds, _, 0, h => h
  | d :: ds, _, n + 1, h => by
    obtain ⟨v, r, e1, h1, h2⟩ := h
    subst e1
    exact RpL.drop n h2
theorem RpL.set : ∀ {ds : List DV} {vs : List V} (i : Nat) {v : V} {d : DV}, RpL K G vs ds → Rp K G v d → RpL K G (vs.set i v) (ds.set i d)
  | [], _, n, v, d, h, _ => by
    have e : _ = [] := h
    subst e
    simp
    rfl
  | d :: ds, _, 0, w, e, h, q => by
    obtain ⟨v, r, e1, h1, h2⟩ := h
    subst e1
    exact ⟨w, r, rfl, q, h2⟩
  | d :: ds, _, n + 1, w, e, h, q => by
    obtain ⟨v, r, e1, h1, h2⟩ := h
    subst e1
    exact ⟨v, _, rfl, h1, RpL.set n h2 q⟩
theorem RpL.ints : ∀ (ns : List Int), RpL K G (ns.map V.int) (ns.map DV.int)
  | [] => rfl
  | n :: ns => ⟨_, _, rfl, rfl, RpL.ints ns⟩
theorem RpL.ints' : ∀ {ns : List Int} {vs : List V}, RpL K G vs (ns.map DV.int) → vs = ns.map V.int
  | [], vs, h => h
  | n :: ns, vs, h => by
    obtain ⟨v, r, e1, h1, h2⟩ := h
    have q : v = .int n := h1
    rw [e1, q, RpL.ints' h2]
    rfl
end

/-! ## the state: the frame's slots, the spool -/
inductive SV where
  | dat (d : DV) | own (ds : List DV) | spl | dct (kvs : List (List Int × Int))
structure Spl where
  nums : List Int
  place : Int
  cell : Int
  size : Int
structure S where
  sl : List (Option SV)
  sp : Spl
/-- the entry: ghost heap, heap, the spool's address -/
structure Cn where
  G0 : Hp
  H0 : Hp
  sp : Option Addr
  W : Value → Option Addr → St → Hp → Prop
abbrev noW : Value → Option Addr → St → Hp → Prop := fun _ _ _ _ => False

def SpOk (K : PySem.W.Frag) (G H : Hp) (sp : Option Addr) (s : Spl) : Prop :=
  match sp with
  | none => True
  | some a => G a = none ∧ ∃ nb, H a = some (.lst [.ref nb, .int s.place, .int s.cell, .int s.size]) ∧ Rp K G (.ref nb) (.lst (s.nums.map DV.int))
/-- how a dict whose keys are tuples of integers stands in the heap -/
def encD (kvs : List (List Int × Int)) : List (List L2.Key × V) := kvs.map fun p => (p.1.map Sum.inl, .int p.2)
def SlOk (K : PySem.W.Frag) (C : Cn) (G H : Hp) (o : Option V) : Option SV → Prop
  | none => True
  | some (.dat d) => ∃ v, o = some v ∧ Rp K G v d
  | some (.own ds) => ∃ a vs, o = some (.ref a) ∧ H a = some (.lst vs) ∧ RpL K G vs ds ∧ G a = none ∧ C.H0 a = none ∧ C.sp ≠ some a
  | some .spl => ∃ a, C.sp = some a ∧ o = some (.ref a)
  | some (.dct kvs) => ∃ a, o = some (.ref a) ∧ H a = some (.dT (encD kvs)) ∧ G a = none ∧ C.H0 a = none ∧ C.sp ≠ some a

structure Ab (K : PySem.W.Frag) (C : Cn) (G H : Hp) (σ : List (Option V)) (s : S) : Prop where
  gh : Same G H
  fr : ∀ b o, C.H0 b = some o → C.sp ≠ some b → H b = some o
  g0 : Same C.G0 G
  gn : ∀ b, C.H0 b ≠ none → G b = C.G0 b
  len : σ.length = s.sl.length
  sl : ∀ (i : Nat) v x, σ[i]? = some v → s.sl[i]? = some x → SlOk K C G H v x
  dis : ∀ (i j : Nat) a ds es, i ≠ j → s.sl[i]? = some (some (.own ds)) → s.sl[j]? = some (some (.own es)) → σ[i]? = some (some (.ref a)) → σ[j]? ≠ some (some (.ref a))
  spk : SpOk K G H C.sp s.sp

section
variable {K : PySem.W.Frag} {C : Cn} {G H G' H' : Hp} {σ : List (Option V)} {s : S}
theorem Ab.h0 (A : Ab K C G H σ s) {b : Addr} (h : C.H0 b ≠ none) : H b ≠ none := by
  by_cases e : C.sp = some b
  · have q := A.spk
    unfold SpOk at q
    rw [e] at q
    obtain ⟨_, nb, q1, _⟩ := q
    rw [q1]
    exact fun z => nomatch z
  · cases z : C.H0 b with
    | none => exact absurd z h
    | some o => rw [A.fr b o z e]; exact fun z => nomatch z
theorem Ab.slot (A : Ab K C G H σ s) {i : Nat} {x : Option SV} (h : s.sl[i]? = some x) : ∃ v, σ[i]? = some v ∧ SlOk K C G H v x := by
  have hi : i < s.sl.length := (List.getElem?_eq_some_iff.mp h).1
  have hi' : i < σ.length := by rw [A.len]; exact hi
  have hs : σ[i]? = some σ[i] := List.getElem?_eq_getElem hi'
  exact ⟨_, hs, A.sl i _ x hs h⟩
/-- the heaps grow: what was tracked stays (but the spool, which stays as said), the ghost grows by new things -/
structure Fw (G H G' H' : Hp) (sp : Option Addr) : Prop where
  g : Same G G'
  gh : Same G' H'
  h : ∀ b o, H b = some o → sp ≠ some b → H' b = some o
  n : ∀ b, H b ≠ none → G' b = G b
theorem SlOk.fw {v : Option V} {x : Option SV} (F : Fw G H G' H' C.sp) (h : SlOk K C G H v x) : SlOk K C G' H' v x := by
  match x, h with
  | none, h => trivial
  | some (.dat d), h =>
    obtain ⟨v, e, r⟩ := h
    exact ⟨v, e, Rp.mono F.g d v r⟩
  | some (.own ds), h =>
    obtain ⟨a, vs, e, h1, h2, h3, h4, h5⟩ := h
    exact ⟨a, vs, e, F.h _ _ h1 h5, RpL.mono F.g ds vs h2, by rw [F.n a (by rw [h1]; exact fun z => nomatch z)]; exact h3, h4, h5⟩
  | some .spl, h => exact h
  | some (.dct kvs), h =>
    obtain ⟨a, e, h1, h3, h4, h5⟩ := h
    exact ⟨a, e, F.h _ _ h1 h5, by rw [F.n a (by rw [h1]; exact fun z => nomatch z)]; exact h3, h4, h5⟩
theorem Ab.fw (A : Ab K C G H σ s) (F : Fw G H G' H' C.sp) {sp' : Spl} (k : SpOk K G' H' C.sp sp') : Ab K C G' H' σ { s with sp := sp' } where
  gh := F.gh
  fr := fun b o e n => F.h b o (A.fr b o e n) n
  g0 := A.g0.trans F.g
  gn := fun b e => by rw [F.n b (A.h0 e), A.gn b e]
  len := A.len
  sl := fun i v x e1 e2 => (A.sl i v x e1 e2).fw F
  dis := A.dis
  spk := k
/-- the same where the spool's cell stays too -/
theorem Fw.none_any (F : Fw G H G' H' none) (sp : Option Addr) : Fw G H G' H' sp := ⟨F.g, F.gh, fun b o e _ => F.h b o e (fun z => nomatch z), F.n⟩
theorem SpOk.fw {sp : Option Addr} {t : Spl} (F : Fw G H G' H' none) (k : SpOk K G H sp t) : SpOk K G' H' sp t := by
  unfold SpOk at *
  cases sp with
  | none => trivial
  | some a =>
    obtain ⟨h1, nb, h2, h3⟩ := k
    exact ⟨by rw [F.n a (by rw [h2]; exact fun z => nomatch z)]; exact h1, nb, F.h _ _ h2 (fun z => nomatch z), Rp.mono F.g _ _ h3⟩
theorem Ab.fw0 (A : Ab K C G H σ s) (F : Fw G H G' H' none) : Ab K C G' H' σ s := A.fw (F.none_any _) (A.spk.fw F)
/-- a new object that joins the data -/
theorem Fw.add (A : Same G H) {p : Addr} {o : HO} (hp : H p = none) : Fw G H (upd G p o) (upd H p o) none where
  g := fun b u e => by rw [upd_ne (fun z => by rw [z] at e; rw [A _ _ e] at hp; cases hp)]; exact e
  gh := fun b u e => by
    by_cases z : b = p
    · rw [z, upd_same] at e ⊢
      exact e
    · rw [upd_ne z] at e ⊢
      exact A _ _ e
  h := fun b u e _ => by rw [upd_ne (fun z => by rw [z, hp] at e; cases e)]; exact e
  n := fun b e => upd_ne (fun z => e (by rw [z]; exact hp))
/-- a new object that is left outside -/
theorem Fw.lay (A : Same G H) {p : Addr} {o : HO} (hp : H p = none) : Fw G H G (upd H p o) none where
  g := Same.refl G
  gh := fun b u e => by rw [upd_ne (fun z => by rw [z] at e; rw [A _ _ e] at hp; cases hp)]; exact A _ _ e
  h := fun b u e _ => by rw [upd_ne (fun z => by rw [z, hp] at e; cases e)]; exact e
  n := fun b e => rfl
theorem Fw.refl (A : Same G H) : Fw G H G H none := ⟨Same.refl _, A, fun _ _ e _ => e, fun _ _ => rfl⟩
/-- an owned list joins the data -/
theorem Ab.freeze (A : Ab K C G H σ s) {i : Nat} {ds : List DV} (h : s.sl[i]? = some (some (.own ds))) :
    ∃ a vs, σ[i]? = some (some (.ref a)) ∧ Ab K C (upd G a (.lst vs)) H σ { s with sl := s.sl.set i (some (.dat (.lst ds))) } ∧ Rp K (upd G a (.lst vs)) (.ref a) (.lst ds) ∧ Same G (upd G a (.lst vs)) := by
  obtain ⟨v, e1, a, vs, e2, h1, h2, h3, h4, h5⟩ := A.slot h
  subst e2
  have sg : Same G (upd G a (.lst vs)) := fun b u e => by rw [upd_ne (fun z => by rw [z, h3] at e; cases e)]; exact e
  have rp : Rp K (upd G a (.lst vs)) (.ref a) (.lst ds) := ⟨a, vs, rfl, upd_same, RpL.mono sg ds vs h2⟩
  have hi : i < s.sl.length := (List.getElem?_eq_some_iff.mp h).1
  refine ⟨a, vs, e1, ⟨fun b u e => ?_, A.fr, A.g0.trans sg, fun b e => ?_, by rw [List.length_set]; exact A.len, fun j v x q1 q2 => ?_, fun j k b es fs n q1 q2 q3 => ?_, ?_⟩, rp, sg⟩
  · by_cases z : b = a
    · rw [z, upd_same] at e
      rw [z, ← e]
      exact h1
    · rw [upd_ne z] at e
      exact A.gh _ _ e
  · rw [upd_ne (fun z => e (by rw [z]; exact h4)), A.gn b e]
  · rw [List.getElem?_set] at q2
    by_cases z : i = j
    · subst z
      rw [if_pos rfl, if_pos hi] at q2
      cases q2
      rw [e1] at q1
      cases q1
      exact ⟨_, rfl, rp⟩
    · rw [if_neg z] at q2
      have r := A.sl j v x q1 q2
      match x, r with
      | none, _ => trivial
      | some (.dat d), ⟨w, e, r⟩ => exact ⟨w, e, Rp.mono sg d w r⟩
      | some (.own es), ⟨b, us, e, r1, r2, r3, r4, r5⟩ =>
        subst e
        have nb : b ≠ a := fun zz => A.dis i j a ds es z h q2 e1 (by rw [q1, zz])
        exact ⟨b, us, rfl, r1, RpL.mono sg es us r2, by rw [upd_ne nb]; exact r3, r4, r5⟩
      | some .spl, r => exact r
      | some (.dct kvs), ⟨b, e, r1, r3, r4, r5⟩ =>
        have nb : b ≠ a := fun zz => by rw [zz, h1] at r1; cases r1
        exact ⟨b, e, r1, by rw [upd_ne nb]; exact r3, r4, r5⟩
  · have nj : ∀ {k : Nat} {es : List DV}, (s.sl.set i (some (.dat (.lst ds))))[k]? = some (some (.own es)) → s.sl[k]? = some (some (.own es)) := fun {k es} q => by
      rw [List.getElem?_set] at q
      by_cases z : i = k
      · rw [if_pos z] at q
        split at q
        · cases q
        · cases q
      · rw [if_neg z] at q
        exact q
    exact A.dis j k b es fs n (nj q1) (nj q2) q3
  · have k := A.spk
    unfold SpOk at *
    cases z : C.sp with
    | none => rw [z] at k; trivial
    | some c =>
      rw [z] at k
      obtain ⟨k1, nb, k2, k3⟩ := k
      exact ⟨by rw [upd_ne (fun e => h5 (by rw [z, e]))]; exact k1, nb, k2, Rp.mono sg _ _ k3⟩
/-- a slot is set to a datum -/
theorem Ab.set_dat (A : Ab K C G H σ s) {i : Nat} {v : V} {d : DV} (r : Rp K G v d) : Ab K C G H (σ.set i (some v)) { s with sl := s.sl.set i (some (.dat d)) } where
  gh := A.gh
  fr := A.fr
  g0 := A.g0
  gn := A.gn
  len := by rw [List.length_set, List.length_set]; exact A.len
  sl := fun j w x q1 q2 => by
    rw [List.getElem?_set] at q1 q2
    by_cases z : i = j
    · rw [if_pos z] at q1 q2
      split at q1
      · split at q2
        · cases q1
          cases q2
          exact ⟨v, rfl, r⟩
        · cases q2
      · cases q1
    · rw [if_neg z] at q1 q2
      exact A.sl j w x q1 q2
  dis := fun j k a ds es n q1 q2 q3 => by
    rw [List.getElem?_set] at q1 q2 q3
    rw [List.getElem?_set]
    by_cases z1 : i = j
    · rw [if_pos z1] at q1
      split at q1 <;> cases q1
    · by_cases z2 : i = k
      · rw [if_pos z2] at q2
        split at q2 <;> cases q2
      · rw [if_neg z1] at q1 q3
        rw [if_neg z2] at q2 ⊢
        exact A.dis j k a ds es n q1 q2 q3
  spk := A.spk
/-- a slot is set to a new list of the frame's own -/
theorem Ab.set_own (A : Ab K C G H σ s) {i : Nat} {p : Addr} {vs : List V} {ds : List DV} (hp : H p = some (.lst vs)) (r : RpL K G vs ds) (hg : G p = none) (h0 : C.H0 p = none) (hs : C.sp ≠ some p)
    (no : ∀ (j : Nat) es, s.sl[j]? = some (some (.own es)) → σ[j]? ≠ some (some (.ref p))) : Ab K C G H (σ.set i (some (.ref p))) { s with sl := s.sl.set i (some (.own ds)) } where
  gh := A.gh
  fr := A.fr
  g0 := A.g0
  gn := A.gn
  len := by rw [List.length_set, List.length_set]; exact A.len
  sl := fun j w x q1 q2 => by
    rw [List.getElem?_set] at q1 q2
    by_cases z : i = j
    · rw [if_pos z] at q1 q2
      split at q1
      · split at q2
        · cases q1
          cases q2
          exact ⟨p, vs, rfl, hp, r, hg, h0, hs⟩
        · cases q2
      · cases q1
    · rw [if_neg z] at q1 q2
      exact A.sl j w x q1 q2
  dis := fun j k a fs es n q1 q2 q3 => by
    rw [List.getElem?_set] at q1 q2 q3
    rw [List.getElem?_set]
    by_cases z1 : i = j
    · have z2 : i ≠ k := fun z => n (z1.symm.trans z)
      rw [if_pos z1] at q3
      rw [if_neg z2] at q2 ⊢
      split at q3
      · cases q3
        exact no k es q2
      · cases q3
    · rw [if_neg z1] at q1 q3
      by_cases z2 : i = k
      · rw [if_pos z2]
        split
        · intro e
          cases e
          exact no j fs q1 q3
        · exact fun e => nomatch e
      · rw [if_neg z2] at q2 ⊢
        exact A.dis j k a fs es n q1 q2 q3
  spk := A.spk
/-- the list that a slot owns is written anew -/
theorem Ab.put_own (A : Ab K C G H σ s) {i : Nat} {a : Addr} {ds es : List DV} {us : List V} (h : s.sl[i]? = some (some (.own ds))) (e : σ[i]? = some (some (.ref a))) (r : RpL K G us es) :
    Ab K C G (upd H a (.lst us)) σ { s with sl := s.sl.set i (some (.own es)) } := by
  obtain ⟨v, e1, a', vs, e2, h1, h2, h3, h4, h5⟩ := A.slot h
  subst e2
  rw [e] at e1
  cases e1
  have hi : i < s.sl.length := (List.getElem?_eq_some_iff.mp h).1
  have nj : ∀ {k : Nat} {fs : List DV}, (s.sl.set i (some (.own es)))[k]? = some (some (.own fs)) → ∃ fs', s.sl[k]? = some (some (.own fs')) := fun {k fs} q => by
    rw [List.getElem?_set] at q
    by_cases z : i = k
    · exact ⟨ds, z ▸ h⟩
    · rw [if_neg z] at q
      exact ⟨fs, q⟩
  refine ⟨fun b u q => ?_, fun b o q n => ?_, A.g0, A.gn, by rw [List.length_set]; exact A.len, fun j w x q1 q2 => ?_, fun j k b fs gs n q1 q2 q3 => ?_, ?_⟩
  · rw [upd_ne (fun z => by rw [z, h3] at q; cases q)]
    exact A.gh _ _ q
  · rw [upd_ne (fun z => by rw [z, h4] at q; cases q)]
    exact A.fr b o q n
  · rw [List.getElem?_set] at q2
    by_cases z : i = j
    · subst z
      rw [if_pos rfl, if_pos hi] at q2
      cases q2
      rw [e] at q1
      cases q1
      exact ⟨a, us, rfl, upd_same, r, h3, h4, h5⟩
    · rw [if_neg z] at q2
      have rr := A.sl j w x q1 q2
      match x, rr with
      | none, _ => trivial
      | some (.dat d), rr => exact rr
      | some (.own gs), ⟨b, ws, eb, r1, r2, r3, r4, r5⟩ =>
        subst eb
        have nb : b ≠ a := fun zz => A.dis i j a ds gs z h q2 e (by rw [q1, zz])
        exact ⟨b, ws, rfl, by rw [upd_ne nb]; exact r1, r2, r3, r4, r5⟩
      | some .spl, rr => exact rr
      | some (.dct kvs), ⟨b, e, r1, r3, r4, r5⟩ =>
        have nb : b ≠ a := fun zz => by rw [zz, h1] at r1; cases r1
        exact ⟨b, e, by rw [upd_ne nb]; exact r1, r3, r4, r5⟩
  · obtain ⟨fs', q1'⟩ := nj q1
    obtain ⟨gs', q2'⟩ := nj q2
    exact A.dis j k b fs' gs' n q1' q2' q3
  · have k := A.spk
    unfold SpOk at *
    cases z : C.sp with
    | none => rw [z] at k; trivial
    | some c =>
      rw [z] at k
      obtain ⟨k1, nb, k2, k3⟩ := k
      exact ⟨k1, nb, by rw [upd_ne (fun e => h5 (by rw [z, e]))]; exact k2, k3⟩
/-- the spool is written -/
theorem Ab.put_spl (A : Ab K C G H σ s) {a nb : Addr} {t : Spl} (hs : C.sp = some a) (hn : Rp K G (.ref nb) (.lst (t.nums.map DV.int))) : Ab K C G (upd H a (.lst [.ref nb, .int t.place, .int t.cell, .int t.size])) σ { s with sp := t } := by
  have k := A.spk
  unfold SpOk at k
  rw [hs] at k
  obtain ⟨k1, nb', k2, k3⟩ := k
  refine ⟨fun b u q => ?_, fun b o q n => ?_, A.g0, A.gn, A.len, fun j w x q1 q2 => ?_, A.dis, ?_⟩
  · rw [upd_ne (fun z => by rw [z, k1] at q; cases q)]
    exact A.gh _ _ q
  · rw [upd_ne (fun z => n (by rw [z, hs]))]
    exact A.fr b o q n
  · have rr := A.sl j w x q1 q2
    match x, rr with
    | none, _ => trivial
    | some (.dat d), rr => exact rr
    | some (.own gs), ⟨b, ws, eb, r1, r2, r3, r4, r5⟩ => exact ⟨b, ws, eb, by rw [upd_ne (fun z => r5 (by rw [hs, z]))]; exact r1, r2, r3, r4, r5⟩
    | some .spl, rr => exact rr
    | some (.dct kvs), ⟨b, e, r1, r3, r4, r5⟩ => exact ⟨b, e, by rw [upd_ne (fun z => r5 (by rw [hs, z]))]; exact r1, r3, r4, r5⟩
  · show SpOk K G _ C.sp t
    unfold SpOk
    rw [hs]
    exact ⟨k1, nb, upd_same, hn⟩
end
end FD

set_option maxRecDepth 100000
namespace FD
open PySem PySem.Spec PyProof.Rows L2

/-! ## readings as functions -/
abbrev EF := S → Option (DV × S)
abbrev TF := S → Option (Bool × S)
abbrev AF := S → Option (List DV × S)
def EvE (K : PySem.W.Frag) (C : Cn) (te : TE) (f : EF) : Prop := ∀ G H σ s d s', Ab K C G H σ s → f s = some (d, s') →
  ∀ Q : VK, (∀ v H' G', Same G G' → Ab K C G' H' σ s' → Rp K G' v d → Q v H') → te σ H Q
def EvT (K : PySem.W.Frag) (C : Cn) (tt : TT) (f : TF) : Prop := ∀ G H σ s b s', Ab K C G H σ s → f s = some (b, s') →
  ∀ Q : Bool → Hp → Prop, (∀ H' G', Same G G' → Ab K C G' H' σ s' → Q b H') → tt σ H Q
def EvA (K : PySem.W.Frag) (C : Cn) (ta : TA) (f : AF) : Prop := ∀ G H σ s ds s', Ab K C G H σ s → f s = some (ds, s') →
  ∀ Q : List V → Hp → Prop, (∀ vs H' G', Same G G' → Ab K C G' H' σ s' → RpL K G' vs ds → Q vs H') → ta σ H Q
/-- an expression, a test, an argument list of the frame X, as functions of the state -/
def FE (X : Cx) (C : Cn) (e : Expr) (f : EF) : Prop := ∃ te, PE X e te ∧ EvE X.K C te f
def FT (X : Cx) (C : Cn) (e : Expr) (f : TF) : Prop := ∃ tt, PT X e tt ∧ EvT X.K C tt f
def FW (X : Cx) (C : Cn) (e : Expr) (f : TF) : Prop := ∃ tt, PW X e tt ∧ EvT X.K C tt f
def FA (X : Cx) (C : Cn) (es : List Expr) (f : AF) : Prop := ∃ ta, PA X es ta ∧ EvA X.K C ta f

section
variable {X : Cx} {C : Cn} {e a b c : Expr} {es : List Expr} {pos : Pos}

/-! ### constants, names -/
def eC (d : DV) : EF := fun s => some (d, s)
theorem evC {K : PySem.W.Frag} {v : V} {d : DV} (r : ∀ G, Rp K G v d) : EvE K C (tC v) (eC d) := by
  intro G H σ s d' s' A h Q q
  cases h
  exact q v H G (Same.refl _) A (r G)
theorem fe_int {i j} : FE X C (.Constant (.int i) j pos) (eC (.int i)) := ⟨_, pe_int, evC fun _ => rfl⟩
theorem fe_bl {i j} : FE X C (.Constant (.bool i) j pos) (eC (.bl i)) := ⟨_, pe_bl, evC fun _ => rfl⟩
theorem fe_non {j} : FE X C (.Constant .none j pos) (eC .non) := ⟨_, pe_non, evC fun _ => rfl⟩
theorem fe_str {x j} : FE X C (.Constant (.str x) j pos) (eC (.str x)) := ⟨_, pe_str, evC fun _ => rfl⟩
/-- the datum in a slot; a list of the frame's own joins the data -/
def eV (i : Nat) : EF := fun s => match s.sl[i]? with
  | some (some (.dat d)) => some (d, s)
  | some (some (.own ds)) => some (.lst ds, { s with sl := s.sl.set i (some (.dat (.lst ds))) })
  | _ => none
theorem evV {K : PySem.W.Frag} {i : Nat} : EvE K C (tVar i) (eV i) := by
  intro G H σ s d s' A h Q q
  unfold eV at h
  split at h
  · rename_i d' e1
    cases h
    obtain ⟨v, e2, w, e3, r⟩ := A.slot e1
    subst e3
    exact ⟨w, e2, q w H G (Same.refl _) A r⟩
  · rename_i ds e1
    cases h
    obtain ⟨a, vs, e2, A', r, sg⟩ := A.freeze e1
    exact ⟨_, e2, q _ H _ sg A' r⟩
  · cases h
theorem fv (i : Nat) {x : Str} {pos : Pos} (hN : X.N[i]? = some x := by rfl) (hv : Vis X.env.scope x := by first | exact Or.inl rfl | exact Or.inr (Or.inl rfl) | exact Or.inr (Or.inr rfl)) (hd : (x == ("__debug__" : Str)) = false := by decide)
    (hcd : (x == ("__classdict__" : Str)) = false := by decide) : FE X C (.Name x pos) (eV i) := ⟨_, pe_var hN hv hd hcd, evV⟩

/-! ### argument lists, displays -/
def aNil : AF := fun s => some ([], s)
def aCons (f : EF) (g : AF) : AF := fun s => match f s with
  | some (d, s1) => match g s1 with
    | some (ds, s2) => some (d :: ds, s2)
    | none => none
  | none => none
theorem fa_nil : FA X C [] aNil := ⟨_, pa_nil, by
  intro G H σ s ds s' A h Q q
  cases h
  exact q [] H G (Same.refl _) A rfl⟩
theorem fa_cons {f : EF} {g : AF} (h1 : FE X C e f) (h2 : FA X C es g) (hs : starEach (e :: es) X.env = (false, eval e X.env) :: starEach es X.env := by rfl) : FA X C (e :: es) (aCons f g) := by
  obtain ⟨te, p1, q1⟩ := h1
  obtain ⟨ta, p2, q2⟩ := h2
  refine ⟨_, pa_cons p1 p2 hs, ?_⟩
  intro G H σ s ds s' A h Q q
  unfold aCons at h
  split at h
  · rename_i d s1 e1
    split at h
    · rename_i ds' s2 e2
      cases h
      refine q1 G H σ s d s1 A e1 _ fun v H1 G1 g1 A1 r1 => ?_
      refine q2 G1 H1 σ s1 ds' _ A1 e2 _ fun vs H2 G2 g2 A2 r2 => ?_
      exact q (v :: vs) H2 G2 (g1.trans g2) A2 ⟨v, vs, rfl, Rp.mono g2 d v r1, r2⟩
    · cases h
  · cases h
/-- an expression whose reading is a function's -/
def eA (g : AF) (op : List DV → Option DV) : EF := fun s => match g s with
  | some (ds, s1) => match op ds with
    | some d => some (d, s1)
    | none => none
  | none => none
/-- from the arguments by values: r holds wherever the answer is the operation's -/
theorem evA_of {K : PySem.W.Frag} {ta : TA} {g : AF} {op : List DV → Option DV} {t : TE} (h : EvA K C ta g) {r : List V → Hp → VK → Prop}
    (ht : ∀ σ H Q, (ta σ H fun vs H1 => r vs H1 Q) → t σ H Q)
    (hr : ∀ G H σ s vs ds d, Ab K C G H σ s → RpL K G vs ds → op ds = some d → ∀ Q : VK, (∀ v H' G', Fw G H G' H' none → Rp K G' v d → Q v H') → r vs H Q) : EvE K C t (eA g op) := by
  intro G H σ s d s' A h' Q q
  unfold eA at h'
  split at h'
  · rename_i ds s1 e1
    split at h'
    · rename_i d' e2
      cases h'
      refine ht σ H Q (h G H σ s ds _ A e1 _ fun vs H1 G1 g1 A1 r1 => ?_)
      exact hr G1 H1 σ _ vs ds _ A1 r1 e2 Q fun v H' G' F rv => q v H' G' (g1.trans F.g) (A1.fw0 F) rv
    · cases h'
  · cases h'
def oTup : List DV → Option DV := fun ds => if ds.length ≤ sizeLine then some (.tup ds) else none
def oLst : List DV → Option DV := fun ds => if ds.length ≤ sizeLine then some (.lst ds) else none
theorem tup_ok {K : PySem.W.Frag} {G H : Hp} {σ : List (Option V)} {s : S} {vs : List V} {ds : List DV} {Q : VK} (A : Ab K C G H σ s) (r : RpL K G vs ds) (q : ∀ v H' G', Fw G H G' H' none → Rp K G' v (.tup ds) → Q v H') :
    ∀ p, H p = none → Q (.ref p) (upd H p (.tup vs)) := fun p hp => by
  have F : Fw G H (upd G p (.tup vs)) (upd H p (.tup vs)) none := Fw.add A.gh hp
  exact q _ _ _ F ⟨p, vs, rfl, upd_same, RpL.mono F.g ds vs r⟩
theorem lst_ok {K : PySem.W.Frag} {G H : Hp} {σ : List (Option V)} {s : S} {vs : List V} {ds : List DV} {Q : VK} (A : Ab K C G H σ s) (r : RpL K G vs ds) (q : ∀ v H' G', Fw G H G' H' none → Rp K G' v (.lst ds) → Q v H') :
    ∀ p, H p = none → Q (.ref p) (upd H p (.lst vs)) := fun p hp => by
  have F : Fw G H (upd G p (.lst vs)) (upd H p (.lst vs)) none := Fw.add A.gh hp
  exact q _ _ _ F ⟨p, vs, rfl, upd_same, RpL.mono F.g ds vs r⟩
theorem fe_tup {f : AF} {x1} (h : FA X C es f) : FE X C (.Tuple es x1 pos) (eA f oTup) := by
  obtain ⟨ta, p, q⟩ := h
  refine ⟨_, pe_tup p, evA_of (op := oTup) q (r := fun xs H1 Q => xs.length ≤ sizeLine ∧ ∀ p, H1 p = none → Q (.ref p) (upd H1 p (.tup xs))) (fun _ _ _ h => h) ?_⟩
  intro G H σ s vs ds d A r e Q k
  unfold oTup at e
  split at e
  · cases e
    rename_i hl
    exact ⟨by rw [r.length]; exact hl, tup_ok A r k⟩
  · cases e
theorem fe_lst {f : AF} (h : FA X C es f) : FE X C (.List es pos) (eA f oLst) := by
  obtain ⟨ta, p, q⟩ := h
  refine ⟨_, pe_lst p, evA_of (op := oLst) q (r := fun xs H1 Q => xs.length ≤ sizeLine ∧ ∀ p, H1 p = none → Q (.ref p) (upd H1 p (.lst xs))) (fun _ _ _ h => h) ?_⟩
  intro G H σ s vs ds d A r e Q k
  unfold oLst at e
  split at e
  · cases e
    rename_i hl
    exact ⟨by rw [r.length]; exact hl, lst_ok A r k⟩
  · cases e

/-! ### operators of one and two -/
def e1 (f : EF) (op : DV → Option DV) : EF := fun s => match f s with
  | some (d, s1) => match op d with
    | some z => some (z, s1)
    | none => none
  | none => none
def e2 (f g : EF) (op : DV → DV → Option DV) : EF := fun s => match f s with
  | some (d, s1) => match g s1 with
    | some (y, s2) => match op d y with
      | some z => some (z, s2)
      | none => none
    | none => none
  | none => none
/-- what an operator's rule r is worth on data -/
def Op2 (K : PySem.W.Frag) (r : R2) (op : DV → DV → Option DV) : Prop := ∀ C G H σ s x y d e z, Ab K C G H σ s → Rp K G x d → Rp K G y e → op d e = some z →
  ∀ Q : VK, (∀ v H' G', Fw G H G' H' none → Rp K G' v z → Q v H') → r x y H Q
def Op1 (K : PySem.W.Frag) (r : V → Hp → VK → Prop) (op : DV → Option DV) : Prop := ∀ C G H σ s x d z, Ab K C G H σ s → Rp K G x d → op d = some z →
  ∀ Q : VK, (∀ v H' G', Fw G H G' H' none → Rp K G' v z → Q v H') → r x H Q
theorem ev2 {K : PySem.W.Frag} {ta tb t : TE} {f g : EF} {r : R2} {op : DV → DV → Option DV} (h1 : EvE K C ta f) (h2 : EvE K C tb g) (ho : Op2 K r op) (ht : ∀ σ H Q, (ta σ H fun x H1 => tb σ H1 fun y H2 => r x y H2 Q) → t σ H Q) : EvE K C t (e2 f g op) := by
  intro G H σ s z s' A h Q q
  unfold e2 at h
  split at h
  · rename_i d s1 q1
    split at h
    · rename_i y s2 q2
      split at h
      · rename_i z' q3
        cases h
        refine ht σ H Q (h1 G H σ s d s1 A q1 _ fun v H1 G1 g1 A1 r1 => ?_)
        refine h2 G1 H1 σ s1 y _ A1 q2 _ fun u H2 G2 g2 A2 r2 => ?_
        exact ho C G2 H2 σ _ v u d y _ A2 (Rp.mono g2 d v r1) r2 q3 Q fun w H' G' F rw' => q w H' G' ((g1.trans g2).trans F.g) (A2.fw0 F) rw'
      · cases h
    · cases h
  · cases h
theorem ev1 {K : PySem.W.Frag} {ta t : TE} {f : EF} {r : V → Hp → VK → Prop} {op : DV → Option DV} (h1 : EvE K C ta f) (ho : Op1 K r op) (ht : ∀ σ H Q, (ta σ H fun x H1 => r x H1 Q) → t σ H Q) : EvE K C t (e1 f op) := by
  intro G H σ s z s' A h Q q
  unfold e1 at h
  split at h
  · rename_i d s1 q1
    split at h
    · rename_i z' q3
      cases h
      refine ht σ H Q (h1 G H σ s d _ A q1 _ fun v H1 G1 g1 A1 r1 => ?_)
      exact ho C G1 H1 σ _ v d _ A1 r1 q3 Q fun w H' G' F rw' => q w H' G' (g1.trans F.g) (A1.fw0 F) rw'
    · cases h
  · cases h
theorem fe_op {r : R2} {op : DV → DV → Option DV} {o : Operator} {f g : EF} (hr : OpR X (binaryOp o) r) (ho : Op2 X.K r op) (h1 : FE X C a f) (h2 : FE X C b g) : FE X C (.BinOp a o b pos) (e2 f g op) := by
  obtain ⟨ta, p1, q1⟩ := h1
  obtain ⟨tb, p2, q2⟩ := h2
  exact ⟨_, pe_op hr p1 p2, ev2 q1 q2 ho fun _ _ _ h => h⟩
theorem fe_un {r : V → Hp → VK → Prop} {op : DV → Option DV} {o : UnaryOp} {f : EF} (hr : UnR X (unaryOp o) r) (ho : Op1 X.K r op) (h1 : FE X C a f) (hn : PE X a = PE X a := rfl) (mk : ∀ {ta}, PE X a ta → PE X (.UnaryOp o a pos) (tUn r ta)) : FE X C (.UnaryOp o a pos) (e1 f op) := by
  obtain ⟨ta, p1, q1⟩ := h1
  exact ⟨_, mk p1, ev1 q1 ho fun _ _ _ h => h⟩
theorem fe_cmp {r : R2} {op : DV → DV → Option DV} {o : CmpOp} {f g : EF} (hr : OpR X (compareOp o) r) (ho : Op2 X.K r op) (h1 : FE X C a f) (h2 : FE X C b g) (hm : behindInMarks o b = false := by first | exact nomark _ | rfl) : FE X C (.Compare a [o] [b] pos) (e2 f g op) := by
  obtain ⟨ta, p1, q1⟩ := h1
  obtain ⟨tb, p2, q2⟩ := h2
  exact ⟨_, pe_cmpR hr p1 p2 hm, ev2 q1 q2 ho fun _ _ _ h => h⟩
end
end FD

set_option maxRecDepth 100000
namespace FD
open PySem PySem.Spec PyProof.Rows L2

theorem OpR.or {X : Cx} {f : Value → Value → Sem Value} {r r' : R2} (h : OpR X f r) (h' : OpR X f r') : OpR X f (fun x y H Q => r x y H Q ∨ r' x y H Q) := by
  intro pins s σ H x y v u Q I rx ry q
  rcases q with q | q
  · exact h pins s σ H x y v u Q I rx ry q
  · exact h' pins s σ H x y v u Q I rx ry q
theorem CallR.or {X : Cx} {f : Value} {r r' : List V → Hp → VK → Prop} (h : CallR X f r) (h' : CallR X f r') : CallR X f (fun x H Q => r x H Q ∨ r' x H Q) := by
  intro pins s σ H x v Q I rx q
  rcases q with q | q
  · exact h pins s σ H x v Q I rx q
  · exact h' pins s σ H x v Q I rx q

/-! ## operations on data -/
def dAdd : DV → DV → Option DV
  | .int i, .int j => some (.int (i + j))
  | .str x, .str y => if x.length + y.length ≤ sizeLine then some (.str (x ++ y)) else none
  | .lst a, .lst b => if a.length + b.length ≤ sizeLine then some (.lst (a ++ b)) else none
  | .tup (a :: as), .tup b => if (a :: as).length + b.length ≤ sizeLine then some (.tup ((a :: as) ++ b)) else none
  | _, _ => none
def dSub : DV → DV → Option DV
  | .int i, .int j => some (.int (i - j))
  | _, _ => none
/-- the bits of a product are bounded -/
def fitM (i j : Int) : Bool := decide (i.natAbs.log2 + j.natAbs.log2 < 134217000)
def dMul : DV → DV → Option DV
  | .int i, .int j => if fitM i j then some (.int (i * j)) else none
  | .lst a, .int k => if decide (-(2 ^ 63) ≤ k ∧ k < 2 ^ 63 ∧ a.length * k.toNat ≤ sizeLine) then some (.lst (List.replicate k.toNat a).flatten) else none
  | _, _ => none
def dFdiv : DV → DV → Option DV
  | .int i, .int j => if decide (j ≠ 0 ∧ j.natAbs.log2 < 9000) then some (.int (i.fdiv j)) else none
  | _, _ => none
def dMod : DV → DV → Option DV
  | .int i, .int j => if decide (j ≠ 0) then some (.int (i.fmod j)) else none
  | _, _ => none
def dPow : DV → DV → Option DV
  | .int i, .int j => if decide (0 ≤ j ∧ j ≤ 1000000 ∧ i.natAbs < 2 ^ 64) then some (.int (i ^ j.toNat)) else none
  | _, _ => none
def dNeg : DV → Option DV
  | .int i => some (.int (-i))
  | _ => none
def dI (p : Int → Int → Bool) : DV → DV → Option DV
  | .int i, .int j => some (.bl (p i j))
  | _, _ => none
abbrev dLt := dI fun i j => decide (i < j)
abbrev dLe := dI fun i j => decide (i ≤ j)
abbrev dGt := dI fun i j => decide (j < i)
abbrev dGe := dI fun i j => decide (j ≤ i)
mutual
def toPy : DV → Option PyData
  | .non => some .none
  | .bl b => some (.bool b)
  | .int i => some (.int i)
  | .str x => some (.str x)
  | .tup ds => (toPyL ds).map .tuple
  | .lst ds => (toPyL ds).map .list
  | .scr ns => some (.list (ns.map .int))
  | .raw _ => none
  | .exc _ _ => none
def toPyL : List DV → Option (List PyData)
  | [] => some []
  | d :: ds => match toPy d with
    | some x => match toPyL ds with
      | some r => some (x :: r)
      | none => none
    | none => none
end
def dEq (d e : DV) : Option DV := match toPy d with
  | some x => match toPy e with
    | some y => if SeqAt.shaped x && SeqAt.shaped y then some (.bl (PyData.eqv x y)) else none
    | none => none
  | none => none
def dNe (d e : DV) : Option DV := match toPy d with
  | some x => match toPy e with
    | some y => if SeqAt.shaped x && SeqAt.shaped y then some (.bl (!PyData.eqv x y)) else none
    | none => none
  | none => none
def dIsN : DV → DV → Option DV
  | .raw _, _ => none
  | .non, .non => some (.bl true)
  | _, .non => some (.bl false)
  | _, _ => none
def dNotN : DV → DV → Option DV
  | .raw _, _ => none
  | .non, .non => some (.bl false)
  | _, .non => some (.bl true)
  | _, _ => none

section
variable {K : PySem.W.Frag} {X : Cx}
theorem CallFit {i j : Int} (h : fitM i j = true) : IntMulOk i j := by
  have b : ∀ x : Int, Builtin.Int.intBits x ≤ x.natAbs.log2 + 1 := fun x => by
    unfold Builtin.Int.intBits
    split <;> omega
  have h1 := b i
  have h2 := b j
  have h3 : i.natAbs.log2 + j.natAbs.log2 < 134217000 := of_decide_eq_true h
  have e : bitsLine = 134217728 := by decide
  unfold IntMulOk
  intro z
  rw [Bool.and_eq_true] at z
  have z2 := z.2
  unfold Builtin.Int.intTooBig at z2
  have z3 := of_decide_eq_true z2
  rw [e] at z3
  omega
theorem op_mulX : OpR X (binaryOp .Mult) (rI (fun i j => fitM i j = true) fun i j => .int (i * j)) := opI fun _ _ _ _ _ _ _ hc q => mul_int q (CallFit hc)
theorem op_fdivX : OpR X (binaryOp .FloorDiv) (rI (fun i j => j ≠ 0 ∧ j.natAbs.log2 < 9000) fun i j => .int (i.fdiv j)) := opI fun i j _ _ _ _ _ hc q => floordiv_int hc.1 q (.inl (PyProof.noPylong_of_log2 hc.2))

theorem o_int {Cd : Int → Int → Prop} {g : Int → Int → V} {op : DV → DV → Option DV} (h : ∀ d e z, op d e = some z → ∃ i j, d = .int i ∧ e = .int j ∧ Cd i j ∧ ∀ G, Rp K G (g i j) z) : Op2 K (rI Cd g) op := by
  intro C G H σ s x y d e z A r1 r2 ho Q q
  obtain ⟨i, j, rfl, rfl, c, e1⟩ := h d e z ho
  exact ⟨i, j, r1, r2, c, q _ H G (Fw.refl A.gh) (e1 G)⟩
theorem o_int0 {g : Int → Int → V} {op : DV → DV → Option DV} (h : ∀ d e z, op d e = some z → ∃ i j, d = .int i ∧ e = .int j ∧ ∀ G, Rp K G (g i j) z) : Op2 K (rI0 g) op := by
  intro C G H σ s x y d e z A r1 r2 ho Q q
  obtain ⟨i, j, rfl, rfl, e1⟩ := h d e z ho
  exact ⟨i, j, r1, r2, q _ H G (Fw.refl A.gh) (e1 G)⟩
theorem o_sub : Op2 K (rI0 fun i j => .int (i - j)) dSub := o_int0 fun d e z h => by
  unfold dSub at h
  split at h
  · cases h; exact ⟨_, _, rfl, rfl, fun _ => rfl⟩
  · cases h
theorem o_fdiv : Op2 K (rI (fun i j => j ≠ 0 ∧ j.natAbs.log2 < 9000) fun i j => .int (i.fdiv j)) dFdiv := o_int fun d e z h => by
  unfold dFdiv at h
  split at h
  · split at h
    · rename_i hd
      cases h; exact ⟨_, _, rfl, rfl, of_decide_eq_true hd, fun _ => rfl⟩
    · cases h
  · cases h
theorem o_mod : Op2 K (rI (fun _ j => j ≠ 0) fun i j => .int (i.fmod j)) dMod := o_int fun d e z h => by
  unfold dMod at h
  split at h
  · split at h
    · rename_i hd
      cases h; exact ⟨_, _, rfl, rfl, of_decide_eq_true hd, fun _ => rfl⟩
    · cases h
  · cases h
theorem o_pow : Op2 K (rI CPow fun i j => .int (i ^ j.toNat)) dPow := o_int fun d e z h => by
  unfold dPow at h
  split at h
  · split at h
    · rename_i hd
      cases h; exact ⟨_, _, rfl, rfl, (of_decide_eq_true hd : _ ∧ _ ∧ _), fun _ => rfl⟩
    · cases h
  · cases h
theorem o_cmp {p : Int → Int → Bool} : Op2 K (rI0 fun i j => .bl (p i j)) (dI p) := o_int0 fun d e z h => by
  unfold dI at h
  split at h
  · cases h; exact ⟨_, _, rfl, rfl, fun _ => rfl⟩
  · cases h
abbrev rAddX (K : PySem.W.Frag) : R2 := fun x y H Q => (rI0 (fun i j => .int (i + j)) x y H Q) ∨ (rAddS x y H Q ∨ (rCat x y H Q ∨ rCatT K x y H Q))
theorem op_addX : OpR X (binaryOp .Add) (rAddX X.K) := OpR.or op_add (OpR.or op_add_str (OpR.or op_cat op_catT))
theorem o_add : Op2 K (rAddX K) dAdd := by
  intro C G H σ s x y d e z A r1 r2 ho Q q
  unfold dAdd at ho
  split at ho
  · cases ho
    exact .inl ⟨_, _, r1, r2, q _ H G (Fw.refl A.gh) rfl⟩
  · split at ho
    · rename_i hl
      cases ho
      exact .inr (.inl ⟨_, _, r1, r2, hl, q _ H G (Fw.refl A.gh) rfl⟩)
    · cases ho
  · split at ho
    · rename_i hl
      cases ho
      obtain ⟨a, vs, e1, h1, h2⟩ := r1
      obtain ⟨b, us, e2, h3, h4⟩ := r2
      subst e1 e2
      refine .inr (.inr (.inl ⟨a, b, vs, us, rfl, rfl, A.gh _ _ h1, A.gh _ _ h3, by rw [h2.length, h4.length]; exact hl, fun p hp => ?_⟩))
      exact lst_ok A (h2.append h4) q p hp
    · cases ho
  · split at ho
    · rename_i hl
      cases ho
      obtain ⟨a, vs, e1, h1, h2⟩ := r1
      obtain ⟨b, us, e2, h3, h4⟩ := r2
      subst e1 e2
      have l1 := h2.length
      have l2 := h4.length
      refine .inr (.inr (.inr ⟨a, b, vs, us, rfl, rfl, Same.tup A.gh h1, Same.tup A.gh h3, fun z => ?_, by rw [l1, l2]; exact hl, fun z => ?_, fun z p hp => tup_ok A (h2.append h4) q p hp⟩))
      · rw [z] at l1
        simp at l1
      · subst z
        have q1 := h2.append h4
        rw [List.append_nil] at q1
        exact q _ H G (Fw.refl A.gh) ⟨a, vs, rfl, h1, q1⟩
    · cases ho
  · cases ho
abbrev rMulX : R2 := fun x y H Q => (rI (fun i j => fitM i j = true) (fun i j => .int (i * j)) x y H Q) ∨ rRep x y H Q
theorem op_mulXX : OpR X (binaryOp .Mult) rMulX := OpR.or op_mulX op_rep
theorem RpL.rep {G : Hp} {vs : List V} {ds : List DV} (h : RpL K G vs ds) : ∀ n : Nat, RpL K G (List.replicate n vs).flatten (List.replicate n ds).flatten
  | 0 => rfl
  | n + 1 => by
    rw [List.replicate_succ, List.replicate_succ, List.flatten_cons, List.flatten_cons]
    exact h.append (RpL.rep h n)
theorem o_mul : Op2 K rMulX dMul := by
  intro C G H σ s x y d e z A r1 r2 ho Q q
  unfold dMul at ho
  split at ho
  · split at ho
    · rename_i hl
      cases ho
      exact .inl ⟨_, _, r1, r2, hl, q _ H G (Fw.refl A.gh) rfl⟩
    · cases ho
  · split at ho
    · rename_i hl
      cases ho
      obtain ⟨a, vs, e1, h1, h2⟩ := r1
      have e2 : y = .int _ := r2
      subst e1 e2
      obtain ⟨l1, l2, l3⟩ := of_decide_eq_true hl
      exact .inr ⟨a, _, vs, rfl, rfl, A.gh _ _ h1, l1, l2, by rw [h2.length]; exact l3, fun p hp => lst_ok A (h2.rep _) q p hp⟩
    · cases ho
  · cases ho
mutual
theorem Rp.dp {G H : Hp} (g : Same G H) : ∀ (d : DV) (v : V) (x : PyData), Rp K G v d → toPy d = some x → Dp K H v x
  | .non, v, x, h, e => by
    cases e
    have h' : v = .non := h
    rw [h']
    exact .non
  | .bl b, v, x, h, e => by
    cases e
    have h' : v = .bl b := h
    rw [h']
    exact .bl b
  | .int b, v, x, h, e => by
    cases e
    have h' : v = .int b := h
    rw [h']
    exact .int b
  | .str b, v, x, h, e => by
    cases e
    have h' : v = .str b := h
    rw [h']
    exact .str b
  | .tup ds, v, x, h, e => by
    obtain ⟨a, vs, e1, h1, h2⟩ := h
    unfold toPy at e
    cases q : toPyL ds with
    | none => rw [q] at e; cases e
    | some xs =>
      rw [q] at e
      cases e
      rw [e1]
      exact .tup (Same.tup g h1) (RpL.dp g ds vs xs h2 q)
  | .lst ds, v, x, h, e => by
    obtain ⟨a, vs, e1, h1, h2⟩ := h
    unfold toPy at e
    cases q : toPyL ds with
    | none => rw [q] at e; cases e
    | some xs =>
      rw [q] at e
      cases e
      rw [e1]
      exact .lst (SqL.of (g _ _ h1)) (RpL.dp g ds vs xs h2 q)
  | .scr ns, v, x, h, e => by
    obtain ⟨a, e1, h1⟩ := h
    cases e
    rw [e1]
    refine .lst (g.seq h1) ?_
    clear h1 e1
    induction ns with
    | nil => exact .nil
    | cons n ns ih => exact .cons (.int n) ih
  | .raw _, _, _, _, e => by cases e
  | .exc _ _, _, _, _, e => by cases e
theorem RpL.dp {G H : Hp} (g : Same G H) : ∀ (ds : List DV) (vs : List V) (xs : List PyData), RpL K G vs ds → toPyL ds = some xs → DpAll K H vs xs
  | [], vs, xs, h, e => by
    cases e
    have h' : vs = [] := h
    rw [h']
    exact .nil
  | d :: ds, vs, xs, h, e => by
    obtain ⟨v, r, e1, h1, h2⟩ := h
    unfold toPyL at e
    split at e
    · rename_i x q1
      split at e
      · rename_i r' q2
        cases e
        rw [e1]
        exact .cons (Rp.dp g d v x h1 q1) (RpL.dp g ds r r' h2 q2)
      · cases e
    · cases e
end
theorem o_eq : Op2 K (rEqD K) dEq := by
  intro C G H σ s x y d e z A r1 r2 ho Q q
  unfold dEq at ho
  cases h1 : toPy d with
  | none => rw [h1] at ho; cases ho
  | some a =>
    rw [h1] at ho
    cases h2 : toPy e with
    | none => rw [h2] at ho; cases ho
    | some b =>
      rw [h2] at ho
      dsimp only at ho
      split at ho
      · rename_i hs
        cases ho
        rw [Bool.and_eq_true] at hs
        exact ⟨a, b, Rp.dp A.gh d x a r1 h1, Rp.dp A.gh e y b r2 h2, hs.1, hs.2, q _ H G (Fw.refl A.gh) rfl⟩
      · cases ho
theorem o_ne : Op2 K (rNeD K) dNe := by
  intro C G H σ s x y d e z A r1 r2 ho Q q
  unfold dNe at ho
  cases h1 : toPy d with
  | none => rw [h1] at ho; cases ho
  | some a =>
    rw [h1] at ho
    cases h2 : toPy e with
    | none => rw [h2] at ho; cases ho
    | some b =>
      rw [h2] at ho
      dsimp only at ho
      split at ho
      · rename_i hs
        cases ho
        rw [Bool.and_eq_true] at hs
        exact ⟨a, b, Rp.dp A.gh d x a r1 h1, Rp.dp A.gh e y b r2 h2, hs.1, hs.2, q _ H G (Fw.refl A.gh) rfl⟩
      · cases ho
theorem Rp.non_iff {G : Hp} {v : V} {d : DV} (h : Rp K G v d) (hr : ∀ u, d ≠ .raw u) : v = .non ↔ d = .non := by
  constructor
  · intro e
    subst e
    cases d with
    | non => rfl
    | raw u => exact absurd rfl (hr u)
    | tup ds => obtain ⟨a, vs, e, _⟩ := h; cases e
    | lst ds => obtain ⟨a, vs, e, _⟩ := h; cases e
    | scr ns => obtain ⟨a, e, _⟩ := h; cases e
    | exc c fs => obtain ⟨a, d, e, _⟩ := h; cases e
    | bl b => cases (show V.non = V.bl b from h)
    | int b => cases (show V.non = V.int b from h)
    | str b => cases (show V.non = V.str b from h)
  · intro e
    subst e
    exact h
theorem o_isN : Op2 K rIsN dIsN := by
  intro C G H σ s x y d e z A r1 r2 ho Q q
  unfold dIsN at ho
  split at ho
  · cases ho
  · cases ho
    exact ⟨r2, q _ H G (Fw.refl A.gh) (by rw [show x = .non from r1]; rfl)⟩
  · rename_i n1 n2
    cases ho
    have hx : x ≠ .non := fun z => n2 ((Rp.non_iff r1 (fun u z => n1 u z)).mp z)
    exact ⟨r2, q _ H G (Fw.refl A.gh) (by rw [decide_eq_false hx]; rfl)⟩
  · cases ho
theorem o_notN : Op2 K rNotN dNotN := by
  intro C G H σ s x y d e z A r1 r2 ho Q q
  unfold dNotN at ho
  split at ho
  · cases ho
  · cases ho
    exact ⟨r2, q _ H G (Fw.refl A.gh) (by rw [show x = .non from r1]; rfl)⟩
  · rename_i n1 n2
    cases ho
    have hx : x ≠ .non := fun z => n2 ((Rp.non_iff r1 (fun u z => n1 u z)).mp z)
    exact ⟨r2, q _ H G (Fw.refl A.gh) (by rw [decide_eq_false hx]; rfl)⟩
  · cases ho
end

/-! ## expressions by their operators -/
section
variable {X : Cx} {C : Cn} {e a b c : Expr} {es : List Expr} {pos : Pos} {f g h : EF}
theorem fe_add (h1 : FE X C a f) (h2 : FE X C b g) : FE X C (.BinOp a .Add b pos) (e2 f g dAdd) := fe_op op_addX o_add h1 h2
theorem fe_sub (h1 : FE X C a f) (h2 : FE X C b g) : FE X C (.BinOp a .Sub b pos) (e2 f g dSub) := fe_op op_sub o_sub h1 h2
theorem fe_mul (h1 : FE X C a f) (h2 : FE X C b g) : FE X C (.BinOp a .Mult b pos) (e2 f g dMul) := fe_op op_mulXX o_mul h1 h2
theorem fe_fdiv (h1 : FE X C a f) (h2 : FE X C b g) : FE X C (.BinOp a .FloorDiv b pos) (e2 f g dFdiv) := fe_op op_fdivX o_fdiv h1 h2
theorem fe_mod (h1 : FE X C a f) (h2 : FE X C b g) : FE X C (.BinOp a .Mod b pos) (e2 f g dMod) := fe_op op_modN o_mod h1 h2
theorem fe_pow (h1 : FE X C a f) (h2 : FE X C b g) : FE X C (.BinOp a .Pow b pos) (e2 f g dPow) := fe_op op_pow o_pow h1 h2
theorem o_neg {K : PySem.W.Frag} : Op1 K (rU fun i => .int (-i)) dNeg := by
  intro C G H σ s x d z A r1 ho Q q
  unfold dNeg at ho
  split at ho
  · cases ho
    exact ⟨_, r1, q _ H G (Fw.refl A.gh) rfl⟩
  · cases ho
theorem fe_neg (h1 : FE X C a f) : FE X C (.UnaryOp .USub a pos) (e1 f dNeg) := by
  obtain ⟨ta, p1, q1⟩ := h1
  exact ⟨_, pe_un un_neg p1, ev1 q1 o_neg fun _ _ _ h => h⟩
theorem fe_lt (h1 : FE X C a f) (h2 : FE X C b g) : FE X C (.Compare a [.Lt] [b] pos) (e2 f g dLt) := fe_cmp op_lt o_cmp h1 h2
theorem fe_le (h1 : FE X C a f) (h2 : FE X C b g) : FE X C (.Compare a [.LtE] [b] pos) (e2 f g dLe) := fe_cmp op_le o_cmp h1 h2
theorem fe_gt (h1 : FE X C a f) (h2 : FE X C b g) : FE X C (.Compare a [.Gt] [b] pos) (e2 f g dGt) := fe_cmp op_gt o_cmp h1 h2
theorem fe_ge (h1 : FE X C a f) (h2 : FE X C b g) : FE X C (.Compare a [.GtE] [b] pos) (e2 f g dGe) := fe_cmp op_ge o_cmp h1 h2
theorem fe_eq (hu : X.A.units + 64 < cLine) (h1 : FE X C a f) (h2 : FE X C b g) : FE X C (.Compare a [.Eq] [b] pos) (e2 f g dEq) := fe_cmp (op_eqD hu) o_eq h1 h2
theorem fe_ne (hu : X.A.units + 64 < cLine) (h1 : FE X C a f) (h2 : FE X C b g) : FE X C (.Compare a [.NotEq] [b] pos) (e2 f g dNe) := fe_cmp (op_neD hu) o_ne h1 h2
theorem fe_isN (h1 : FE X C a f) (h2 : FE X C b g) : FE X C (.Compare a [.Is] [b] pos) (e2 f g dIsN) := fe_cmp op_isN1 o_isN h1 h2
theorem fe_notN (h1 : FE X C a f) (h2 : FE X C b g) : FE X C (.Compare a [.IsNot] [b] pos) (e2 f g dNotN) := fe_cmp op_notN1 o_notN h1 h2
end
end FD

set_option maxRecDepth 100000
namespace FD
open PySem PySem.Spec PyProof.Rows L2

/-! ## tests -/
def truD : DV → Option Bool
  | .non => some false
  | .bl b => some b
  | .int i => some (i != 0)
  | .str x => if x.length ≤ sizeLine then some ((x.length : Int) != 0) else none
  | .lst ds => some (!ds.isEmpty)
  | .tup ds => some (!ds.isEmpty)
  | .scr ns => some (!ns.isEmpty)
  | .raw _ => none
  | .exc _ _ => none
/-- a value that is True or False; any value's truth -/
def tBl (f : EF) : TF := fun s => match f s with
  | some (.bl b, s1) => some (b, s1)
  | _ => none
def tTr (f : EF) : TF := fun s => match f s with
  | some (d, s1) => match truD d with
    | some b => some (b, s1)
    | none => none
  | none => none
def tAn (f g : TF) : TF := fun s => match f s with
  | some (true, s1) => g s1
  | some (false, s1) => some (false, s1)
  | none => none
def tOo (f g : TF) : TF := fun s => match f s with
  | some (true, s1) => some (true, s1)
  | some (false, s1) => g s1
  | none => none
def tNo (f : TF) : TF := fun s => match f s with
  | some (b, s1) => some (!b, s1)
  | none => none
def eIf (t : TF) (f g : EF) : EF := fun s => match t s with
  | some (true, s1) => f s1
  | some (false, s1) => g s1
  | none => none
def eAn (f g : EF) : EF := fun s => match f s with
  | some (.bl true, s1) => g s1
  | some (.bl false, s1) => some (.bl false, s1)
  | _ => none
def eOo (f g : EF) : EF := fun s => match f s with
  | some (.bl true, s1) => some (.bl true, s1)
  | some (.bl false, s1) => g s1
  | _ => none
def eNo (f : EF) : EF := fun s => match f s with
  | some (.bl b, s1) => some (.bl (!b), s1)
  | _ => none
section
variable {X : Cx} {C : Cn} {e a b c : Expr} {es : List Expr} {pos : Pos} {f g h : EF} {t u : TF}
theorem evBl {K : PySem.W.Frag} {te : TE} (q : EvE K C te f) {tt : TT} (ht : ∀ σ H Q, (te σ H fun x H' => ∃ k, x = .bl k ∧ Q k H') → tt σ H Q) : EvT K C tt (tBl f) := by
  intro G H σ s k s' A h Q k1
  unfold tBl at h
  split at h
  · rename_i k' s1 e1
    cases h
    exact ht σ H Q (q G H σ s _ _ A e1 _ fun v H' G' g1 A1 r => ⟨_, r, k1 H' G' g1 A1⟩)
  · cases h
theorem ft_cmp {r : R2} {op : DV → DV → Option DV} {o : CmpOp} (hr : OpR X (compareOp o) r) (ho : Op2 X.K r op) (h1 : FE X C a f) (h2 : FE X C b g) (hm : behindInMarks o b = false := by first | exact nomark _ | rfl) : FT X C (.Compare a [o] [b] pos) (tBl (e2 f g op)) := by
  obtain ⟨ta, p1, q1⟩ := h1
  obtain ⟨tb, p2, q2⟩ := h2
  exact ⟨_, pt_cmpR hr p1 p2 hm, evBl (ev2 (t := tOp r ta tb) q1 q2 ho fun _ _ _ h => h) fun _ _ _ h => h⟩
theorem ft_lt (h1 : FE X C a f) (h2 : FE X C b g) : FT X C (.Compare a [.Lt] [b] pos) (tBl (e2 f g dLt)) := ft_cmp op_lt o_cmp h1 h2
theorem ft_le (h1 : FE X C a f) (h2 : FE X C b g) : FT X C (.Compare a [.LtE] [b] pos) (tBl (e2 f g dLe)) := ft_cmp op_le o_cmp h1 h2
theorem ft_gt (h1 : FE X C a f) (h2 : FE X C b g) : FT X C (.Compare a [.Gt] [b] pos) (tBl (e2 f g dGt)) := ft_cmp op_gt o_cmp h1 h2
theorem ft_ge (h1 : FE X C a f) (h2 : FE X C b g) : FT X C (.Compare a [.GtE] [b] pos) (tBl (e2 f g dGe)) := ft_cmp op_ge o_cmp h1 h2
theorem ft_eq (hu : X.A.units + 64 < cLine) (h1 : FE X C a f) (h2 : FE X C b g) : FT X C (.Compare a [.Eq] [b] pos) (tBl (e2 f g dEq)) := ft_cmp (op_eqD hu) o_eq h1 h2
theorem ft_ne (hu : X.A.units + 64 < cLine) (h1 : FE X C a f) (h2 : FE X C b g) : FT X C (.Compare a [.NotEq] [b] pos) (tBl (e2 f g dNe)) := ft_cmp (op_neD hu) o_ne h1 h2
theorem ft_isN (h1 : FE X C a f) (h2 : FE X C b g) : FT X C (.Compare a [.Is] [b] pos) (tBl (e2 f g dIsN)) := ft_cmp op_isN1 o_isN h1 h2
theorem ft_notN (h1 : FE X C a f) (h2 : FE X C b g) : FT X C (.Compare a [.IsNot] [b] pos) (tBl (e2 f g dNotN)) := ft_cmp op_notN1 o_notN h1 h2
theorem tru_of {K : PySem.W.Frag} {G H : Hp} (g : Same G H) {v : V} {d : DV} {k : Bool} (r : Rp K G v d) (e : truD d = some k) : TruV K v H k := by
  cases d with
  | non => cases e; rw [show v = .non from r]; rfl
  | bl b => cases e; rw [show v = .bl _ from r]; rfl
  | int b => cases e; rw [show v = .int _ from r]; rfl
  | str x =>
    simp only [truD] at e
    split at e
    · rename_i hl
      cases e
      rw [show v = .str _ from r]
      exact ⟨hl, rfl⟩
    · cases e
  | lst ds =>
    cases e
    obtain ⟨a, vs, e1, h1, h2⟩ := r
    rw [e1]
    refine .inl ⟨vs, SqL.of (g _ _ h1), ?_⟩
    have := h2.length
    cases vs <;> cases ds <;> first | rfl | (simp at this)
  | tup ds =>
    cases e
    obtain ⟨a, vs, e1, h1, h2⟩ := r
    rw [e1]
    refine .inr (.inl ⟨vs, Same.tup g h1, ?_⟩)
    have := h2.length
    cases vs <;> cases ds <;> first | rfl | (simp at this)
  | scr ns =>
    cases e
    obtain ⟨a, e1, h1⟩ := r
    rw [e1]
    refine .inl ⟨_, g.seq h1, ?_⟩
    cases ns <;> rfl
  | raw u => cases e
  | exc c fs => cases e
theorem ft_tr (h1 : FE X C a f) (he : ∀ whole, isTrue a X.env whole = (do let v ← whole; standAt a.pos; holding [v] (truthy v)) := by intro _; rfl) : FT X C a (tTr f) := by
  obtain ⟨ta, p1, q1⟩ := h1
  refine ⟨_, pt_truth p1 he, ?_⟩
  intro G H σ s k s' A h Q k1
  unfold tTr at h
  split at h
  · rename_i d s1 e1
    split at h
    · rename_i b e2
      cases h
      exact q1 G H σ s d _ A e1 _ fun v H' G' g1 A1 r => ⟨_, tru_of A1.gh r e2, k1 H' G' g1 A1⟩
    · cases h
  · cases h
theorem FW.ft (h : FW X C e t) : FT X C e t := let ⟨tt, p, q⟩ := h; ⟨tt, p.pt, q⟩
theorem evAn {K : PySem.W.Frag} {ta tb : TT} (q1 : EvT K C ta t) (q2 : EvT K C tb u) : EvT K C (tAnd ta tb) (tAn t u) := by
  intro G H σ s k s' A h Q k1
  unfold tAn at h
  split at h
  · rename_i s1 e1
    refine q1 G H σ s _ _ A e1 _ fun H1 G1 g1 A1 => ?_
    rw [if_pos rfl]
    exact q2 G1 H1 σ _ _ _ A1 h Q fun H2 G2 g2 A2 => k1 H2 G2 (g1.trans g2) A2
  · rename_i s1 e1
    cases h
    refine q1 G H σ s _ _ A e1 _ fun H1 G1 g1 A1 => ?_
    rw [if_neg Bool.false_ne_true]
    exact k1 H1 G1 g1 A1
  · cases h
theorem evOo {K : PySem.W.Frag} {ta tb : TT} (q1 : EvT K C ta t) (q2 : EvT K C tb u) : EvT K C (tOr ta tb) (tOo t u) := by
  intro G H σ s k s' A h Q k1
  unfold tOo at h
  split at h
  · rename_i s1 e1
    cases h
    refine q1 G H σ s _ _ A e1 _ fun H1 G1 g1 A1 => ?_
    rw [if_pos rfl]
    exact k1 H1 G1 g1 A1
  · rename_i s1 e1
    refine q1 G H σ s _ _ A e1 _ fun H1 G1 g1 A1 => ?_
    rw [if_neg Bool.false_ne_true]
    exact q2 G1 H1 σ _ _ _ A1 h Q fun H2 G2 g2 A2 => k1 H2 G2 (g1.trans g2) A2
  · cases h
theorem fw_and1 (h : FT X C a t) : FW X C (.BoolOp .And [a] pos) t := let ⟨tt, p, q⟩ := h; ⟨tt, pw_and1 p, q⟩
theorem fw_or1 (h : FT X C a t) : FW X C (.BoolOp .Or [a] pos) t := let ⟨tt, p, q⟩ := h; ⟨tt, pw_or1 p, q⟩
theorem fw_and (h : FT X C a t) (h2 : FW X C (.BoolOp .And (b :: es) pos) u) : FW X C (.BoolOp .And (a :: b :: es) pos) (tAn t u) :=
  let ⟨_, p, q⟩ := h; let ⟨_, p2, q2⟩ := h2; ⟨_, pw_and p p2, evAn q q2⟩
theorem fw_or (h : FT X C a t) (h2 : FW X C (.BoolOp .Or (b :: es) pos) u) : FW X C (.BoolOp .Or (a :: b :: es) pos) (tOo t u) :=
  let ⟨_, p, q⟩ := h; let ⟨_, p2, q2⟩ := h2; ⟨_, pw_or p p2, evOo q q2⟩
theorem ft_not (h : FT X C a t) : FT X C (.UnaryOp .Not a pos) (tNo t) := by
  obtain ⟨tt, p, q⟩ := h
  refine ⟨_, pt_not p, ?_⟩
  intro G H σ s k s' A h Q k1
  unfold tNo at h
  split at h
  · rename_i b s1 e1
    cases h
    exact q G H σ s _ _ A e1 _ fun H1 G1 g1 A1 => k1 H1 G1 g1 A1
  · cases h
theorem fe_if (h : FT X C c t) (h1 : FE X C a f) (h2 : FE X C b g) : FE X C (.IfExp c a b pos) (eIf t f g) := by
  obtain ⟨tt, p, q⟩ := h
  obtain ⟨ta, p1, q1⟩ := h1
  obtain ⟨tb, p2, q2⟩ := h2
  refine ⟨_, pe_ifExp p p1 p2, ?_⟩
  intro G H σ s k s' A h Q k1
  unfold eIf at h
  split at h
  · rename_i s1 e1
    refine q G H σ s _ _ A e1 _ fun H1 G1 g1 A1 => ?_
    rw [if_pos rfl]
    exact q1 G1 H1 σ _ _ _ A1 h Q fun v H2 G2 g2 A2 r => k1 v H2 G2 (g1.trans g2) A2 r
  · rename_i s1 e1
    refine q G H σ s _ _ A e1 _ fun H1 G1 g1 A1 => ?_
    rw [if_neg Bool.false_ne_true]
    exact q2 G1 H1 σ _ _ _ A1 h Q fun v H2 G2 g2 A2 r => k1 v H2 G2 (g1.trans g2) A2 r
  · cases h
theorem fe_one {op} (h : FE X C a f) : FE X C (.BoolOp op [a] pos) f := let ⟨_, p, q⟩ := h; ⟨_, pe_one p, q⟩
theorem fe_and (h1 : FE X C a f) (h2 : FE X C (.BoolOp .And (b :: es) pos) g) : FE X C (.BoolOp .And (a :: b :: es) pos) (eAn f g) := by
  obtain ⟨ta, p1, q1⟩ := h1
  obtain ⟨tb, p2, q2⟩ := h2
  refine ⟨_, pe_and p1 p2, ?_⟩
  intro G H σ s k s' A h Q k1
  unfold eAn at h
  split at h
  · rename_i s1 e1
    refine q1 G H σ s _ _ A e1 _ fun v H1 G1 g1 A1 r => ⟨true, r, ?_⟩
    rw [if_pos rfl]
    exact q2 G1 H1 σ _ _ _ A1 h Q fun v H2 G2 g2 A2 r => k1 v H2 G2 (g1.trans g2) A2 r
  · rename_i s1 e1
    cases h
    refine q1 G H σ s _ _ A e1 _ fun v H1 G1 g1 A1 r => ⟨false, r, ?_⟩
    rw [if_neg Bool.false_ne_true]
    exact k1 _ H1 G1 g1 A1 rfl
  · cases h
theorem fe_or (h1 : FE X C a f) (h2 : FE X C (.BoolOp .Or (b :: es) pos) g) : FE X C (.BoolOp .Or (a :: b :: es) pos) (eOo f g) := by
  obtain ⟨ta, p1, q1⟩ := h1
  obtain ⟨tb, p2, q2⟩ := h2
  refine ⟨_, pe_or p1 p2, ?_⟩
  intro G H σ s k s' A h Q k1
  unfold eOo at h
  split at h
  · rename_i s1 e1
    cases h
    refine q1 G H σ s _ _ A e1 _ fun v H1 G1 g1 A1 r => ⟨true, r, ?_⟩
    rw [if_pos rfl]
    exact k1 _ H1 G1 g1 A1 rfl
  · rename_i s1 e1
    refine q1 G H σ s _ _ A e1 _ fun v H1 G1 g1 A1 r => ⟨false, r, ?_⟩
    rw [if_neg Bool.false_ne_true]
    exact q2 G1 H1 σ _ _ _ A1 h Q fun v H2 G2 g2 A2 r => k1 v H2 G2 (g1.trans g2) A2 r
  · cases h
theorem fe_not (h1 : FE X C a f) : FE X C (.UnaryOp .Not a pos) (eNo f) := by
  obtain ⟨ta, p1, q1⟩ := h1
  refine ⟨_, pe_not p1, ?_⟩
  intro G H σ s k s' A h Q k1
  unfold eNo at h
  split at h
  · rename_i b s1 e1
    cases h
    exact q1 G H σ s _ _ A e1 _ fun v H1 G1 g1 A1 r => ⟨b, r, k1 _ H1 G1 g1 A1 rfl⟩
  · cases h
end

/-! ## subscripts -/
def dIx : DV → DV → Option DV
  | .lst ds, .int i => atI ds i
  | .tup ds, .int i => atI ds i
  | .str z, .int i => if z.length ≤ sizeLine then (atI z.cps.toList i).map fun c => .str ⟨#[c]⟩ else none
  | _, _ => none
section
variable {K : PySem.W.Frag} {X : Cx} {C : Cn} {e a b c : Expr} {es : List Expr} {pos p2 : Pos} {f g h : EF} {t u : TF}
theorem RpL.atI {G : Hp} {vs : List V} {ds : List DV} {i : Int} {d : DV} (h : RpL K G vs ds) (e : atI ds i = some d) : ∃ v, L2.atI vs i = some v ∧ Rp K G v d := by
  unfold L2.atI at *
  rw [h.length]
  cases q : ixN ds.length i with
  | none => rw [q] at e; cases e
  | some j =>
    rw [q] at e
    exact h.get e
theorem o_ix : Op2 K (rIx K) dIx := by
  intro C G H σ s x y d e z A r1 r2 ho Q q
  unfold dIx at ho
  split at ho
  · obtain ⟨a, vs, e1, h1, h2⟩ := r1
    obtain ⟨v, h3, h4⟩ := h2.atI ho
    exact .inl ⟨a, vs, _, v, e1, r2, SqL.of (A.gh _ _ h1), h3, q v H G (Fw.refl A.gh) h4⟩
  · obtain ⟨a, vs, e1, h1, h2⟩ := r1
    obtain ⟨v, h3, h4⟩ := h2.atI ho
    exact .inr (.inl ⟨a, vs, _, v, e1, r2, Same.tup A.gh h1, h3, q v H G (Fw.refl A.gh) h4⟩)
  · rename_i zz ii
    split at ho
    · rename_i hl
      cases q1 : atI zz.cps.toList ii with
      | none => rw [q1] at ho; cases ho
      | some c =>
        rw [q1] at ho
        cases ho
        exact .inr (.inr ⟨_, _, c, r1, r2, hl, q1, q _ H G (Fw.refl A.gh) rfl⟩)
    · cases ho
  · cases ho
theorem fe_ix (h1 : FE X C a f) (h2 : FE X C b g) (hs : PlainIx b := by exact fun _ _ => rfl) : FE X C (.Subscript a b pos) (e2 f g dIx) := by
  obtain ⟨ta, p1, q1⟩ := h1
  obtain ⟨tb, p2, q2⟩ := h2
  exact ⟨_, pe_ix ix_seq p1 p2 hs, ev2 q1 q2 o_ix fun _ _ _ h => h⟩
/-- what a name's slot is worth for a reader: a list of the frame's own stays its own -/
def peek (s : S) (i : Nat) : Option DV := match s.sl[i]? with
  | some (some (.dat d)) => some d
  | some (some (.own ds)) => some (.lst ds)
  | _ => none
/-- the datum at v, in the heap itself; its items are data -/
theorem Ab.peek {K : PySem.W.Frag} {G H : Hp} {σ : List (Option V)} {s : S} {i : Nat} {d : DV} (A : Ab K C G H σ s) (h : FD.peek s i = some d) : ∃ v G', σ[i]? = some (some v) ∧ Same G G' ∧ Same G' H ∧ Rp K G' v d ∧
    (∀ ds, d = .lst ds → ∃ a vs, v = .ref a ∧ H a = some (.lst vs) ∧ RpL K G vs ds) ∧ ((∀ ds, d ≠ .lst ds) → Rp K G v d) := by
  unfold FD.peek at h
  split at h
  · rename_i d' e1
    cases h
    obtain ⟨o, e2, v, e3, r⟩ := A.slot e1
    subst e3
    refine ⟨v, G, e2, Same.refl _, A.gh, r, fun ds e => ?_, fun _ => r⟩
    subst e
    obtain ⟨a, vs, q1, q2, q3⟩ := r
    exact ⟨a, vs, q1, A.gh _ _ q2, q3⟩
  · rename_i ds e1
    cases h
    obtain ⟨o, e2, a, vs, e3, h1, h2, h3, h4, h5⟩ := A.slot e1
    subst e3
    have sg : Same G (upd G a (.lst vs)) := fun b u e => by rw [upd_ne (fun z => by rw [z, h3] at e; cases e)]; exact e
    refine ⟨_, upd G a (.lst vs), e2, sg, fun b u e => ?_, ⟨a, vs, rfl, upd_same, RpL.mono sg ds vs h2⟩, fun ds' e => ?_, fun z => absurd rfl (z ds)⟩
    · by_cases z : b = a
      · rw [z, upd_same] at e
        rw [z, ← e]
        exact h1
      · rw [upd_ne z] at e
        exact A.gh _ _ e
    · cases e
      exact ⟨a, vs, rfl, h1, h2⟩
  · cases h
def eIxN (i : Nat) (g : EF) : EF := fun s => match FD.peek s i with
  | some _ => match g s with
    | some (k, s1) => match FD.peek s1 i with
      | some d => match dIx d k with
        | some z => some (z, s1)
        | none => none
      | none => none
    | none => none
  | none => none
theorem fe_ixn (i : Nat) {x : Str} {pos' : Pos} (h2 : FE X C b g) (hN : X.N[i]? = some x := by rfl) (hv : Vis X.env.scope x := by first | exact Or.inl rfl | exact Or.inr (Or.inl rfl) | exact Or.inr (Or.inr rfl)) (hd : (x == ("__debug__" : Str)) = false := by decide)
    (hcd : (x == ("__classdict__" : Str)) = false := by decide) (hs : PlainIx b := by exact fun _ _ => rfl) : FE X C (.Subscript (.Name x pos') b pos) (eIxN i g) := by
  obtain ⟨tb, p2, q2⟩ := h2
  refine ⟨_, pe_ix ix_seq (pe_var hN hv hd hcd) p2 hs, ?_⟩
  intro G H σ s z s' A h Q q
  unfold eIxN at h
  split at h
  · rename_i d0 e0
    obtain ⟨v, _, ev, _⟩ := A.peek e0
    split at h
    · rename_i k s1 e1
      split at h
      · rename_i d e2
        split at h
        · rename_i z' e3
          cases h
          refine ⟨v, ev, q2 G H σ s k _ A e1 _ fun u H1 G1 g1 A1 r => ?_⟩
          obtain ⟨w, G2, ew, g2, g3, r2, r3, r4⟩ := A1.peek e2
          rw [ev] at ew
          cases ew
          cases d with
          | lst ds =>
            obtain ⟨a, vs, rfl, ha, hr⟩ := r3 ds rfl
            cases k with
            | int j =>
              obtain ⟨y, q3, q4⟩ := hr.atI e3
              exact .inl ⟨a, vs, _, y, rfl, r, SqL.of ha, q3, q y H1 G1 g1 A1 q4⟩
            | _ => cases e3
          | _ =>
            have r5 := r4 (fun ds z => nomatch z)
            exact o_ix C G1 H1 σ _ v u _ k _ A1 r5 r e3 Q fun y H' G' F ry => q y H' G' (g1.trans F.g) (A1.fw0 F) ry
        · cases h
      · cases h
    · cases h
  · cases h
/-! ## slices -/
def cutD (ds : List DV) (lo hi : Option Int) : List DV := (ds.drop (HT.sIx ds.length 0 lo)).take (HT.sIx ds.length ds.length hi - HT.sIx ds.length 0 lo)
def dSl : DV → Option Int → Option Int → Option DV
  | .lst ds, lo, hi => some (.lst (cutD ds lo hi))
  | .scr ns, lo, hi => some (.lst (cutD (ns.map .int) lo hi))
  | .tup ds, lo, hi => if HT.sIx ds.length 0 lo = 0 ∧ HT.sIx ds.length ds.length hi = ds.length then none else some (.tup (cutD ds lo hi))
  | _, _, _ => none
theorem RpL.cut {G : Hp} {vs : List V} {ds : List DV} (h : RpL K G vs ds) (lo hi : Option Int) : RpL K G (cutV vs lo hi) (cutD ds lo hi) := by
  unfold cutV cutD
  rw [h.length]
  exact (h.drop _).take _
abbrev rSlX (K : PySem.W.Frag) : V → Option Int → Option Int → Hp → VK → Prop := fun x lo hi H Q => rSlL K x lo hi H Q ∨ rSlT K x lo hi H Q
theorem slX : SlR X (rSlX X.K) := SlR.or sl_list sl_tup
/-- a part of a slice -/
abbrev OF := S → Option (Option Int × S)
def EvO (K : PySem.W.Frag) (C : Cn) (to : TO) (f : OF) : Prop := ∀ G H σ s d s', Ab K C G H σ s → f s = some (d, s') →
  ∀ Q : Option Int → Hp → Prop, (∀ H' G', Same G G' → Ab K C G' H' σ s' → Q d H') → to σ H Q
def FO (X : Cx) (C : Cn) (e : Option Expr) (f : OF) : Prop := ∃ to, PO X e to ∧ EvO X.K C to f
def oNo : OF := fun s => some (none, s)
def oSo (f : EF) : OF := fun s => match f s with
  | some (.int i, s1) => some (some i, s1)
  | _ => none
theorem fo_none : FO X C none oNo := ⟨_, po_none, by
  intro G H σ s d s' A h Q q
  cases h
  exact q H G (Same.refl _) A⟩
theorem fo_some (h : FE X C e f) : FO X C (some e) (oSo f) := by
  obtain ⟨te, p, q⟩ := h
  refine ⟨_, po_some p, ?_⟩
  intro G H σ s d s' A h Q k
  unfold oSo at h
  split at h
  · rename_i i s1 e1
    cases h
    exact q G H σ s _ _ A e1 _ fun v H' G' g A' r => ⟨i, r, k H' G' g A'⟩
  · cases h
def eSl (f : EF) (l h : OF) : EF := fun s => match f s with
  | some (d, s1) => match l s1 with
    | some (lo, s2) => match h s2 with
      | some (hi, s3) => match dSl d lo hi with
        | some z => some (z, s3)
        | none => none
      | none => none
    | none => none
  | none => none
theorem sl_of {G H : Hp} {σ : List (Option V)} {s : S} {v : V} {d z : DV} {lo hi : Option Int} {Q : VK} (A : Ab K C G H σ s) (r : Rp K G v d) (e : dSl d lo hi = some z) (q : ∀ v H' G', Fw G H G' H' none → Rp K G' v z → Q v H') : rSlX K v lo hi H Q := by
  unfold dSl at e
  split at e
  · cases e
    obtain ⟨a, vs, e1, h1, h2⟩ := r
    exact .inl ⟨a, vs, e1, SqL.of (A.gh _ _ h1), lst_ok A (h2.cut lo hi) q⟩
  · cases e
    obtain ⟨a, e1, h1⟩ := r
    exact .inl ⟨a, _, e1, A.gh.seq h1, lst_ok A ((RpL.ints _).cut lo hi) q⟩
  · split at e
    · cases e
    · rename_i hw
      cases e
      obtain ⟨a, vs, e1, h1, h2⟩ := r
      exact .inr ⟨a, vs, e1, Same.tup A.gh h1, by rw [h2.length]; exact hw, tup_ok A (h2.cut lo hi) q⟩
  · cases e
theorem fe_sl {lo hi : Option Expr} {l h : OF} (h1 : FE X C e f) (h2 : FO X C lo l) (h3 : FO X C hi h) : FE X C (.Subscript e (.Slice lo hi none p2) pos) (eSl f l h) := by
  obtain ⟨te, p1, q1⟩ := h1
  obtain ⟨tl, pl, ql⟩ := h2
  obtain ⟨th, ph, qh⟩ := h3
  refine ⟨_, pe_slice slX p1 pl ph, ?_⟩
  intro G H σ s z s' A e Q q
  unfold eSl at e
  split at e
  · rename_i d s1 a1
    split at e
    · rename_i lo' s2 a2
      split at e
      · rename_i hi' s3 a3
        split at e
        · rename_i z' a4
          cases e
          refine q1 G H σ s d s1 A a1 _ fun v H1 G1 g1 A1 r1 => ?_
          refine ql G1 H1 σ s1 _ s2 A1 a2 _ fun H2 G2 g2 A2 => ?_
          refine qh G2 H2 σ s2 _ _ A2 a3 _ fun H3 G3 g3 A3 => ?_
          exact sl_of A3 (Rp.mono (g2.trans g3) d v r1) a4 fun v H' G' F r => q v H' G' ((g1.trans (g2.trans g3)).trans F.g) (A3.fw0 F) r
        · cases e
      · cases e
    · cases e
  · cases e
/-- a slice of a name's list -/
def eSlN (i : Nat) (l h : OF) : EF := fun s => match FD.peek s i with
  | some _ => match l s with
    | some (lo, s2) => match h s2 with
      | some (hi, s3) => match FD.peek s3 i with
        | some d => match dSl d lo hi with
          | some z => some (z, s3)
          | none => none
        | none => none
      | none => none
    | none => none
  | none => none
theorem fe_sln (i : Nat) {x : Str} {pos' : Pos} {lo hi : Option Expr} {l h : OF} (h2 : FO X C lo l) (h3 : FO X C hi h) (hN : X.N[i]? = some x := by rfl) (hv : Vis X.env.scope x := by first | exact Or.inl rfl | exact Or.inr (Or.inl rfl) | exact Or.inr (Or.inr rfl)) (hd : (x == ("__debug__" : Str)) = false := by decide)
    (hcd : (x == ("__classdict__" : Str)) = false := by decide) : FE X C (.Subscript (.Name x pos') (.Slice lo hi none p2) pos) (eSlN i l h) := by
  obtain ⟨tl, pl, ql⟩ := h2
  obtain ⟨th, ph, qh⟩ := h3
  refine ⟨_, pe_slice slX (pe_var hN hv hd hcd) pl ph, ?_⟩
  intro G H σ s z s' A e Q q
  unfold eSlN at e
  split at e
  · rename_i d0 e0
    obtain ⟨v, _, ev, _⟩ := A.peek e0
    split at e
    · rename_i lo' s2 a2
      split at e
      · rename_i hi' s3 a3
        split at e
        · rename_i d a5
          split at e
          · rename_i z' a4
            cases e
            refine ⟨v, ev, ql G H σ s _ s2 A a2 _ fun H2 G2 g2 A2 => ?_⟩
            refine qh G2 H2 σ s2 _ _ A2 a3 _ fun H3 G3 g3 A3 => ?_
            obtain ⟨w, G4, ew, g4, g5, r2, r3, r4⟩ := A3.peek a5
            rw [ev] at ew
            cases ew
            cases d with
            | lst ds =>
              obtain ⟨a, vs, rfl, ha, hr⟩ := r3 ds rfl
              cases a4
              exact .inl ⟨a, vs, rfl, SqL.of ha, lst_ok A3 (hr.cut lo' hi') fun v H' G' F r => q v H' G' ((g2.trans g3).trans F.g) (A3.fw0 F) r⟩
            | _ => exact sl_of A3 (r4 (fun ds z => nomatch z)) a4 fun v H' G' F r => q v H' G' ((g2.trans g3).trans F.g) (A3.fw0 F) r
          · cases e
        · cases e
      · cases e
    · cases e
  · cases e
end

/-! ## calls of built-ins -/
def OpA (K : PySem.W.Frag) (r : List V → Hp → VK → Prop) (op : List DV → Option DV) : Prop := ∀ C G H σ s vs ds d, Ab K C G H σ s → RpL K G vs ds → op ds = some d →
  ∀ Q : VK, (∀ v H' G', Fw G H G' H' none → Rp K G' v d → Q v H') → r vs H Q
section
variable {K : PySem.W.Frag} {X : Cx} {C : Cn} {e a b c : Expr} {es : List Expr} {pos p p2 : Pos} {f g h : EF} {fa : AF} {x : Str} {id : String} {r : List V → Hp → VK → Prop} {op : List DV → Option DV}
theorem fe_callB (hc : CallR X (.builtin id) r) (ho : OpA X.K r op) (hm : X.mg x = none) (hv : bootBuiltins x = some (.builtin id)) (ha : FA X C (e :: es) fa) (hg : Gl X x := by rfl) (hn : x ≠ "__name__" := by decide) (hdb : (x == ("__debug__" : Str)) = false := by decide)
    (he : starEach (e :: es) X.env = (false, eval e X.env) :: starEach es X.env := by rfl) (hpl : (backTo pos (starEach es X.env)).any (·.1) = false := by rfl) : FE X C (.Call (.Name x p) (e :: es) [] pos) (eA fa op) := by
  obtain ⟨ta, p1, q1⟩ := ha
  exact ⟨_, pe_callB hc hg hm hv p1 hn hdb he hpl, evA_of q1 (fun _ _ _ h => h) fun G H σ s vs ds d A r e Q q => ho C G H σ s vs ds d A r e Q q⟩
theorem fe_callTy {T : String} (hc : CallR X (.type T) r) (ho : OpA X.K r op) (hm : X.mg x = none) (hv : bootBuiltins x = some (.type T)) (ha : FA X C (e :: es) fa) (hg : Gl X x := by rfl) (hn : x ≠ "__name__" := by decide) (hdb : (x == ("__debug__" : Str)) = false := by decide)
    (he : starEach (e :: es) X.env = (false, eval e X.env) :: starEach es X.env := by rfl) (hpl : (backTo pos (starEach es X.env)).any (·.1) = false := by rfl) : FE X C (.Call (.Name x p) (e :: es) [] pos) (eA fa op) := by
  obtain ⟨ta, p1, q1⟩ := ha
  exact ⟨_, pe_callTy hc hg hm hv p1 hn hdb he hpl, evA_of q1 (fun _ _ _ h => h) fun G H σ s vs ds d A r e Q q => ho C G H σ s vs ds d A r e Q q⟩
theorem fe_callM (hc : CallR X (.builtin id) r) (ho : OpA X.K r op) (hm : X.mg x = some (.builtin id)) (ha : FA X C (e :: es) fa) (hg : Gl X x := by rfl) (hdb : (x == ("__debug__" : Str)) = false := by decide)
    (he : starEach (e :: es) X.env = (false, eval e X.env) :: starEach es X.env := by rfl) (hpl : (backTo pos (starEach es X.env)).any (·.1) = false := by rfl) : FE X C (.Call (.Name x p) (e :: es) [] pos) (eA fa op) := by
  obtain ⟨ta, p1, q1⟩ := ha
  exact ⟨_, pe_callBfun hc hg hm p1 hdb he hpl, evA_of q1 (fun _ _ _ h => h) fun G H σ s vs ds d A r e Q q => ho C G H σ s vs ds d A r e Q q⟩
def dLen : List DV → Option DV
  | [.lst ds] => some (.int ds.length)
  | [.tup ds] => some (.int ds.length)
  | [.scr ns] => some (.int ns.length)
  | [.str x] => if x.length ≤ sizeLine then some (.int x.length) else none
  | _ => none
theorem RpL.single {G : Hp} {vs : List V} {d : DV} (h : RpL K G vs [d]) : ∃ v, vs = [v] ∧ Rp K G v d := by
  obtain ⟨v, r, e, h1, h2⟩ := h
  have h2' : r = [] := h2
  exact ⟨v, by rw [e, h2'], h1⟩
theorem RpL.double {G : Hp} {vs : List V} {d d' : DV} (h : RpL K G vs [d, d']) : ∃ v v', vs = [v, v'] ∧ Rp K G v d ∧ Rp K G v' d' := by
  obtain ⟨v, r, e, h1, h2⟩ := h
  obtain ⟨w, rfl, h3⟩ := h2.single
  exact ⟨v, w, e, h1, h3⟩
theorem o_len : OpA K (fun xs H Q => ∃ x n, xs = [x] ∧ LenV K x H n ∧ Q (.int n) H) dLen := by
  intro C G H σ s vs ds d A r ho Q q
  unfold dLen at ho
  split at ho
  · cases ho
    obtain ⟨v, e, a, us, e1, h1, h2⟩ := r.single
    rw [e1] at e
    exact ⟨_, _, e, .inl ⟨us, SqL.of (A.gh _ _ h1), h2.length.symm⟩, q _ H G (Fw.refl A.gh) rfl⟩
  · cases ho
    obtain ⟨v, e, a, us, e1, h1, h2⟩ := r.single
    rw [e1] at e
    exact ⟨_, _, e, .inr ⟨us, Same.tup A.gh h1, h2.length.symm⟩, q _ H G (Fw.refl A.gh) rfl⟩
  · cases ho
    obtain ⟨v, e, a, e1, h1⟩ := r.single
    rw [e1] at e
    exact ⟨_, _, e, .inl ⟨_, A.gh.seq h1, (List.length_map _).symm⟩, q _ H G (Fw.refl A.gh) rfl⟩
  · split at ho
    · rename_i hl
      cases ho
      obtain ⟨v, e, e1⟩ := r.single
      rw [show v = .str _ from e1] at e
      exact ⟨_, _, e, ⟨hl, rfl⟩, q _ H G (Fw.refl A.gh) rfl⟩
    · cases ho
  · cases ho
def dAbs : List DV → Option DV
  | [.int i] => some (.int (if i < 0 then -i else i))
  | _ => none
theorem o_abs : OpA K (fun xs H Q => ∃ i, xs = [.int i] ∧ Q (.int (if i < 0 then -i else i)) H) dAbs := by
  intro C G H σ s vs ds d A r ho Q q
  unfold dAbs at ho
  split at ho
  · cases ho
    obtain ⟨v, e, e1⟩ := r.single
    rw [show v = .int _ from e1] at e
    exact ⟨_, e, q _ H G (Fw.refl A.gh) rfl⟩
  · cases ho
def dMax : List DV → Option DV
  | [.int i, .int j] => some (.int (if j > i then j else i))
  | _ => none
def dMin : List DV → Option DV
  | [.int i, .int j] => some (.int (if j < i then j else i))
  | _ => none
theorem o_max : OpA K (fun xs H Q => ∃ i j, xs = [.int i, .int j] ∧ Q (.int (if j > i then j else i)) H) dMax := by
  intro C G H σ s vs ds d A r ho Q q
  unfold dMax at ho
  split at ho
  · cases ho
    obtain ⟨v, w, e, e1, e2⟩ := r.double
    rw [show v = .int _ from e1, show w = .int _ from e2] at e
    exact ⟨_, _, e, q _ H G (Fw.refl A.gh) rfl⟩
  · cases ho
theorem o_min : OpA K (fun xs H Q => ∃ i j, xs = [.int i, .int j] ∧ Q (.int (if j < i then j else i)) H) dMin := by
  intro C G H σ s vs ds d A r ho Q q
  unfold dMin at ho
  split at ho
  · cases ho
    obtain ⟨v, w, e, e1, e2⟩ := r.double
    rw [show v = .int _ from e1, show w = .int _ from e2] at e
    exact ⟨_, _, e, q _ H G (Fw.refl A.gh) rfl⟩
  · cases ho
theorem fe_len (hm : X.mg "len" = none) (ha : FA X C [e] fa) (hg : Gl X "len" := by rfl) (he : starEach [e] X.env = (false, eval e X.env) :: starEach [] X.env := by rfl) : FE X C (.Call (.Name "len" p) [e] [] pos) (eA fa dLen) := fe_callB call_len o_len hm PySem.boot_len ha hg (he := he)
theorem fe_abs (hm : X.mg "abs" = none) (ha : FA X C [e] fa) (hg : Gl X "abs" := by rfl) (he : starEach [e] X.env = (false, eval e X.env) :: starEach [] X.env := by rfl) : FE X C (.Call (.Name "abs" p) [e] [] pos) (eA fa dAbs) := fe_callB call_abs o_abs hm (by decide +kernel) ha hg (he := he)
theorem fe_max (hc : X.calm = true) (hm : X.mg "max" = none) (ha : FA X C [a, b] fa) (hg : Gl X "max" := by rfl) (he : starEach [a, b] X.env = (false, eval a X.env) :: starEach [b] X.env := by rfl) (hpl : (backTo pos (starEach [b] X.env)).any (·.1) = false := by rfl) : FE X C (.Call (.Name "max" p) [a, b] [] pos) (eA fa dMax) := fe_callB (call_max2 hc) o_max hm (by decide +kernel) ha hg (he := he) (hpl := hpl)
theorem fe_min (hc : X.calm = true) (hm : X.mg "min" = none) (ha : FA X C [a, b] fa) (hg : Gl X "min" := by rfl) (he : starEach [a, b] X.env = (false, eval a X.env) :: starEach [b] X.env := by rfl) (hpl : (backTo pos (starEach [b] X.env)).any (·.1) = false := by rfl) : FE X C (.Call (.Name "min" p) [a, b] [] pos) (eA fa dMin) := fe_callB (call_min2 hc) o_min hm (by decide +kernel) ha hg (he := he) (hpl := hpl)
end
end FD

set_option maxRecDepth 100000
namespace FD
open PySem PySem.Spec PyProof.Rows L2

/-! ## statements -/
inductive Out where
  | nx (s : S) | rt (d : DV) (s : S) | bk (s : S) | ct (s : S) | er (c : Str) (s : S)
abbrev SF := S → Option Out
def Kont (K : PySem.W.Frag) (C : Cn) (G : Hp) (D : Ends) : Out → Prop
  | .nx s' => ∀ σ' H' G', Same G G' → Ab K C G' H' σ' s' → D.nx σ' H'
  | .bk s' => ∀ σ' H' G', Same G G' → Ab K C G' H' σ' s' → D.bk σ' H'
  | .ct s' => ∀ σ' H' G', Same G G' → Ab K C G' H' σ' s' → D.ct σ' H'
  | .rt d s' => ∀ v σ' H' G', Same G G' → Ab K C G' H' σ' s' → Rp K G' v d → D.rt v H'
  | .er c s' => ∀ σ' H' G', Same G G' → Ab K C G' H' σ' s' → C.W (.ref (He.ga K c)) none σ' H'
def EvS (K : PySem.W.Frag) (C : Cn) (ts : TS) (g : SF) : Prop := ∀ G H σ s o, Ab K C G H σ s → g s = some o → ∀ D : Ends, Kont K C G D o → ts D σ H
def FS (X : Cx) (C : Cn) (st : Stmt) (g : SF) : Prop := ∃ ts, PS X st ts ∧ EvS X.K C ts g
def FSs (X : Cx) (C : Cn) (st : List Stmt) (g : SF) : Prop := ∃ ts, PSs X st ts ∧ EvS X.K C ts g
theorem Kont.to {K : PySem.W.Frag} {C : Cn} {G G' : Hp} {D : Ends} {o : Out} (k : Kont K C G D o) (g : Same G G') : Kont K C G' D o := by
  cases o with
  | nx s => exact fun σ' H' G2 g2 A => k σ' H' G2 (g.trans g2) A
  | bk s => exact fun σ' H' G2 g2 A => k σ' H' G2 (g.trans g2) A
  | ct s => exact fun σ' H' G2 g2 A => k σ' H' G2 (g.trans g2) A
  | rt d s => exact fun v σ' H' G2 g2 A => k v σ' H' G2 (g.trans g2) A
  | er c s => exact fun σ' H' G2 g2 A => k σ' H' G2 (g.trans g2) A

def sNx : SF := fun s => some (.nx s)
def sSeq (f g : SF) : SF := fun s => match f s with
  | some (.nx s1) => g s1
  | o => o
section
variable {X : Cx} {C : Cn} {e a b c : Expr} {es : List Expr} {st : Stmt} {rest body orelse : List Stmt} {pos : Pos} {f g h : EF} {t : TF} {u w : SF}
theorem evSeq {K : PySem.W.Frag} {ta tb : TS} (q1 : EvS K C ta u) (q2 : EvS K C tb w) : EvS K C (tSeq ta tb) (sSeq u w) := by
  intro G H σ s o A e1 D k
  unfold sSeq at e1
  split at e1
  · rename_i s1 e2
    exact q1 G H σ s _ A e2 { D with nx := tb D } fun σ1 H1 G1 g1 A1 => q2 G1 H1 σ1 s1 o A1 e1 D (k.to g1)
  · rename_i o' ne
    refine q1 G H σ s o A e1 { D with nx := tb D } ?_
    cases o with
    | nx s1 => exact absurd e1 (ne s1)
    | bk s1 => exact k
    | ct s1 => exact k
    | rt d s1 => exact k
    | er c s1 => exact k
theorem fs_nil : FSs X C [] sNx := ⟨_, pss_nil, by
  intro G H σ s o A e1 D k
  cases e1
  exact k σ H G (Same.refl _) A⟩
theorem fs_one (h : FS X C st u) : FSs X C [st] u := let ⟨_, p, q⟩ := h; ⟨_, pss_one p, q⟩
theorem fs_cons (h1 : FS X C st u) (h2 : FSs X C rest w) : FSs X C (st :: rest) (sSeq u w) := let ⟨_, p, q⟩ := h1; let ⟨_, p2, q2⟩ := h2; ⟨_, pss_cons p p2, evSeq q q2⟩
theorem fs_pass : FS X C (.Pass pos) sNx := ⟨_, ps_pass, by
  intro G H σ s o A e1 D k
  cases e1
  exact k σ H G (Same.refl _) A⟩
def sBk : SF := fun s => some (.bk s)
def sCt : SF := fun s => some (.ct s)
theorem fs_break : FS X C (.Break pos) sBk := ⟨_, ps_break, by
  intro G H σ s o A e1 D k
  cases e1
  exact k σ H G (Same.refl _) A⟩
theorem fs_continue : FS X C (.Continue pos) sCt := ⟨_, ps_continue, by
  intro G H σ s o A e1 D k
  cases e1
  exact k σ H G (Same.refl _) A⟩
/-- a statement that is not come to -/
def sNo : SF := fun _ => none
theorem fs_never : FS X C st sNo := ⟨_, ps_never, by
  intro G H σ s o A e1 D k
  cases e1⟩
def sRt (f : EF) : SF := fun s => match f s with
  | some (d, s1) => some (.rt d s1)
  | none => none
theorem fs_ret (h : FE X C e f) : FS X C (.Return (some e) pos) (sRt f) := by
  obtain ⟨te, p, q⟩ := h
  refine ⟨_, ps_ret p, ?_⟩
  intro G H σ s o A e1 D k
  unfold sRt at e1
  split at e1
  · cases e1
    rename_i d s1 e2
    exact q G H σ s d s1 A e2 _ fun v H1 G1 g1 A1 r => k v σ H1 G1 g1 A1 r
  · cases e1
def sDr (f : EF) : SF := fun s => match f s with
  | some (_, s1) => some (.nx s1)
  | none => none
theorem fs_expr (h : FE X C e f) (hs : swapsWith e none pos.line X.env = pure false := by rfl) : FS X C (.Expr e pos) (sDr f) := by
  obtain ⟨te, p, q⟩ := h
  refine ⟨_, ps_expr p hs, ?_⟩
  intro G H σ s o A e1 D k
  unfold sDr at e1
  split at e1
  · cases e1
    rename_i d s1 e2
    exact q G H σ s d s1 A e2 _ fun v H1 G1 g1 A1 r => k σ H1 G1 g1 A1
  · cases e1
def sIf (t : TF) (u w : SF) : SF := fun s => match t s with
  | some (true, s1) => u s1
  | some (false, s1) => w s1
  | none => none
theorem fs_if (h : FT X C c t) (h1 : FSs X C body u) (h2 : FSs X C orelse w) : FS X C (.If c body orelse pos) (sIf t u w) := by
  obtain ⟨tt, p, q⟩ := h
  obtain ⟨ta, p1, q1⟩ := h1
  obtain ⟨tb, p2, q2⟩ := h2
  refine ⟨_, ps_if p p1 p2, ?_⟩
  intro G H σ s o A e1 D k
  unfold sIf at e1
  split at e1
  · rename_i s1 e2
    refine q G H σ s _ _ A e2 _ fun H1 G1 g1 A1 => ?_
    rw [if_pos rfl]
    exact q1 G1 H1 σ s1 o A1 e1 D (k.to g1)
  · rename_i s1 e2
    refine q G H σ s _ _ A e2 _ fun H1 G1 g1 A1 => ?_
    rw [if_neg Bool.false_ne_true]
    exact q2 G1 H1 σ s1 o A1 e1 D (k.to g1)
  · cases e1

/-! ### targets -/
abbrev GF := DV → S → Option S
def EvG (K : PySem.W.Frag) (C : Cn) (tg : TG) (g : GF) : Prop := ∀ G H σ s v d s', Ab K C G H σ s → Rp K G v d → g d s = some s' → ∀ Q : St → Hp → Prop, (∀ σ' H' G', Same G G' → Ab K C G' H' σ' s' → Q σ' H') → tg v σ H Q
def EvGs (K : PySem.W.Frag) (C : Cn) (tg : TGs) (g : List DV → S → Option S) : Prop := ∀ G H σ s vs ds s', Ab K C G H σ s → RpL K G vs ds → g ds s = some s' → ∀ Q : St → Hp → Prop, (∀ σ' H' G', Same G G' → Ab K C G' H' σ' s' → Q σ' H') → tg vs σ H Q
def FG (X : Cx) (C : Cn) (e : Expr) (g : GF) : Prop := ∃ tg, PG X e tg ∧ EvG X.K C tg g
def FGs (X : Cx) (C : Cn) (es : List Expr) (g : List DV → S → Option S) : Prop := ∃ tg, PGs X es tg ∧ EvGs X.K C tg g
def gNm (i : Nat) : GF := fun d s => some { s with sl := s.sl.set i (some (.dat d)) }
theorem fg_name (i : Nat) {x : Str} (hN : X.N.Nodup) (hi : X.N[i]? = some x := by rfl) (hx : Loc X.env.scope x := by first | exact Or.inl rfl | exact Or.inr rfl) (hf : X.fn x = true ∨ X.env.scope.names.lookup x = some .local := by first | exact .inl rfl | exact .inr rfl | assumption) : FG X C (.Name x pos) (gNm i) := by
  refine ⟨_, pg_name hN hi hx hf, ?_⟩
  intro G H σ s v d s' A r e1 Q k
  cases e1
  exact k _ H G (Same.refl _) (A.set_dat r)
def gNi : List DV → S → Option S := fun ds s => match ds with
  | [] => some s
  | _ => none
def gCo (g : GF) (r : List DV → S → Option S) : List DV → S → Option S := fun ds s => match ds with
  | d :: ds => match g d s with
    | some s1 => r ds s1
    | none => none
  | [] => none
theorem fgs_nil : FGs X C [] gNi := ⟨_, pgs_nil, by
  intro G H σ s vs ds s' A r e1 Q k
  unfold gNi at e1
  split at e1
  · cases e1
    exact ⟨r, k σ H G (Same.refl _) A⟩
  · cases e1⟩
theorem fgs_cons {g : GF} {r : List DV → S → Option S} (h1 : FG X C e g) (h2 : FGs X C es r) (hs : (assignEach (e :: es) X.env).map (·.2) = assign e X.env :: (assignEach es X.env).map (·.2) := by rfl) : FGs X C (e :: es) (gCo g r) := by
  obtain ⟨tg, p, q⟩ := h1
  obtain ⟨tr, p2, q2⟩ := h2
  refine ⟨_, pgs_cons p p2 hs, ?_⟩
  intro G H σ s vs ds s' A rr e1 Q k
  unfold gCo at e1
  split at e1
  · rename_i d ds
    split at e1
    · rename_i s1 e2
      obtain ⟨v, vr, rfl, r1, r2⟩ := rr
      refine ⟨v, vr, rfl, q G H σ s v d s1 A r1 e2 _ fun σ1 H1 G1 g1 A1 => ?_⟩
      exact q2 G1 H1 σ1 s1 vr ds s' A1 (RpL.mono g1 ds vr r2) e1 Q fun σ2 H2 G2 g2 A2 => k σ2 H2 G2 (g1.trans g2) A2
    · cases e1
  · cases e1
def gTp (n : Nat) (r : List DV → S → Option S) : GF := fun d s => match d with
  | .tup ds => if ds.length = n then r ds s else none
  | _ => none
def gLs (n : Nat) (r : List DV → S → Option S) : GF := fun d s => match d with
  | .lst ds => if ds.length = n then r ds s else none
  | _ => none
theorem fg_tup {r : List DV → S → Option S} {k : Nat} {n : Nat} (hc : X.calm = true) (h : FGs X C es r) (hn : (assignEach es X.env).length = n := by rfl) (hst : (assignEach es X.env).findIdx? (·.1) = none := by rfl) : FG X C (.Tuple es k pos) (gTp n r) := by
  obtain ⟨tg, p, q⟩ := h
  refine ⟨_, pg_tup hc p hn hst, ?_⟩
  intro G H σ s v d s' A rr e1 Q k
  unfold gTp at e1
  split at e1
  · rename_i ds
    split at e1
    · rename_i hl
      obtain ⟨a, vs, rfl, r1, r2⟩ := rr
      exact ⟨a, vs, rfl, Same.tup A.gh r1, by rw [r2.length]; exact hl, q G H σ s vs ds s' A r2 e1 Q k⟩
    · cases e1
  · cases e1
theorem fg_lst {r : List DV → S → Option S} {k : Nat} {n : Nat} (hc : X.calm = true) (h : FGs X C es r) (hn : (assignEach es X.env).length = n := by rfl) (hst : (assignEach es X.env).findIdx? (·.1) = none := by rfl) : FG X C (.Tuple es k pos) (gLs n r) := by
  obtain ⟨tg, p, q⟩ := h
  refine ⟨_, pg_lst hc p hn hst, ?_⟩
  intro G H σ s v d s' A rr e1 Q k
  unfold gLs at e1
  split at e1
  · rename_i ds
    split at e1
    · rename_i hl
      obtain ⟨a, vs, rfl, r1, r2⟩ := rr
      exact ⟨a, vs, rfl, SqL.of (A.gh _ _ r1), by rw [r2.length]; exact hl, q G H σ s vs ds s' A r2 e1 Q k⟩
    · cases e1
  · cases e1
def sAsg (f : EF) (g : GF) : SF := fun s => match f s with
  | some (d, s1) => match g d s1 with
    | some s2 => some (.nx s2)
    | none => none
  | none => none
theorem fs_asg {tg : Expr} {g : GF} (he : FE X C e f) (hg : FG X C tg g) (hs : swapsWithSole [tg] e pos.line X.env = pure false := by rfl) (hw : swappedStores [tg] e X.env = pure none := by rfl)
    (h1 : (assignEach [tg] X.env).map (·.2) = [assign tg X.env] := by rfl) : FS X C (.Assign [tg] e pos) (sAsg f g) := by
  obtain ⟨te, p, q⟩ := he
  obtain ⟨tg', p2, q2⟩ := hg
  refine ⟨_, ps_asg p p2 hs hw h1, ?_⟩
  intro G H σ s o A e1 D k
  unfold sAsg at e1
  split at e1
  · rename_i d s1 e2
    split at e1
    · rename_i s2 e3
      cases e1
      exact q G H σ s d s1 A e2 _ fun v H1 G1 g1 A1 r => q2 G1 H1 σ s1 v d s2 A1 r e3 _ fun σ2 H2 G2 g2 A2 => k σ2 H2 G2 (g1.trans g2) A2
    · cases e1
  · cases e1
theorem fs_set (i : Nat) {x : Str} {pos' : Pos} (he : FE X C e f) (hN : X.N.Nodup) (hi : X.N[i]? = some x := by rfl) (hx : Loc X.env.scope x := by first | exact Or.inl rfl | exact Or.inr rfl) (hs : swapsWith e (some (.Name x pos')) pos.line X.env = pure false := by rfl) (hf : X.fn x = true ∨ X.env.scope.names.lookup x = some .local := by first | exact .inl rfl | exact .inr rfl | assumption) :
    FS X C (.Assign [.Name x pos'] e pos) (sAsg f (gNm i)) := by
  obtain ⟨te, p, q⟩ := he
  refine ⟨_, ps_set hN hi hx p hs hf, ?_⟩
  intro G H σ s o A e1 D k
  unfold sAsg at e1
  split at e1
  · rename_i d s1 e2
    cases e1
    exact q G H σ s d s1 A e2 _ fun v H1 G1 g1 A1 r => k _ H1 G1 g1 (A1.set_dat r)
  · cases e1
/-- a, b = x, y -/
def sPar (i j : Nat) (f : AF) : SF := fun s => match f s with
  | some ([d, e], s1) => some (.nx { s1 with sl := (s1.sl.set i (some (.dat d))).set j (some (.dat e)) })
  | _ => none
theorem fs_par (i j : Nat) {x y : Str} {ff : AF} {px py pt : Pos} {kt k2 pt2} (ha : FA X C [a, b] ff) (hc : X.calm = true) (hN : X.N.Nodup) (hi : X.N[i]? = some x := by rfl) (hj : X.N[j]? = some y := by rfl) (hij : i ≠ j := by decide)
    (hx : X.env.scope.names.lookup x = some .local := by rfl) (hy : X.env.scope.names.lookup y = some .local := by rfl)
    (hw : swappedStores [.Tuple [.Name x px, .Name y py] kt pt] (.Tuple [a, b] k2 pt2) X.env = pure (some [x, y]) := by rfl)
    (hs : swapsWithSole [.Tuple [.Name x px, .Name y py] kt pt] (.Tuple [a, b] k2 pt2) pos.line X.env = pure false := by rfl) :
    FS X C (.Assign [.Tuple [.Name x px, .Name y py] kt pt] (.Tuple [a, b] k2 pt2) pos) (sPar i j ff) := by
  obtain ⟨ta, p, q⟩ := ha
  refine ⟨_, ps_par hc hN hi hj hij hx hy p hw hs, ?_⟩
  intro G H σ s o A e1 D k
  unfold sPar at e1
  split at e1
  · rename_i d e' s1 e2
    cases e1
    refine q G H σ s _ s1 A e2 _ fun vs H1 G1 g1 A1 r => ?_
    obtain ⟨v, w, e3, r1, r2⟩ := r.double
    exact ⟨v, w, e3, k _ H1 G1 g1 ((A1.set_dat r1).set_dat (s := { s1 with sl := s1.sl.set i (some (.dat d)) }) r2)⟩
  · cases e1

/-! ### lists of the frame's own -/
theorem Ab.fresh {K : PySem.W.Frag} {G H : Hp} {σ : List (Option V)} {s : S} (A : Ab K C G H σ s) {p : Addr} (hp : H p = none) :
    G p = none ∧ C.H0 p = none ∧ C.sp ≠ some p ∧ ∀ (j : Nat) es, s.sl[j]? = some (some (.own es)) → σ[j]? ≠ some (some (.ref p)) := by
  refine ⟨?_, ?_, fun z => ?_, fun j es h1 h2 => ?_⟩
  · cases q : G p with
    | none => rfl
    | some o => rw [A.gh _ _ q] at hp; cases hp
  · cases q : C.H0 p with
    | none => rfl
    | some o => exact absurd hp (A.h0 (by rw [q]; exact fun z => nomatch z))
  · have k := A.spk
    unfold SpOk at k
    rw [z] at k
    obtain ⟨_, nb, k2, _⟩ := k
    rw [hp] at k2
    cases k2
  · obtain ⟨o, e1, a, vs, e2, h3, _⟩ := A.slot h1
    subst e2
    rw [h2] at e1
    cases e1
    rw [hp] at h3
    cases h3
/-- an expression that makes a new list -/
abbrev LF := S → Option (List DV × S)
structure NewL (K : PySem.W.Frag) (C : Cn) (G H : Hp) (σ : List (Option V)) (s : S) (p : Addr) (vs : List V) (ds : List DV) : Prop where
  at_ : H p = some (.lst vs)
  rp : RpL K G vs ds
  g : G p = none
  h0 : C.H0 p = none
  sp : C.sp ≠ some p
  no : ∀ (j : Nat) es, s.sl[j]? = some (some (.own es)) → σ[j]? ≠ some (some (.ref p))
def EvL (K : PySem.W.Frag) (C : Cn) (te : TE) (f : LF) : Prop := ∀ G H σ s ds s', Ab K C G H σ s → f s = some (ds, s') →
  ∀ Q : VK, (∀ p vs H' G', Same G G' → Ab K C G' H' σ s' → NewL K C G' H' σ s' p vs ds → Q (.ref p) H') → te σ H Q
def FL (X : Cx) (C : Cn) (e : Expr) (f : LF) : Prop := ∃ te, PE X e te ∧ EvL X.K C te f
theorem Ab.lay {K : PySem.W.Frag} {G H : Hp} {σ : List (Option V)} {s : S} {p : Addr} {vs : List V} {ds : List DV} (A : Ab K C G H σ s) (r : RpL K G vs ds) (hp : H p = none) : Ab K C G (upd H p (.lst vs)) σ s ∧ NewL K C G (upd H p (.lst vs)) σ s p vs ds := by
  obtain ⟨h1, h2, h3, h4⟩ := A.fresh hp
  exact ⟨A.fw0 (Fw.lay A.gh hp), ⟨upd_same, r, h1, h2, h3, h4⟩⟩
def lDs (f : AF) : LF := fun s => match f s with
  | some (ds, s1) => if ds.length ≤ sizeLine then some (ds, s1) else none
  | none => none
theorem fl_lst {ff : AF} (h : FA X C es ff) : FL X C (.List es pos) (lDs ff) := by
  obtain ⟨ta, p, q⟩ := h
  refine ⟨_, pe_lst p, ?_⟩
  intro G H σ s ds s' A e1 Q k
  unfold lDs at e1
  split at e1
  · split at e1
    · rename_i ds' s1 e2 hl
      cases e1
      refine q G H σ s _ _ A e2 _ fun vs H1 G1 g1 A1 r => ⟨by rw [r.length]; exact hl, fun p hp => ?_⟩
      obtain ⟨B, n⟩ := A1.lay r hp
      exact k p vs _ G1 g1 B n
    · cases e1
  · cases e1
/-- a new list as a datum -/
def eL (f : LF) : EF := fun s => match f s with
  | some (ds, s1) => some (.lst ds, s1)
  | none => none
theorem Ab.take_in {K : PySem.W.Frag} {G H : Hp} {σ : List (Option V)} {s : S} {p : Addr} {vs : List V} {ds : List DV} (A : Ab K C G H σ s) (n : NewL K C G H σ s p vs ds) : ∃ G', Same G G' ∧ Ab K C G' H σ s ∧ Rp K G' (.ref p) (.lst ds) := by
  have sg : Same G (upd G p (.lst vs)) := fun b u e => by rw [upd_ne (fun z => by rw [z, n.g] at e; cases e)]; exact e
  refine ⟨_, sg, ⟨fun b u e => ?_, A.fr, A.g0.trans sg, fun b e => ?_, A.len, fun j v x q1 q2 => ?_, A.dis, ?_⟩, ⟨p, vs, rfl, upd_same, RpL.mono sg ds vs n.rp⟩⟩
  · by_cases z : b = p
    · rw [z, upd_same] at e
      rw [z, ← e]
      exact n.at_
    · rw [upd_ne z] at e
      exact A.gh _ _ e
  · rw [upd_ne (fun z => e (by rw [z]; exact n.h0)), A.gn b e]
  · have r := A.sl j v x q1 q2
    match x, r with
    | none, _ => trivial
    | some (.dat d), ⟨w, e, r⟩ => exact ⟨w, e, Rp.mono sg d w r⟩
    | some (.own es), ⟨b, us, e, r1, r2, r3, r4, r5⟩ =>
      subst e
      have nb : b ≠ p := fun zz => n.no j es q2 (by rw [q1, zz])
      exact ⟨b, us, rfl, r1, RpL.mono sg es us r2, by rw [upd_ne nb]; exact r3, r4, r5⟩
    | some .spl, r => exact r
    | some (.dct kvs), ⟨b, e, r1, r3, r4, r5⟩ =>
      have nb : b ≠ p := fun zz => by rw [zz, n.at_] at r1; cases r1
      exact ⟨b, e, r1, by rw [upd_ne nb]; exact r3, r4, r5⟩
  · have k := A.spk
    unfold SpOk at *
    cases z : C.sp with
    | none => rw [z] at k; trivial
    | some c =>
      rw [z] at k
      obtain ⟨k1, nb, k2, k3⟩ := k
      exact ⟨by rw [upd_ne (fun e => n.sp (by rw [z, e]))]; exact k1, nb, k2, Rp.mono sg _ _ k3⟩
theorem fe_fl {ff : LF} (h : FL X C e ff) : FE X C e (eL ff) := by
  obtain ⟨te, p, q⟩ := h
  refine ⟨te, p, ?_⟩
  intro G H σ s d s' A e1 Q k
  unfold eL at e1
  split at e1
  · rename_i ds s1 e2
    cases e1
    refine q G H σ s ds _ A e2 _ fun p vs H1 G1 g1 A1 n => ?_
    obtain ⟨G2, g2, A2, r⟩ := A1.take_in n
    exact k _ H1 G2 (g1.trans g2) A2 r
  · cases e1
def sOwn (i : Nat) (f : LF) : SF := fun s => match f s with
  | some (ds, s1) => some (.nx { s1 with sl := s1.sl.set i (some (.own ds)) })
  | none => none
theorem fs_own (i : Nat) {x : Str} {pos' : Pos} {ff : LF} (he : FL X C e ff) (hN : X.N.Nodup) (hi : X.N[i]? = some x := by rfl) (hx : Loc X.env.scope x := by first | exact Or.inl rfl | exact Or.inr rfl) (hs : swapsWith e (some (.Name x pos')) pos.line X.env = pure false := by rfl) (hf : X.fn x = true ∨ X.env.scope.names.lookup x = some .local := by first | exact .inl rfl | exact .inr rfl | assumption) :
    FS X C (.Assign [.Name x pos'] e pos) (sOwn i ff) := by
  obtain ⟨te, p, q⟩ := he
  refine ⟨_, ps_set hN hi hx p hs hf, ?_⟩
  intro G H σ s o A e1 D k
  unfold sOwn at e1
  split at e1
  · rename_i ds s1 e2
    cases e1
    exact q G H σ s ds s1 A e2 _ fun p vs H1 G1 g1 A1 n => k _ H1 G1 g1 (A1.set_own n.at_ n.rp n.g n.h0 n.sp n.no)
  · cases e1
/-- xs.append(e), xs a list of the frame's own -/
def sApp (i : Nat) (f : EF) : SF := fun s => match s.sl[i]? with
  | some (some (.own _)) => match f s with
    | some (d, s1) => match s1.sl[i]? with
      | some (some (.own ds)) => if ds.length < sizeLine then some (.nx { s1 with sl := s1.sl.set i (some (.own (ds ++ [d]))) }) else none
      | _ => none
    | none => none
  | _ => none
theorem fs_app (i : Nat) {x : Str} {pos' apos cpos : Pos} (he : FE X C e f) (hN : X.N[i]? = some x := by rfl) (hv : Vis X.env.scope x := by first | exact Or.inl rfl | exact Or.inr (Or.inl rfl) | exact Or.inr (Or.inr rfl)) (hd : (x == ("__debug__" : Str)) = false := by decide)
    (hcd : (x == ("__classdict__" : Str)) = false := by decide)
    (hbase : attributeBase (.Name x pos') "append" X.env (eval (.Name x pos') X.env) = eval (.Name x pos') X.env := by rfl)
    (hfew : ((backTo cpos (starEach [e] X.env)).all (fun x => !x.1) && (backToKw cpos (keywordEach [] X.env)).all (fun x => x.1.isSome)
      && decide (([e] : List Expr).length + ([] : List Keyword).length + (if ([] : List Keyword).isEmpty then 0 else 1) < 30)) = true := by rfl)
    (hline : (apos.endLine == cpos.line) = true := by rfl) (hs : starEach [e] X.env = (false, eval e X.env) :: starEach [] X.env := by rfl) (hplain : (backTo cpos (starEach [] X.env)).any (·.1) = false := by rfl)
    (hs' : swapsWith (.Call (.Attribute (.Name x pos') "append" apos) [e] [] cpos) none pos.line X.env = pure false := by rfl) :
    FS X C (.Expr (.Call (.Attribute (.Name x pos') "append" apos) [e] [] cpos) pos) (sApp i f) := by
  obtain ⟨te, p, q⟩ := he
  refine ⟨_, ps_expr (pe_bm PySem.F.plainAttrs_list PySem.F.slot_list_append PySem.F.type_list_append mt_append (pe_var hN hv hd hcd) (pa_cons p pa_nil hs) hbase hfew hline hs hplain) hs', ?_⟩
  intro G H σ s o A e1 D k
  unfold sApp at e1
  split at e1
  · rename_i ds0 e0
    split at e1
    · rename_i d s1 e2
      split at e1
      · rename_i ds e3
        split at e1
        · rename_i hl
          cases e1
          obtain ⟨w, ew, a, vs0, rfl, h0, _⟩ := A.slot e0
          refine ⟨.ref a, ew, .inl ⟨rfl, _, .inl (.inl h0)⟩, q G H σ s d s1 A e2 _ fun v H1 G1 g1 A1 r => ?_⟩
          obtain ⟨w1, ew1, a1, vs1, e5, h1, h2, _⟩ := A1.slot e3
          subst e5
          rw [ew] at ew1
          cases ew1
          refine ⟨a, vs1, v, rfl, rfl, h1, by rw [h2.length]; exact hl, ?_⟩
          exact k σ _ G1 g1 (A1.put_own e3 ew (h2.append (RpL.one r)))
        · cases e1
      · cases e1
    · cases e1
  · cases e1
/-- xs[k] = e, xs a list of the frame's own -/
def sPut (i : Nat) (f kf : EF) : SF := fun s => match f s with
  | some (d, s1) => match s1.sl[i]? with
    | some (some (.own _)) => match kf s1 with
      | some (.int j, s2) => match s2.sl[i]? with
        | some (some (.own ds)) => match ixN ds.length j with
          | some n => some (.nx { s2 with sl := s2.sl.set i (some (.own (ds.set n d))) })
          | none => none
        | _ => none
      | _ => none
    | _ => none
  | none => none
theorem fs_put (i : Nat) {x : Str} {pos' pos2 : Pos} (he : FE X C e f) (hk : FE X C b g) (hN : X.N[i]? = some x := by rfl) (hv : Vis X.env.scope x := by first | exact Or.inl rfl | exact Or.inr (Or.inl rfl) | exact Or.inr (Or.inr rfl)) (hd : (x == ("__debug__" : Str)) = false := by decide)
    (hcd : (x == ("__classdict__" : Str)) = false := by decide)
    (ha : ∀ v, assign (.Subscript (.Name x pos') b pos2) X.env v = (do
      let ov ← holding [v] (eval (.Name x pos') X.env)
      let iv ← holding [v, ov] (eval b X.env)
      standAt pos2
      holding [v, ov, iv] (setItem ov iv v)
      release [v, ov, iv] []) := by intro _; rfl)
    (hs : swapsWithSole [.Subscript (.Name x pos') b pos2] e pos.line X.env = pure false := by rfl) (hw : swappedStores [.Subscript (.Name x pos') b pos2] e X.env = pure none := by rfl)
    (h1 : (assignEach [.Subscript (.Name x pos') b pos2] X.env).map (·.2) = [assign (.Subscript (.Name x pos') b pos2) X.env] := by rfl) :
    FS X C (.Assign [.Subscript (.Name x pos') b pos2] e pos) (sPut i f g) := by
  obtain ⟨te, p, q⟩ := he
  obtain ⟨tk, p2, q2⟩ := hk
  refine ⟨_, ps_asg p (pg_sub (pe_var hN hv hd hcd) p2 set_list ha) hs hw h1, ?_⟩
  intro G H σ s o A e1 D k
  unfold sPut at e1
  split at e1
  · rename_i d s1 e2
    split at e1
    · rename_i ds0 e0
      split at e1
      · rename_i j s2 e3
        split at e1
        · rename_i ds e4
          split at e1
          · rename_i n e5
            cases e1
            refine q G H σ s d s1 A e2 _ fun v H1 G1 g1 A1 r => ?_
            obtain ⟨w, ew, a, vs0, rfl, h0, _⟩ := A1.slot e0
            refine ⟨.ref a, ew, q2 G1 H1 σ s1 _ s2 A1 e3 _ fun u H2 G2 g2 A2 r2 => ?_⟩
            obtain ⟨w1, ew1, a1, vs1, e6, h1, h2, _⟩ := A2.slot e4
            subst e6
            rw [ew] at ew1
            cases ew1
            refine ⟨a, vs1, j, n, rfl, r2, h1, by rw [h2.length]; exact e5, ?_⟩
            exact k σ _ G2 (g1.trans g2) (A2.put_own e4 ew (h2.set n (Rp.mono g2 d v r)))
          · cases e1
        · cases e1
      · cases e1
    · cases e1
  · cases e1

/-! ### the spool -/
def eSp (i : Nat) (j : Int) : EF := fun s => match s.sl[i]? with
  | some (some .spl) => if j = 0 then some (.lst (s.sp.nums.map .int), s) else if j = 1 then some (.int s.sp.place, s) else if j = 2 then some (.int s.sp.cell, s) else if j = 3 then some (.int s.sp.size, s) else none
  | _ => none
theorem fe_sp (i : Nat) {j : Int} {x : Str} {pos' pos2 : Pos} {k : Nat} (hN : X.N[i]? = some x := by rfl) (hv : Vis X.env.scope x := by first | exact Or.inl rfl | exact Or.inr (Or.inl rfl) | exact Or.inr (Or.inr rfl)) (hd : (x == ("__debug__" : Str)) = false := by decide)
    (hcd : (x == ("__classdict__" : Str)) = false := by decide) : FE X C (.Subscript (.Name x pos') (.Constant (.int j) k pos2) pos) (eSp i j) := by
  refine ⟨_, pe_ix ix_list (pe_var hN hv hd hcd) pe_int (fun _ _ => rfl), ?_⟩
  intro G H σ s d s' A e1 Q q
  unfold eSp at e1
  split at e1
  · rename_i e0
    obtain ⟨w, ew, a, ha, rfl⟩ := A.slot e0
    have kk := A.spk
    unfold SpOk at kk
    rw [ha] at kk
    obtain ⟨k1, nb, k2, k3⟩ := kk
    refine ⟨.ref a, ew, ?_⟩
    split at e1
    · rename_i z
      cases e1
      exact ⟨a, _, j, _, rfl, rfl, SqL.of k2, (by rw [z]; rfl), q _ H G (Same.refl _) A k3⟩
    · split at e1
      · rename_i z
        cases e1
        exact ⟨a, _, j, _, rfl, rfl, SqL.of k2, (by rw [z]; rfl), q _ H G (Same.refl _) A rfl⟩
      · split at e1
        · rename_i z
          cases e1
          exact ⟨a, _, j, _, rfl, rfl, SqL.of k2, (by rw [z]; rfl), q _ H G (Same.refl _) A rfl⟩
        · split at e1
          · rename_i z
            cases e1
            exact ⟨a, _, j, _, rfl, rfl, SqL.of k2, (by rw [z]; rfl), q _ H G (Same.refl _) A rfl⟩
          · cases e1
  · cases e1
def sSp (i : Nat) (j : Int) (f : EF) : SF := fun s => match f s with
  | some (.int v, s1) => match s1.sl[i]? with
    | some (some .spl) => if j = 1 then some (.nx { s1 with sp := { s1.sp with place := v } }) else if j = 2 then some (.nx { s1 with sp := { s1.sp with cell := v } }) else if j = 3 then some (.nx { s1 with sp := { s1.sp with size := v } }) else none
    | _ => none
  | _ => none
theorem fs_sp (i : Nat) {j : Int} {x : Str} {pos' pos2 pos3 : Pos} {kk : Nat} (he : FE X C e f) (hN : X.N[i]? = some x := by rfl) (hv : Vis X.env.scope x := by first | exact Or.inl rfl | exact Or.inr (Or.inl rfl) | exact Or.inr (Or.inr rfl)) (hd : (x == ("__debug__" : Str)) = false := by decide)
    (hcd : (x == ("__classdict__" : Str)) = false := by decide)
    (ha : ∀ v, assign (.Subscript (.Name x pos') (.Constant (.int j) kk pos3) pos2) X.env v = (do
      let ov ← holding [v] (eval (.Name x pos') X.env)
      let iv ← holding [v, ov] (eval (.Constant (.int j) kk pos3) X.env)
      standAt pos2
      holding [v, ov, iv] (setItem ov iv v)
      release [v, ov, iv] []) := by intro _; rfl)
    (hs : swapsWithSole [.Subscript (.Name x pos') (.Constant (.int j) kk pos3) pos2] e pos.line X.env = pure false := by rfl) (hw : swappedStores [.Subscript (.Name x pos') (.Constant (.int j) kk pos3) pos2] e X.env = pure none := by rfl)
    (h1 : (assignEach [.Subscript (.Name x pos') (.Constant (.int j) kk pos3) pos2] X.env).map (·.2) = [assign (.Subscript (.Name x pos') (.Constant (.int j) kk pos3) pos2) X.env] := by rfl) :
    FS X C (.Assign [.Subscript (.Name x pos') (.Constant (.int j) kk pos3) pos2] e pos) (sSp i j f) := by
  obtain ⟨te, p, q⟩ := he
  refine ⟨_, ps_asg p (pg_sub (pe_var hN hv hd hcd) pe_int set_list ha) hs hw h1, ?_⟩
  intro G H σ s o A e1 D k
  unfold sSp at e1
  split at e1
  · rename_i v s1 e2
    split at e1
    · rename_i e0
      refine q G H σ s _ s1 A e2 _ fun u H1 G1 g1 A1 r => ?_
      have er : u = .int v := r
      subst er
      obtain ⟨w, ew, a, ha, rfl⟩ := A1.slot e0
      have kq := A1.spk
      unfold SpOk at kq
      rw [ha] at kq
      obtain ⟨k1, nb, k2, k3⟩ := kq
      refine ⟨.ref a, ew, ?_⟩
      split at e1
      · rename_i z
        cases e1
        refine ⟨a, _, j, 1, rfl, rfl, k2, (by rw [z]; rfl), ?_⟩
        exact k σ _ G1 g1 (A1.put_spl (t := { s1.sp with place := v }) ha k3)
      · split at e1
        · rename_i z
          cases e1
          refine ⟨a, _, j, 2, rfl, rfl, k2, (by rw [z]; rfl), ?_⟩
          exact k σ _ G1 g1 (A1.put_spl (t := { s1.sp with cell := v }) ha k3)
        · split at e1
          · rename_i z
            cases e1
            refine ⟨a, _, j, 3, rfl, rfl, k2, (by rw [z]; rfl), ?_⟩
            exact k σ _ G1 g1 (A1.put_spl (t := { s1.sp with size := v }) ha k3)
          · cases e1
    · cases e1
  · cases e1
end
end FD

set_option maxRecDepth 100000
namespace FD
open PySem PySem.Spec PyProof.Rows L2
/-! ## room, and no text being made of an object around -/
structure Rm (k : Nat) (A : Around) : Prop where
  rm : Room k A
  gd : A.guards = some []
theorem Rm.units {k : Nat} {A : Around} (r : Rm k A) : A.units + 64 < cLine := r.rm.units
theorem Rm.units0 {k : Nat} {A : Around} (r : Rm k A) : A.units < cLine := r.rm.units0
theorem Rm.mono {j k : Nat} {A : Around} (r : Rm k A) (h : j ≤ k) : Rm j A := ⟨r.rm.mono h, r.gd⟩
theorem Rm.deeper {k : Nat} {A : Around} (r : Rm (k + 1) A) (env : Env) : Rm k (A.deeper env) := ⟨r.rm.deeper env, r.gd⟩
/-- what a def promises where there is room -/
structure FnG (P : Program) (w : World) (K : PySem.W.Frag) (mg : Str → Option Value) (base : Heap) (CX : CXT) (k : Nat) (f : Addr) (fd : FuncData) (ps : List Str) (sp : Sp) : Prop where
  len : ∀ vs H Q E, sp vs H Q E → vs.length = ps.length
  run : ∀ (A : Around) (outer : List Env) (s : Shared) (H : Hp) (args : Args) (us : List Value) (vs : List V) (Q : VK) (E : XK),
    Rm k A → Env0 P w K mg base A outer s H → BindsTo s fd args (ps.zip us) → Vals vs us → sp vs H Q E → codeAny (model P w) A (.call (.ref f) args) (CR CX outer P w H s Q E) s
section
variable {P : Program} {w : World} {K : PySem.W.Frag} {mg : Str → Option Value} {base : Heap} {CX : CXT} {j k : Nat} {f : Addr} {fd : FuncData} {ps N : List Str} {sp sp' : Sp}
theorem FnG.mono (F : FnG P w K mg base CX j f fd ps sp) (h : j ≤ k) : FnG P w K mg base CX k f fd ps sp where
  len := F.len
  run := fun A outer s H args us vs Q E r => F.run A outer s H args us vs Q E (r.mono h)
theorem FnG.imp (F : FnG P w K mg base CX k f fd ps sp) (h : ∀ vs H Q E, sp' vs H Q E → sp vs H Q E) : FnG P w K mg base CX k f fd ps sp' where
  len := fun vs H Q E q => F.len vs H Q E (h _ _ _ _ q)
  run := fun A outer s H args us vs Q E r e b v q => F.run A outer s H args us vs Q E r e b v (h _ _ _ _ q)
theorem okG {x qual : Str} {params : Arguments} {body : List Stmt} {scope : Scope} {dvs : List V} {kws : List (Str × V)} (F : FunD K x qual params body scope dvs kws f fd) (S : FnScope N ps scope) (len : ∀ vs H Q E, sp vs H Q E → vs.length = ps.length)
    (hbody : ∀ (cdv : Value) (A : Around) (outer : List Env) (s : Shared) (H : Hp) (vs : List V) (Q : VK) (E : XK), Rm k (A.deeper (envOfC qual scope s.heap.objs.size f cdv)) → sp vs H Q E →
      ∃ t, PSs (cxOf CX P w K mg base N qual scope f cdv A outer s H E) body t ∧ t { nx := fun _ H' => Q .non H', rt := Q } (start N vs) H) : FnG P w K mg base CX (k + 1) f fd ps sp := by
  obtain ⟨oc, od, dV, kV, doc, pm, an, cdv, ct, osl, rfl, lk, hcd, _, _⟩ := F.ex
  refine ⟨len, fun A outer s H args us vs Q E rr env hb vv want => ?_⟩
  have inK : K.In s.heap := env.mod.kin.keeps fun b o z => (env.bs b o z).1
  have nolim : s.heap.NoLimit := env.mod.nolimit.keeps fun b o z => (env.bs b o z).1
  have kinds : ∀ y ∈ ps.zip us, scope.names.lookup y.1 = some .local ∨ (scope.names.lookup y.1 = some .cell ∧ ((cellsFrom (s.heap.objs.size + 1) scope.names []).lookup y.1).isSome = true) := by
    intro ⟨n, v⟩ hy
    rcases S.par n (List.of_mem_zip hy).1 with q | q
    · exact .inl q
    · exact .inr ⟨q, PySem.W.cellsFrom_some _ _ _ (.inl q)⟩
  refine codeAny_call_function rr.rm.depth (inK _ _ lk) rfl S.co S.gen rfl (PySem.W.codeRec_of inK hcd) (hb _ _ _ _ (wpAny_newFunctionEnv_cells S.kind kinds fun fr hfr s1 x => ?_))
  subst hfr
  refine ⟨nolim.keeps x.toInCall.keep, codeAny_func ?_⟩
  obtain ⟨t, pt, tw⟩ := hbody cdv A outer s H vs Q E (rr.deeper _) want
  have I0 : Inv (cxOf CX P w K mg base N qual scope f cdv A outer s H E) [] (start N vs) H s1 := inv_start S rr.rm.hd env (len _ _ _ _ want) vv x
  have close : ∀ {s' : Shared} {σ' : St} {H' : Hp} {v : V} {u : Value}, Inv (cxOf CX P w K mg base N qual scope f cdv A outer s H E) [] σ' H' s' → RelV v u → Q v H' → CE outer P w H s Q u s' := fun J rv q => ⟨_, _, J.os, J.bare, J.base, J.hok, rv, q⟩
  refine wpAny_mono (pt.run [] s1 (start N vs) H _ I0 tw) (fun fl s' hs => ?_) fun _ _ hs => hs
  match fl, hs with
  | .ret u, ⟨_, _, _, J, rv, q⟩ => exact close J rv q
  | .next, ⟨_, _, J, q⟩ => exact close (v := V.non) (u := Value.none) J rfl q
  | .brk, ⟨_, _, _, q⟩ => exact False.elim q
  | .cont, ⟨_, _, _, q⟩ => exact False.elim q
end
section
variable {X : Cx} {CX : CXT} {k : Nat} {f : Addr} {fd : FuncData} {ps : List Str} {sp : Sp} {dvs : List V} {ds : List Value} {E : XK} {x : Str} {p pos : Pos} {e : Expr} {es : List Expr} {t : TA}
theorem pe_callG (F : FnG X.prog X.w X.K X.mg X.base CX k f fd ps sp) (hr : Rm k X.A) (hg : Gl X x) (hm : X.mg x = some (.ref f)) (hk : PySem.W.keepIn X.K (.ref f) = true) (hb : Binds X.K fd ps ds) (hd : Vals dvs ds) (hx : Passes CX X E)
    (ha : PA X (e :: es) t) (hdb : (x == ("__debug__" : Str)) = false := by decide) (he : starEach (e :: es) X.env = (false, eval e X.env) :: starEach es X.env := by rfl) (hpl : (backTo pos (starEach es X.env)).any (·.1) = false := by rfl) : PE X (.Call (.Name x p) (e :: es) [] pos) (tCall sp dvs E t) where
  run := by
    intro pins s σ H Q I h
    refine wpAny_Call_Name_kw (ld_glob I hg hm (PySem.W.callWith_K (h₀ := X.base) I.ok.mod.kin hk ?_ he hpl) hdb)
    refine thn (ha.run pos pins s σ H _ I h) ?_
    rintro us s1 ⟨vs, H1, I1, rv, want⟩
    refine ⟨I1.kIn, ?_⟩
    have all : Vals (vs ++ dvs) (us ++ ds) := rv.append hd
    have hl : (us ++ ds).length = ps.length := by rw [← all.length]; exact F.len _ _ _ _ want
    refine wpAny_call (codeAny_mono (F.run X.A X.stack s1 H1 ⟨us, []⟩ (us ++ ds) (vs ++ dvs) Q E hr I1.env0 (hb s1 us I1.kIn hl) all want) fun r s' hq => ?_)
    match r, hq with
    | .error e, hq => exact hx pins σ H1 s1 e s' I1 hq
    | .ok (.ret u), hq => exact I1.after hq
    | .ok .next, hq => exact False.elim hq
    | .ok .brk, hq => exact False.elim hq
    | .ok .cont, hq => exact False.elim hq
end
/-! ## the law called -/
section
variable {P : Program} {w : World} {K : PySem.W.Frag} {mg mb : Str → Option Value} {CX : CXT} {k : Nat} {fa a : Addr} {fd : FuncData} {x : Str} {sp : Sp} {s1 : Shared} {vs : List Value} {ns : List Int}
abbrev LawEnd (s1 : Shared) : Result → Shared → Prop := fun r s' => r = .ok (.ret (.bool true)) ∧ OldK s1.heap s'.heap ∧ s'.os = s1.os ∧ AllBare s'.gens
theorem callG (inK : K.In s1.heap) (hns : s1.heap.Ns mainGlobals mg) (hb : s1.heap.Ns builtinsNs mb) (hbb : ∀ x : Str, x ≠ "__name__" → mb x = bootBuiltins x) (hlim : s1.heap.NoLimit) (hg : s1.gens = #[]) (ha : s1.heap.get? a = some { cls := .type "list", data := .seq vs.toArray }) (hi : IntsAre vs ns)
    (hl : ns.length ≤ sizeLine) (hr : Rm k callerA) (F : ∀ base : Heap, K.In base → base.Ns mainGlobals mg → FnG P w K mg base CX k fa fd [x] sp) (bind : ∀ (s : Shared) (u : Value), BindsTo s fd ⟨[u], []⟩ [(x, u)])
    (hsp : ∀ H : Hp, Only H → SqL K H a (ns.map V.int) → sp [.ref a] H (fun v _ => v = .bl true) fun _ _ _ => False) (hCX : ∀ H e s', CX [] H s1 (fun _ _ _ => False) e s' → False) : codeAny (model P w) callerA (.call (.ref fa) ⟨[.ref a], []⟩) (LawEnd s1) s1 := by
  have vals := vals_ints hi
  have lenV := hi.length
  have core : ∀ H : Hp, Only H → SqL K H a (ns.map V.int) → HOk P w H s1.heap → (∀ b, H b ≠ none → b = a) → (H a ≠ none → K.lookup a = none) → codeAny (model P w) callerA (.call (.ref fa) ⟨[.ref a], []⟩) (LawEnd s1) s1 := by
    intro H only sq ok just notK
    have down : ∀ {b : Addr} {o : Obj}, s1.heap.get? b = some o → H b = none → (hidT s1.heap H).get? b = some o := fun z n => hidT_get z n
    have off : ∀ {b : Addr} {o : Obj} {es : Array DictEntry} {ep : Nat}, s1.heap.get? b = some o → o.data = .dict es ep → H b = none := by
      intro b o es ep z d
      cases q : H b with
      | none => rfl
      | some u =>
        obtain rfl : b = a := just b (by rw [q]; simp)
        rw [ha] at z
        cases z
        exact nomatch (show Data.seq vs.toArray _ = Data.dict es ep from d)
    have names : ∀ {b : Addr} {m : Str → Option Value}, s1.heap.Ns b m → (hidT s1.heap H).Ns b m := fun ⟨o, es, ep, z, d, r⟩ => ⟨o, es, ep, down z (off z d), d, r⟩
    have inB : K.In (hidT s1.heap H) := by
      intro b o z
      refine down (inK b o z) ?_
      cases q : H b with
      | none => rfl
      | some u =>
        obtain rfl : b = a := just b (by rw [q]; simp)
        rw [notK (by rw [q]; simp)] at z
        cases z
    have md : Mod K mg (hidT s1.heap H) := ⟨inB, names hns, ⟨mb, names hb, hbb⟩, let ⟨mc, h1, h2⟩ := hlim; ⟨mc, names h1, h2⟩⟩
    have env : Env0 P w K mg (hidT s1.heap H) callerA [] s1 H := ⟨rfl, md, fun b o z => of_hidT z, Nat.le_of_eq (hidT_size _ _), trivial, fun b hb => absurd (show b ∈ ([] : List Addr) from hb) (by simp), ok, .of_eq hg⟩
    refine codeAny_mono ((F _ inB (names hns)).run callerA [] s1 H ⟨[.ref a], []⟩ [.ref a] [.ref a] _ _ hr env (bind s1 (.ref a)) (.cons rfl .nil) (hsp H only sq)) fun r s' h => ?_
    match r, h with
    | .error e, h => exact (hCX H e s' h).elim
    | .ok .next, h => exact False.elim h
    | .ok .brk, h => exact False.elim h
    | .ok .cont, h => exact False.elim h
    | .ok (.ret u), ⟨v, H', os, bare, un, ok', r', q⟩ =>
      obtain rfl : v = .bl true := q
      obtain rfl : u = Value.bool true := r'
      refine ⟨rfl, OldK.of_keep fun b o z => ?_, os, bare⟩
      cases q : H b with
      | none => exact un.keep b o z q (by intro y; exact absurd (show b ∈ ([] : List Addr) from y) (by simp)) (by simp)
      | some u =>
        rcases only b with y | ⟨ob, xs, y⟩
        · rw [q] at y
          cases y
        · obtain ⟨z1, _⟩ := ok b _ y
          obtain ⟨z2, _⟩ := ok' b _ (un.frzs b ob _ y)
          rw [z] at z1
          cases z1
          exact z2
  cases hk : K.lookup a with
  | some o =>
    have z := inK a o hk
    rw [ha] at z
    cases z
    exact core (fun _ => none) (fun _ => .inl rfl) (.inr ⟨_, vs.toArray, _, hk, rfl, rfl, rfl, by rw [List.size_toArray, lenV]; exact hl, by simpa using vals⟩) (fun b u z => nomatch (show (none : Option HO) = some u from z)) (fun b z => absurd rfl z) fun z => absurd rfl z
  | none =>
    refine core (fun b => if b = a then some (.frz { cls := .type "list", data := .seq vs.toArray } (.lst (ns.map V.int))) else none) (fun b => ?_) (.inl (.inr ⟨{ cls := .type "list", data := .seq vs.toArray }, if_pos rfl⟩)) (fun b u z => ?_) (fun b z => ?_) fun _ => hk
    · by_cases c : b = a
      · exact .inr ⟨_, _, if_pos c⟩
      · exact .inl (if_neg c)
    · by_cases c : b = a
      · cases (if_pos c).symm.trans z
        subst c
        exact ⟨ha, by rw [List.length_map]; exact hl, vs, _, vals, ha⟩
      · cases (if_neg c).symm.trans z
    · by_cases c : b = a
      · exact c
      · exact absurd (if_neg c) z
end
theorem walkG {l : PySem.W.OpenLaw} {n k : Nat} {q : Program} {loose : List Str} {XP : (Str → Option Value) → Heap → Prop} {YP : World → Heap → Prop} {d : DefRec} {CX : CXT} {x : Str} (hn : l.most = some n) (hn2 : n ≤ sizeLine) (hdf : d.params.defaults = []) (hr : Rm k callerA)
    (F : ∀ (w : World) (mg : Str → Option Value) (fa : Addr) (h : Heap), YP w h → h.Ns mainGlobals mg → mg d.name = some (.ref fa) → ∃ (K : PySem.W.Frag) (fd : FuncData) (sp : Sp), K.In h ∧ (∀ (s : Shared) (u : Value), BindsTo s fd ⟨[u], []⟩ [(x, u)]) ∧
      (∀ (H : Hp) (a : Addr) (ns : List Int), ns.length ≤ n → Only H → SqL K H a (ns.map V.int) → sp [.ref a] H (fun v _ => v = .bl true) fun _ _ _ => False) ∧ ∀ base : Heap, K.In base → base.Ns mainGlobals mg → FnG l.prog w K mg base CX k fa fd [x] sp)
    (hCX : ∀ (H : Hp) (s : Shared) (e : Value) (s' : Shared), CX [] H s (fun _ _ _ => False) e s' → False) : PySem.W.WalkO q loose XP YP l.row.toRowW d [] (fun f vs => PySem.call f vs) :=
  Att.attach_call hn hdf fun w s0 s1 mg mb fa o pm cd doc a vs ns G Y ho hd hcd hmg hobj hints hlen hg => by
    obtain ⟨K, fd, sp, inK, hb, hsp, hF⟩ := F w mg fa _ Y G.T.g hmg
    exact callG inK G.T.g G.T.b G.T.builtins G.T.nolimit hg hobj hints (Nat.le_trans hlen hn2) hr hF hb (fun H only sq => hsp H a ns hlen only sq) fun H e s' => hCX H s1 e s'
end FD

set_option maxRecDepth 100000
namespace FD
open PySem PySem.Spec PyProof.Rows L2

/-! ## loops -/
def whN : Nat → TF → SF → SF
  | 0, c, _, s => match c s with
    | some (false, s1) => some (.nx s1)
    | _ => none
  | n + 1, c, b, s => match c s with
    | some (false, s1) => some (.nx s1)
    | some (true, s1) => match b s1 with
      | some (.nx s2) => whN n c b s2
      | some (.ct s2) => whN n c b s2
      | some (.bk s2) => some (.nx s2)
      | some (.rt d s2) => some (.rt d s2)
      | some (.er c s2) => some (.er c s2)
      | none => none
    | none => none
def sWh (n : S → Nat) (c : TF) (b : SF) : SF := fun s => whN (n s) c b s
def frN : List DV → GF → SF → SF
  | [], _, _, s => some (.nx s)
  | d :: ds, g, b, s => match g d s with
    | some s1 => match b s1 with
      | some (.nx s2) => frN ds g b s2
      | some (.ct s2) => frN ds g b s2
      | some (.bk s2) => some (.nx s2)
      | some (.rt d s2) => some (.rt d s2)
      | some (.er c s2) => some (.er c s2)
      | none => none
    | none => none
def sFr (it : LF) (g : GF) (b : SF) : SF := fun s => match it s with
  | some (ds, s1) => frN ds g b s1
  | none => none
/-- what an iterator walks -/
structure Wk (K : PySem.W.Frag) (G0 : Hp) (J : It) (ds : List DV) : Prop where
  stop : ∀ (i : Nat) (G H : Hp), Same G0 G → Same G H → ds.length ≤ i → J.stop i H
  go : ∀ (i : Nat) (G H : Hp), Same G0 G → Same G H → i < ds.length → J.go i H
  yld : ∀ (i : Nat) (G H : Hp) d x H', Same G0 G → Same G H → ds[i]? = some d → J.yld i H x H' → ∃ G', Fw G H G' H' none ∧ Rp K G' x d
def EvI (K : PySem.W.Frag) (C : Cn) (wi : TI) (f : LF) : Prop := ∀ G H σ s ds s', Ab K C G H σ s → f s = some (ds, s') →
  ∀ R : It → Hp → Prop, (∀ J H' G', Same G G' → Ab K C G' H' σ s' → Wk K G' J ds → R J H') → wi σ H R
def FI (X : Cx) (C : Cn) (tg iter : Expr) (f : LF) : Prop := ∃ wi, PI X tg iter wi ∧ EvI X.K C wi f
theorem wk_list {K : PySem.W.Frag} {G : Hp} {a : Addr} {vs : List V} {ds : List DV} (h : G a = some (.lst vs)) (r : RpL K G vs ds) : Wk K G (Itl K a) ds where
  stop := fun i G1 H g1 g2 hi => ⟨vs, SqL.of (g2 _ _ (g1 _ _ h)), by rw [r.length]; exact hi⟩
  go := fun i G1 H g1 g2 hi => by
    have hv : i < vs.length := by rw [r.length]; exact hi
    exact ⟨vs, vs[i], SqL.of (g2 _ _ (g1 _ _ h)), List.getElem?_eq_getElem hv⟩
  yld := fun i G1 H d x H' g1 g2 e y => by
    obtain ⟨e1, e2⟩ := y
    subst e1
    obtain ⟨v, q1, q2⟩ := r.get e
    have q3 := e2 vs (SqL.of (g2 _ _ (g1 _ _ h)))
    rw [q1] at q3
    cases q3
    exact ⟨G1, Fw.refl g2, Rp.mono g1 d _ q2⟩
theorem wk_tup {K : PySem.W.Frag} {G : Hp} {a : Addr} {vs : List V} {ds : List DV} (h : G a = some (.tup vs)) (r : RpL K G vs ds) : Wk K G (Itt K a) ds where
  stop := fun i G1 H g1 g2 hi => ⟨vs, Same.tup g2 (g1 _ _ h), by rw [r.length]; exact hi⟩
  go := fun i G1 H g1 g2 hi => by
    have hv : i < vs.length := by rw [r.length]; exact hi
    exact ⟨vs, vs[i], Same.tup g2 (g1 _ _ h), List.getElem?_eq_getElem hv⟩
  yld := fun i G1 H d x H' g1 g2 e y => by
    obtain ⟨e1, e2⟩ := y
    subst e1
    obtain ⟨v, q1, q2⟩ := r.get e
    have q3 := e2 vs (Same.tup g2 (g1 _ _ h))
    rw [q1] at q3
    cases q3
    exact ⟨G1, Fw.refl g2, Rp.mono g1 d _ q2⟩
def rngD (lo : Int) (n : Nat) : List DV := (List.range n).map fun (i : Nat) => .int (lo + (i : Int))
theorem wk_rng {K : PySem.W.Frag} {G : Hp} (lo : Int) (n : Nat) : Wk K G (Itr lo n) (rngD lo n) where
  stop := fun i G1 H g1 g2 hi => by
    unfold rngD at hi
    rw [List.length_map, List.length_range] at hi
    exact hi
  go := fun i G1 H g1 g2 hi => by
    unfold rngD at hi
    rw [List.length_map, List.length_range] at hi
    exact hi
  yld := fun i G1 H d x H' g1 g2 e y => by
    obtain ⟨e1, e2⟩ := y
    subst e1
    unfold rngD at e
    rw [List.getElem?_map] at e
    by_cases hi : i < n
    · rw [List.getElem?_range hi] at e
      cases e
      exact ⟨G1, Fw.refl g2, e2⟩
    · rw [List.getElem?_eq_none (by rw [List.length_range]; omega)] at e
      cases e
section
variable {X : Cx} {C : Cn} {e a b c tg : Expr} {es : List Expr} {st : Stmt} {rest body : List Stmt} {pos p p2 : Pos} {f g h : EF} {t : TF} {u w : SF}
/-- over a value: a list or a tuple -/
def iVal (f : EF) : LF := fun s => match f s with
  | some (.lst ds, s1) => some (ds, s1)
  | _ => none
def iTp (f : EF) : LF := fun s => match f s with
  | some (.tup ds, s1) => some (ds, s1)
  | _ => none
theorem fi_list (h : FE X C e f) : FI X C tg e (iVal f) := by
  obtain ⟨te, p, q⟩ := h
  refine ⟨_, pi_list p, ?_⟩
  intro G H σ s ds s' A e1 R k
  unfold iVal at e1
  split at e1
  · rename_i ds' s1 e2
    cases e1
    refine q G H σ s _ _ A e2 _ fun v H1 G1 g1 A1 r => ?_
    obtain ⟨a, vs, rfl, r1, r2⟩ := r
    exact ⟨a, rfl, ⟨vs, SqL.of (A1.gh _ _ r1)⟩, k _ H1 G1 g1 A1 (wk_list r1 r2)⟩
  · cases e1
theorem fi_tup (h : FE X C e f) : FI X C tg e (iTp f) := by
  obtain ⟨te, p, q⟩ := h
  refine ⟨_, pi_tup p, ?_⟩
  intro G H σ s ds s' A e1 R k
  unfold iTp at e1
  split at e1
  · rename_i ds' s1 e2
    cases e1
    refine q G H σ s _ _ A e2 _ fun v H1 G1 g1 A1 r => ?_
    obtain ⟨a, vs, rfl, r1, r2⟩ := r
    exact ⟨a, rfl, ⟨vs, Same.tup A1.gh r1⟩, k _ H1 G1 g1 A1 (wk_tup r1 r2)⟩
  · cases e1
def inR (j : Int) : Bool := decide (-(2 ^ 62) ≤ j ∧ j < 2 ^ 62)
def iRg1 (f : AF) : LF := fun s => match f s with
  | some ([.int j], s1) => if inR j then some (rngD 0 j.toNat, s1) else none
  | _ => none
def iRg2 (f : AF) : LF := fun s => match f s with
  | some ([.int i, .int j], s1) => if inR i && inR j then some (rngD i (j - i).toNat, s1) else none
  | _ => none
theorem fi_range1 {ff : AF} (hm : X.mg "range" = none) (h : FA X C [a] ff) (hg : Gl X "range" := by rfl) (hs : starEach [a] X.env = [(false, eval a X.env)] := by rfl) : FI X C tg (.Call (.Name "range" p) [a] [] pos) (iRg1 ff) := by
  obtain ⟨ta, p, q⟩ := h
  refine ⟨_, pi_range1 hg hm p hs, ?_⟩
  intro G H σ s ds s' A e1 R k
  unfold iRg1 at e1
  split at e1
  · split at e1
    · rename_i j s1 e2 hj
      cases e1
      refine q G H σ s _ _ A e2 _ fun vs H1 G1 g1 A1 r => ?_
      obtain ⟨v, e3, r1⟩ := r.single
      rw [show v = .int j from r1] at e3
      obtain ⟨h1, h2⟩ := of_decide_eq_true hj
      exact ⟨j, e3, h1, h2, k _ H1 G1 g1 A1 (wk_rng 0 _)⟩
    · cases e1
  · cases e1
theorem fi_range2 {ff : AF} (hm : X.mg "range" = none) (h : FA X C [a, b] ff) (hg : Gl X "range" := by rfl) (hs : starEach [a, b] X.env = [(false, eval a X.env), (false, eval b X.env)] := by rfl) (hs2 : starEach [b] X.env = [(false, eval b X.env)] := by rfl) : FI X C tg (.Call (.Name "range" p) [a, b] [] pos) (iRg2 ff) := by
  obtain ⟨ta, p, q⟩ := h
  refine ⟨_, pi_range2 hg hm p hs hs2, ?_⟩
  intro G H σ s ds s' A e1 R k
  unfold iRg2 at e1
  split at e1
  · split at e1
    · rename_i i j s1 e2 hj
      cases e1
      refine q G H σ s _ _ A e2 _ fun vs H1 G1 g1 A1 r => ?_
      obtain ⟨v, w, e3, r1, r2⟩ := r.double
      rw [show v = .int i from r1, show w = .int j from r2] at e3
      rw [Bool.and_eq_true] at hj
      obtain ⟨h1, h2⟩ := of_decide_eq_true hj.1
      obtain ⟨h3, h4⟩ := of_decide_eq_true hj.2
      exact ⟨i, j, e3, ⟨h1, h2, h3, h4⟩, k _ H1 G1 g1 A1 (wk_rng i _)⟩
    · cases e1
  · cases e1
theorem fs_for {g : GF} {it : LF} (hp : PassesOwn (model X.prog X.w) X.A X.env X.xe) (hc : X.calm = true) (hi : FI X C tg e it) (hg : FG X C tg g) (hb : FSs X C body u) (hs : ∀ x, foldedSetIterable e X.env x = pure x := by intro _; rfl) : FS X C (.For tg e body [] pos) (sFr it g u) := by
  obtain ⟨wi, p1, q1⟩ := hi
  obtain ⟨tg', p2, q2⟩ := hg
  obtain ⟨tb, p3, q3⟩ := hb
  refine ⟨_, ps_for hp hc p1 p2 p3 hs, ?_⟩
  intro G H σ s o A e1 D k
  unfold sFr at e1
  split at e1
  · rename_i ds s1 e2
    refine q1 G H σ s ds s1 A e2 _ fun J H1 G1 g1 A1 wk => ?_
    refine ⟨fun i m σ' H' => m = ds.length - i ∧ i ≤ ds.length ∧ ∃ G2 s2, Same G1 G2 ∧ Ab X.K C G2 H' σ' s2 ∧ frN (ds.drop i) g u s2 = some o, ⟨_, rfl, Nat.zero_le _, G1, s1, Same.refl _, A1, e1⟩, ?_⟩
    rintro i m σ' H' ⟨rfl, hi, G2, s2, g2, A2, e3⟩
    by_cases hl : i < ds.length
    · refine .inr ⟨wk.go i G2 H' g2 A2.gh hl, fun σ'' H'' => ∃ G3 s3, Same G1 G3 ∧ Ab X.K C G3 H'' σ'' s3 ∧ frN (ds.drop (i + 1)) g u s3 = some o, ?_, ?_⟩
      · rintro σ'' H'' ⟨G3, s3, g3, A3, e4⟩
        exact ⟨ds.length - (i + 1), by omega, rfl, hl, G3, s3, g3, A3, e4⟩
      · intro x H'' y
        have ed : ds.drop i = ds[i] :: ds.drop (i + 1) := List.drop_eq_getElem_cons hl
        obtain ⟨G3, F, r⟩ := wk.yld i G2 H' ds[i] x H'' g2 A2.gh (List.getElem?_eq_getElem hl) y
        have A3 := A2.fw0 F
        rw [ed] at e3
        unfold frN at e3
        split at e3
        · rename_i s3 e4
          refine q2 G3 H'' σ' s2 x ds[i] s3 A3 r e4 _ fun σ4 H4 G4 g4 A4 => ?_
          have g5 : Same G1 G4 := (g2.trans F.g).trans g4
          split at e3
          · rename_i s5 e5
            refine q3 G4 H4 σ4 s3 _ A4 e5 _ ?_
            exact fun σ6 H6 G6 g6 A6 => ⟨G6, s5, g5.trans g6, A6, e3⟩
          · rename_i s5 e5
            refine q3 G4 H4 σ4 s3 _ A4 e5 _ ?_
            exact fun σ6 H6 G6 g6 A6 => ⟨G6, s5, g5.trans g6, A6, e3⟩
          · rename_i s5 e5
            cases e3
            refine q3 G4 H4 σ4 s3 _ A4 e5 _ ?_
            exact fun σ6 H6 G6 g6 A6 => k σ6 H6 G6 ((g1.trans g5).trans g6) A6
          · rename_i d5 s5 e5
            cases e3
            refine q3 G4 H4 σ4 s3 _ A4 e5 _ ?_
            exact fun v σ6 H6 G6 g6 A6 => k v σ6 H6 G6 ((g1.trans g5).trans g6) A6
          · rename_i d5 s5 e5
            cases e3
            refine q3 G4 H4 σ4 s3 _ A4 e5 _ ?_
            exact fun σ6 H6 G6 g6 A6 => k σ6 H6 G6 ((g1.trans g5).trans g6) A6
          · cases e3
        · cases e3
    · have hz : ds.drop i = [] := List.drop_eq_nil_of_le (by omega)
      rw [hz] at e3
      unfold frN at e3
      cases e3
      exact .inl ⟨wk.stop i G2 H' g2 A2.gh (by omega), k σ' H' G2 (g1.trans g2) A2⟩
  · cases e1
theorem fs_while (n : S → Nat) (hp : PassesOwn (model X.prog X.w) X.A X.env X.xe) (hc : FT X C c t) (hb : FSs X C body u) : FS X C (.While c body [] pos) (sWh n t u) := by
  obtain ⟨tc, p1, q1⟩ := hc
  obtain ⟨tb, p2, q2⟩ := hb
  refine ⟨_, ps_while hp p1 p2, ?_⟩
  intro G H σ s o A e1 D k
  refine ⟨fun m σ' H' => ∃ G2 s2, Same G G2 ∧ Ab X.K C G2 H' σ' s2 ∧ whN m t u s2 = some o, ⟨n s, G, s, Same.refl _, A, e1⟩, ?_⟩
  rintro m σ' H' ⟨G2, s2, g2, A2, e2⟩
  cases m with
  | zero =>
    unfold whN at e2
    split at e2
    · rename_i s3 e3
      cases e2
      refine q1 G2 H' σ' s2 _ _ A2 e3 _ fun H3 G3 g3 A3 => ?_
      rw [if_neg Bool.false_ne_true]
      exact k σ' H3 G3 (g2.trans g3) A3
    · cases e2
  | succ m =>
    unfold whN at e2
    split at e2
    · rename_i s3 e3
      cases e2
      refine q1 G2 H' σ' s2 _ _ A2 e3 _ fun H3 G3 g3 A3 => ?_
      rw [if_neg Bool.false_ne_true]
      exact k σ' H3 G3 (g2.trans g3) A3
    · rename_i s3 e3
      refine q1 G2 H' σ' s2 _ _ A2 e3 _ fun H3 G3 g3 A3 => ?_
      rw [if_pos rfl]
      refine ⟨fun σ'' H'' => ∃ G4 s4, Same G G4 ∧ Ab X.K C G4 H'' σ'' s4 ∧ whN m t u s4 = some o, fun σ'' H'' z => ⟨m, Nat.lt_succ_self _, z⟩, ?_⟩
      split at e2
      · rename_i s5 e5
        exact q2 G3 H3 σ' s3 _ A3 e5 _ fun σ6 H6 G6 g6 A6 => ⟨G6, s5, (g2.trans g3).trans g6, A6, e2⟩
      · rename_i s5 e5
        exact q2 G3 H3 σ' s3 _ A3 e5 _ fun σ6 H6 G6 g6 A6 => ⟨G6, s5, (g2.trans g3).trans g6, A6, e2⟩
      · rename_i s5 e5
        cases e2
        exact q2 G3 H3 σ' s3 _ A3 e5 _ fun σ6 H6 G6 g6 A6 => k σ6 H6 G6 ((g2.trans g3).trans g6) A6
      · rename_i d5 s5 e5
        cases e2
        exact q2 G3 H3 σ' s3 _ A3 e5 _ fun v σ6 H6 G6 g6 A6 => k v σ6 H6 G6 ((g2.trans g3).trans g6) A6
      · rename_i d5 s5 e5
        cases e2
        exact q2 G3 H3 σ' s3 _ A3 e5 _ fun σ6 H6 G6 g6 A6 => k σ6 H6 G6 ((g2.trans g3).trans g6) A6
      · cases e2
    · cases e2
end

/-! ## defs -/
/-- a def that reads data and gives data; one that draws from the spool, its first argument -/
def spP (K : PySem.W.Frag) (f : List DV → Option DV) : Sp := fun vs H Q _ => ∃ G ds d, Same G H ∧ RpL K G vs ds ∧ f ds = some d ∧ ∀ v H' G', Fw G H G' H' none → Rp K G' v d → Q v H'
def spS (K : PySem.W.Frag) (f : List DV → Spl → Option (DV × Spl)) : Sp := fun vs H Q _ => ∃ G a vs' ds s d s', vs = .ref a :: vs' ∧ Same G H ∧ RpL K G vs' ds ∧ SpOk K G H (some a) s ∧ f ds s = some (d, s') ∧
  ∀ v H' G', Fw G H G' H' (some a) → SpOk K G' H' (some a) s' → Rp K G' v d → Q v H'
def spl0 : Spl := ⟨[], 0, 0, 0⟩
/-- what a body is worth for arguments; n parameters, m slots -/
def bodyP (n m : Nat) (g : SF) : List DV → Option DV := fun ds =>
  if ds.length = n then match g ⟨ds.map (fun d => some (.dat d)) ++ List.replicate (m - n) none, spl0⟩ with
    | some (.rt d _) => some d
    | some (.nx _) => some .non
    | _ => none
  else none
def bodyS (n m : Nat) (g : SF) : List DV → Spl → Option (DV × Spl) := fun ds t =>
  if ds.length + 1 = n then match g ⟨some .spl :: ds.map (fun d => some (.dat d)) ++ List.replicate (m - n) none, t⟩ with
    | some (.rt d s) => some (d, s.sp)
    | some (.nx s) => some (.non, s.sp)
    | _ => none
  else none
section
variable {P : Program} {w : World} {K : PySem.W.Frag} {mg : Str → Option Value} {base : Heap}
theorem slots_ok {C : Cn} {G H : Hp} : ∀ {vs : List V} {ds : List DV}, RpL K G vs ds → ∀ (m i : Nat) v x, (vs.map some ++ List.replicate m none)[i]? = some v → (ds.map (fun d => some (SV.dat d)) ++ List.replicate m none)[i]? = some x → SlOk K C G H v x := fun {vs ds} r m i v x e1 e2 => by
  have hl := r.length
  by_cases hi : i < ds.length
  · rw [List.getElem?_append_left (by simpa using hi), List.getElem?_map] at e2
    rw [List.getElem?_append_left (by rw [List.length_map, hl]; exact hi), List.getElem?_map] at e1
    obtain ⟨u, q1, q2⟩ := r.get (i := i) (d := ds[i]) (List.getElem?_eq_getElem hi)
    rw [q1] at e1
    rw [List.getElem?_eq_getElem hi] at e2
    cases e1
    cases e2
    exact ⟨u, rfl, q2⟩
  · rw [List.getElem?_append_right (by simpa using hi), List.getElem?_replicate] at e2
    split at e2
    · cases e2
      trivial
    · cases e2
theorem no_own {ds : List DV} {m i : Nat} {es : List DV} (h : (ds.map (fun d => some (SV.dat d)) ++ List.replicate m none)[i]? = some (some (.own es))) : False := by
  by_cases hi : i < ds.length
  · rw [List.getElem?_append_left (by simpa using hi), List.getElem?_map, List.getElem?_eq_getElem hi] at h
    cases h
  · rw [List.getElem?_append_right (by simpa using hi), List.getElem?_replicate] at h
    split at h <;> cases h
theorem ab_start {W : Value → Option Addr → St → Hp → Prop} {G H : Hp} {vs : List V} {ds : List DV} (g : Same G H) (r : RpL K G vs ds) (m : Nat) (t : Spl) : Ab K ⟨G, H, none, W⟩ G H (vs.map some ++ List.replicate m none) ⟨ds.map (fun d => some (.dat d)) ++ List.replicate m none, t⟩ where
  gh := g
  fr := fun b o e _ => e
  g0 := Same.refl _
  gn := fun b _ => rfl
  len := by simp [r.length]
  sl := fun i v x e1 e2 => slots_ok r m i v x e1 e2
  dis := fun i j a ds' es _ h => (no_own h).elim
  spk := trivial
theorem ab_startS {W : Value → Option Addr → St → Hp → Prop} {G H : Hp} {a : Addr} {vs : List V} {ds : List DV} {t : Spl} (g : Same G H) (r : RpL K G vs ds) (k : SpOk K G H (some a) t) (m : Nat) : Ab K ⟨G, H, some a, W⟩ G H (some (.ref a) :: vs.map some ++ List.replicate m none) ⟨some .spl :: ds.map (fun d => some (.dat d)) ++ List.replicate m none, t⟩ where
  gh := g
  fr := fun b o e _ => e
  g0 := Same.refl _
  gn := fun b _ => rfl
  len := by simp [r.length]
  sl := fun i v x e1 e2 => by
    cases i with
    | zero =>
      cases e1
      cases e2
      exact ⟨a, rfl, rfl⟩
    | succ i => exact slots_ok r m i v x (by simpa using e1) (by simpa using e2)
  dis := fun i j a' ds' es _ h => by
    cases i with
    | zero => cases h
    | succ i => exact (no_own (by simpa using h)).elim
  spk := k
/-- what a def of the text promises, from its body -/
theorem fn_pure {x qual : Str} {params : Arguments} {body : List Stmt} {scope : Scope} {dvs : List V} {kws : List (Str × V)} {f : Addr} {fd : FuncData} {N ps : List Str} {k : Nat} {g : SF} (F : FunD K x qual params body scope dvs kws f fd) (Sc : FnScope N ps scope)
    (h : ∀ (C : Cn) (cdv : Value) (A : Around) (outer : List Env) (s : Shared) (H : Hp) (E : XK), C.sp = none → Rm k (A.deeper (envOfC qual scope s.heap.objs.size f cdv)) → FSs (cxOf CX0 P w K mg base N qual scope f cdv A outer s H E).nox C body g) :
    FnG P w K mg base CX0 (k + 1) f fd ps (spP K (bodyP ps.length N.length g)) := by
  refine okG F Sc (fun vs H Q E h => ?_) (fun cdv A outer s H vs Q E hr hsp => ?_)
  · obtain ⟨G, ds, d, _, r, e, _⟩ := h
    unfold bodyP at e
    split at e
    · rename_i hl
      rw [r.length, hl]
    · cases e
  · obtain ⟨G, ds, d, g0, r, e, q⟩ := hsp
    unfold bodyP at e
    split at e
    · rename_i hl
      obtain ⟨t, p1, q1⟩ := h ⟨G, H, none, noW⟩ cdv A outer s H E rfl hr
      have A0 := ab_start (K := K) (W := noW) g0 r (N.length - ps.length) spl0
      have es : L2.start N vs = vs.map some ++ List.replicate (N.length - ps.length) none := by
        unfold L2.start
        rw [r.length, hl]
      refine ⟨t, p1.nox, ?_⟩
      rw [es]
      split at e
      · rename_i d' s' e1
        cases e
        refine q1 G H _ _ _ A0 e1 _ ?_
        exact fun v σ' H' G' g1 A1 rv => q v H' G' ⟨g1, A1.gh, fun b o e n => A1.fr b o e n, A1.gn⟩ rv
      · rename_i s' e1
        cases e
        refine q1 G H _ _ _ A0 e1 _ ?_
        exact fun σ' H' G' g1 A1 => q .non H' G' ⟨g1, A1.gh, fun b o e n => A1.fr b o e n, A1.gn⟩ rfl
      · cases e
    · cases e
theorem fn_spool {x qual : Str} {params : Arguments} {body : List Stmt} {scope : Scope} {dvs : List V} {kws : List (Str × V)} {f : Addr} {fd : FuncData} {N ps : List Str} {k : Nat} {g : SF} (F : FunD K x qual params body scope dvs kws f fd) (Sc : FnScope N ps scope)
    (h : ∀ (C : Cn) (cdv : Value) (A : Around) (outer : List Env) (s : Shared) (H : Hp) (E : XK), Rm k (A.deeper (envOfC qual scope s.heap.objs.size f cdv)) → FSs (cxOf CX0 P w K mg base N qual scope f cdv A outer s H E).nox C body g) :
    FnG P w K mg base CX0 (k + 1) f fd ps (spS K (bodyS ps.length N.length g)) := by
  refine okG F Sc (fun vs H Q E h => ?_) (fun cdv A outer s H vs Q E hr hsp => ?_)
  · obtain ⟨G, a, vs', ds, t, d, t', e0, _, r, _, e, _⟩ := h
    unfold bodyS at e
    split at e
    · rename_i hl
      rw [e0, List.length_cons, r.length, hl]
    · cases e
  · obtain ⟨G, a, vs', ds, t, d, t', e0, g0, r, kk, e, q⟩ := hsp
    subst e0
    unfold bodyS at e
    split at e
    · rename_i hl
      obtain ⟨tt, p1, q1⟩ := h ⟨G, H, some a, noW⟩ cdv A outer s H E hr
      have A0 := ab_startS (K := K) (W := noW) g0 r kk (N.length - ps.length)
      have es : L2.start N (.ref a :: vs') = some (.ref a) :: vs'.map some ++ List.replicate (N.length - ps.length) none := by
        unfold L2.start
        rw [List.length_cons, r.length, hl]
        rfl
      refine ⟨tt, p1.nox, ?_⟩
      rw [es]
      split at e
      · rename_i d' s' e1
        cases e
        refine q1 G H _ _ _ A0 e1 _ ?_
        exact fun v σ' H' G' g1 A1 rv => q v H' G' ⟨g1, A1.gh, fun b o e n => A1.fr b o e n, A1.gn⟩ A1.spk rv
      · rename_i s' e1
        cases e
        refine q1 G H _ _ _ A0 e1 _ ?_
        exact fun σ' H' G' g1 A1 => q .non H' G' ⟨g1, A1.gh, fun b o e n => A1.fr b o e n, A1.gn⟩ A1.spk rfl
      · cases e
    · cases e
theorem FnG.toP {k : Nat} {f : Addr} {fd : FuncData} {ps : List Str} {f1 f2 : List DV → Option DV} (F : FnG P w K mg base CX0 k f fd ps (spP K f1)) (h : ∀ ds d, f2 ds = some d → f1 ds = some d) : FnG P w K mg base CX0 k f fd ps (spP K f2) :=
  F.imp fun vs H Q E ⟨G, ds, d, g, r, e, q⟩ => ⟨G, ds, d, g, r, h ds d e, q⟩
theorem FnG.toS {k : Nat} {f : Addr} {fd : FuncData} {ps : List Str} {f1 f2 : List DV → Spl → Option (DV × Spl)} (F : FnG P w K mg base CX0 k f fd ps (spS K f1)) (h : ∀ ds t d, f2 ds t = some d → f1 ds t = some d) : FnG P w K mg base CX0 k f fd ps (spS K f2) :=
  F.imp fun vs H Q E ⟨G, a, vs', ds, t, d, t', e0, g, r, kk, e, q⟩ => ⟨G, a, vs', ds, t, d, t', e0, g, r, kk, h ds t _ e, q⟩
end
section
variable {X : Cx} {C : Cn} {e a b c tg : Expr} {es : List Expr} {pos p p2 : Pos} {f g h : EF}
/-- f(e, ..), f a def of the text -/
theorem fe_call {op : List DV → Option DV} {k : Nat} {fa : Addr} {fd : FuncData} {ps : List Str} {x : Str} {ff : AF} (F : FnG X.prog X.w X.K X.mg X.base CX0 k fa fd ps (spP X.K op)) (hr : Rm k X.A) (hm : X.mg x = some (.ref fa)) (hk : PySem.W.keepIn X.K (.ref fa) = true) (hb : Binds X.K fd ps [])
    (ha : FA X C (e :: es) ff) (hg : Gl X x := by rfl) (hdb : (x == ("__debug__" : Str)) = false := by decide) (he : starEach (e :: es) X.env = (false, eval e X.env) :: starEach es X.env := by rfl) (hpl : (backTo pos (starEach es X.env)).any (·.1) = false := by rfl) :
    FE X C (.Call (.Name x p) (e :: es) [] pos) (eA ff op) := by
  obtain ⟨ta, p1, q1⟩ := ha
  refine ⟨_, pe_callG F hr hg hm hk hb .nil pass0 p1 hdb he hpl, evA_of (r := fun vs H1 Q => spP X.K op (vs ++ []) H1 Q E0) q1 (fun _ _ _ h => h) fun G H σ s vs ds d A r e1 Q q => ?_⟩
  rw [List.append_nil]
  exact ⟨G, ds, d, A.gh, r, e1, q⟩
/-- f(spool, e, ..) -/
def eS (i : Nat) (g : AF) (op : List DV → Spl → Option (DV × Spl)) : EF := fun s => match s.sl[i]? with
  | some (some .spl) => match g s with
    | some (ds, s1) => match op ds s1.sp with
      | some (d, t) => some (d, { s1 with sp := t })
      | none => none
    | none => none
  | _ => none
theorem fe_callS (i : Nat) {op : List DV → Spl → Option (DV × Spl)} {k : Nat} {fa : Addr} {fd : FuncData} {ps : List Str} {x y : Str} {ff : AF} {py : Pos} (F : FnG X.prog X.w X.K X.mg X.base CX0 k fa fd ps (spS X.K op)) (hr : Rm k X.A) (hm : X.mg x = some (.ref fa)) (hk : PySem.W.keepIn X.K (.ref fa) = true) (hb : Binds X.K fd ps [])
    (ha : FA X C es ff) (hg : Gl X x := by rfl) (hN : X.N[i]? = some y := by rfl) (hv : Vis X.env.scope y := by first | exact Or.inl rfl | exact Or.inr (Or.inl rfl) | exact Or.inr (Or.inr rfl)) (hd : (y == ("__debug__" : Str)) = false := by decide)
    (hcd : (y == ("__classdict__" : Str)) = false := by decide) (hdb : (x == ("__debug__" : Str)) = false := by decide) (he : starEach (.Name y py :: es) X.env = (false, eval (.Name y py) X.env) :: starEach es X.env := by rfl) (hpl : (backTo pos (starEach es X.env)).any (·.1) = false := by rfl) :
    FE X C (.Call (.Name x p) (.Name y py :: es) [] pos) (eS i ff op) := by
  obtain ⟨ta, p1, q1⟩ := ha
  refine ⟨_, pe_callG F hr hg hm hk hb .nil pass0 (pa_cons (pe_var hN hv hd hcd) p1 he) hdb he hpl, ?_⟩
  intro G H σ s d s' A e1 Q q
  unfold eS at e1
  split at e1
  · rename_i e0
    split at e1
    · rename_i ds s1 e2
      split at e1
      · rename_i d' t e3
        cases e1
        obtain ⟨w, ew, a, ha, rfl⟩ := A.slot e0
        refine ⟨.ref a, ew, q1 G H σ s ds s1 A e2 _ fun vs H1 G1 g1 A1 r => ?_⟩
        have kk := A1.spk
        rw [ha] at kk
        refine ⟨G1, a, vs, ds, s1.sp, _, t, by rw [List.append_nil], A1.gh, r, kk, e3, fun v H' G' F' k' rv => ?_⟩
        rw [← ha] at F' k'
        exact q v H' G' (g1.trans F'.g) (A1.fw F' k') rv
      · cases e1
    · cases e1
  · cases e1
end
end FD

set_option maxRecDepth 100000
namespace FD
open PySem PySem.Spec PyProof.Rows L2

/-! ## enumerate -/
def enD : Nat → List DV → List DV
  | _, [] => []
  | n, d :: ds => .tup [.int (n : Int), d] :: enD (n + 1) ds
theorem enD_len : ∀ (n : Nat) (ds : List DV), (enD n ds).length = ds.length
  | _, [] => rfl
  | n, d :: ds => congrArg Nat.succ (enD_len (n + 1) ds)
theorem enD_get : ∀ (ds : List DV) (n i : Nat) (x : DV), (enD n ds)[i]? = some x → ∃ d, ds[i]? = some d ∧ x = .tup [.int ((n + i : Nat) : Int), d]
  | [], n, i, x, h => by simp [enD] at h
  | d :: ds, n, 0, x, h => by
    simp [enD] at h
    exact ⟨d, rfl, h.symm⟩
  | d :: ds, n, i + 1, x, h => by
    have h' : (enD (n + 1) ds)[i]? = some x := by simpa [enD] using h
    obtain ⟨e, h1, h2⟩ := enD_get ds (n + 1) i x h'
    refine ⟨e, by simpa using h1, ?_⟩
    rw [h2]
    congr 4
    omega
theorem wk_enum {K : PySem.W.Frag} {G : Hp} {a : Addr} {vs : List V} {ds : List DV} (h : G a = some (.lst vs)) (r : RpL K G vs ds) : Wk K G (Ite K a) (enD 0 ds) where
  stop := fun i G1 H g1 g2 hi => ⟨vs, SqL.of (g2 _ _ (g1 _ _ h)), by rw [r.length, ← enD_len 0 ds]; exact hi⟩
  go := fun i G1 H g1 g2 hi => by
    have hv : i < vs.length := by rw [r.length, ← enD_len 0 ds]; exact hi
    exact ⟨vs, vs[i], SqL.of (g2 _ _ (g1 _ _ h)), List.getElem?_eq_getElem hv⟩
  yld := fun i G1 H d x H' g1 g2 e y => by
    obtain ⟨T, z, rfl, nT, rfl, q⟩ := y
    obtain ⟨dd, e1, e2⟩ := enD_get ds 0 i d e
    subst e2
    obtain ⟨v, q1, q2⟩ := r.get e1
    have q3 := q vs (SqL.of (g2 _ _ (g1 _ _ h)))
    rw [q1] at q3
    have ez : z = v := (Option.some.inj q3).symm
    subst ez
    have F : Fw G1 H (upd G1 T (.tup [.int (i : Nat), z])) (upd H T (.tup [.int (i : Nat), z])) none := Fw.add g2 nT
    refine ⟨_, F, T, _, rfl, upd_same, _, _, rfl, ?_, RpL.one (Rp.mono F.g _ _ (Rp.mono g1 _ _ q2))⟩
    show V.int (i : Nat) = V.int ((0 + i : Nat) : Int)
    rw [Nat.zero_add]
section
variable {X : Cx} {C : Cn} {e a b c : Expr} {es elts : List Expr} {pos p tpos : Pos} {f g h : EF}
def iEn (f : EF) : LF := fun s => match f s with
  | some (.lst ds, s1) => some (enD 0 ds, s1)
  | _ => none
theorem fi_enum {kk : Nat} (hm : X.mg "enumerate" = none) (h : FE X C e f) (hg : Gl X "enumerate" := by rfl) (hs : starEach [e] X.env = (false, eval e X.env) :: starEach [] X.env := by rfl) (hs' : starEach [e] X.env = [(false, eval e X.env)] := by rfl) : FI X C (.Tuple elts kk tpos) (.Call (.Name "enumerate" p) [e] [] pos) (iEn f) := by
  obtain ⟨te, p1, q1⟩ := h
  refine ⟨_, pi_enum hg hm (pa_cons p1 pa_nil hs) hs', ?_⟩
  intro G H σ s ds s' A e1 R k
  unfold iEn at e1
  split at e1
  · rename_i ds' s1 e2
    cases e1
    refine q1 G H σ s _ _ A e2 _ fun v H1 G1 g1 A1 r => ?_
    obtain ⟨a, vs, rfl, r1, r2⟩ := r
    exact ⟨a, vs, rfl, SqL.of (A1.gh _ _ r1), k _ H1 G1 g1 A1 (wk_enum r1 r2)⟩
  · cases e1

/-! ## list comprehensions: one for, one name -/
def tY : TF := fun s => some (true, s)
def cpN : List DV → Nat → TF → EF → S → List DV → Option (List DV × S)
  | [], _, _, _, s, acc => some (acc, s)
  | d :: ds, i, t, f, s, acc => match t { s with sl := s.sl.set i (some (.dat d)) } with
    | some (true, s2) => match f s2 with
      | some (y, s3) => if acc.length < sizeLine then cpN ds i t f { s3 with sl := s3.sl.set i none } (acc ++ [y]) else none
      | none => none
    | some (false, s2) => cpN ds i t f { s2 with sl := s2.sl.set i none } acc
    | none => none
def lCp (it : LF) (i : Nat) (t : TF) (f : EF) : LF := fun s => match it s with
  | some (ds, s1) => cpN ds i t f { s1 with sl := s1.sl.set i none } []
  | none => none
theorem Ab.forget {K : PySem.W.Frag} {G H : Hp} {σ σ' : List (Option V)} {s : S} {sl' : List (Option SV)} (A : Ab K C G H σ s) (hl : σ'.length = sl'.length) (h : ∀ (i : Nat) x, sl'[i]? = some (some x) → s.sl[i]? = some (some x) ∧ σ'[i]? = σ[i]?) : Ab K C G H σ' { s with sl := sl' } where
  gh := A.gh
  fr := A.fr
  g0 := A.g0
  gn := A.gn
  len := hl
  sl := fun i v x e1 e2 => by
    cases x with
    | none => trivial
    | some x =>
      obtain ⟨h1, h2⟩ := h i x e2
      exact A.sl i v (some x) (by rw [← h2]; exact e1) h1
  dis := fun i j a ds es n e1 e2 e3 => by
    obtain ⟨h1, h2⟩ := h i _ e1
    obtain ⟨h3, h4⟩ := h j _ e2
    rw [h4]
    rw [h2] at e3
    exact A.dis i j a ds es n h1 h3 e3
  spk := A.spk
section
variable {K : PySem.W.Frag} {G H G' H' : Hp} {σ : List (Option V)} {s : S} {D : Addr} {vs : List V} {acc : List DV}
theorem NewL.fw (n : NewL K C G H σ s D vs acc) (F : Fw G H G' H' none) : NewL K C G' H' σ s D vs acc where
  at_ := F.h _ _ n.at_ (fun z => nomatch z)
  rp := RpL.mono F.g _ _ n.rp
  g := by rw [F.n D (by rw [n.at_]; exact fun z => nomatch z)]; exact n.g
  h0 := n.h0
  sp := n.sp
  no := n.no
theorem Ab.rebase (A : Ab K C G H σ s) (n : NewL K C G H σ s D vs acc) : Ab K { C with H0 := upd C.H0 D (.lst vs) } G H σ s where
  gh := A.gh
  fr := fun b o e q => by
    by_cases z : b = D
    · have e' : upd C.H0 D (.lst vs) b = some o := e
      rw [z, upd_same] at e'
      rw [z, ← e']
      exact n.at_
    · have e' : upd C.H0 D (.lst vs) b = some o := e
      rw [upd_ne z] at e'
      exact A.fr b o e' q
  g0 := A.g0
  gn := fun b e => by
    have e' : upd C.H0 D (.lst vs) b ≠ none := e
    by_cases z : b = D
    · rw [z, n.g]
      cases q : C.G0 D with
      | none => rfl
      | some o =>
        have q' := A.g0 _ _ q
        rw [n.g] at q'
        cases q'
    · rw [upd_ne z] at e'
      exact A.gn b e'
  len := A.len
  sl := fun i v x e1 e2 => by
    have r := A.sl i v x e1 e2
    match x, r with
    | none, _ => trivial
    | some (.dat d), r => exact r
    | some (.own es), ⟨b, us, e, r1, r2, r3, r4, r5⟩ =>
      subst e
      have nb : b ≠ D := fun zz => n.no i es e2 (by rw [e1, zz])
      exact ⟨b, us, rfl, r1, r2, r3, by show upd C.H0 D (.lst vs) b = none; rw [upd_ne nb]; exact r4, r5⟩
    | some .spl, r => exact r
    | some (.dct kvs), ⟨b, e, r1, r3, r4, r5⟩ =>
      have nb : b ≠ D := fun zz => by rw [zz, n.at_] at r1; cases r1
      exact ⟨b, e, r1, r3, by show upd C.H0 D (.lst vs) b = none; rw [upd_ne nb]; exact r4, r5⟩
  dis := A.dis
  spk := A.spk
theorem Ab.unbase (A : Ab K { C with H0 := upd C.H0 D (.lst vs) } G H σ s) (h0 : C.H0 D = none) (g0 : C.G0 D = none) (hs : C.sp ≠ some D) (r : RpL K G vs acc) : Ab K C G H σ s ∧ NewL K C G H σ s D vs acc := by
  have hD : H D = some (.lst vs) := A.fr D _ upd_same hs
  have ne : ∀ {b : Addr}, upd C.H0 D (.lst vs) b = none → b ≠ D := fun {b} e z => by
    rw [z, upd_same] at e
    cases e
  refine ⟨⟨A.gh, fun b o e q => A.fr b o ?_ q, A.g0, fun b e => A.gn b ?_, A.len, fun i v x e1 e2 => ?_, A.dis, A.spk⟩, ⟨hD, r, ?_, h0, hs, fun j es e1 e2 => ?_⟩⟩
  · show upd C.H0 D (.lst vs) b = some o
    rw [upd_ne (fun z => by rw [z, h0] at e; cases e)]
    exact e
  · show upd C.H0 D (.lst vs) b ≠ none
    rw [upd_ne (fun z => by rw [z, h0] at e; exact e rfl)]
    exact e
  · have r := A.sl i v x e1 e2
    match x, r with
    | none, _ => trivial
    | some (.dat d), r => exact r
    | some (.own es), ⟨b, us, e, r1, r2, r3, r4, r5⟩ =>
      have r4' : upd C.H0 D (.lst vs) b = none := r4
      exact ⟨b, us, e, r1, r2, r3, by rw [upd_ne (ne r4')] at r4'; exact r4', r5⟩
    | some .spl, r => exact r
    | some (.dct kvs), ⟨b, e, r1, r3, r4, r5⟩ =>
      have r4' : upd C.H0 D (.lst vs) b = none := r4
      exact ⟨b, e, r1, r3, by rw [upd_ne (ne r4')] at r4'; exact r4', r5⟩
  · have q := A.gn D (by show upd C.H0 D (.lst vs) D ≠ none; rw [upd_same]; exact fun z => nomatch z)
    rw [q]
    exact g0
  · obtain ⟨o, q1, b, us, e, _, _, _, r4, _⟩ := A.slot e1
    subst e
    rw [e2] at q1
    cases q1
    exact ne r4 rfl
theorem Ab.put_new (A : Ab K C G H σ s) (n : NewL K C G H σ s D vs acc) {ws : List V} {bcc : List DV} (r : RpL K G ws bcc) : Ab K C G (upd H D (.lst ws)) σ s ∧ NewL K C G (upd H D (.lst ws)) σ s D ws bcc := by
  refine ⟨⟨fun b u q => ?_, fun b o q z => ?_, A.g0, A.gn, A.len, fun i v x e1 e2 => ?_, A.dis, ?_⟩, ⟨upd_same, r, n.g, n.h0, n.sp, n.no⟩⟩
  · rw [upd_ne (fun z => by rw [z, n.g] at q; cases q)]
    exact A.gh _ _ q
  · rw [upd_ne (fun z => by rw [z, n.h0] at q; cases q)]
    exact A.fr b o q z
  · have r := A.sl i v x e1 e2
    match x, r with
    | none, _ => trivial
    | some (.dat d), r => exact r
    | some (.own es), ⟨b, us, e, r1, r2, r3, r4, r5⟩ =>
      subst e
      have nb : b ≠ D := fun zz => n.no i es e2 (by rw [e1, zz])
      exact ⟨b, us, rfl, by rw [upd_ne nb]; exact r1, r2, r3, r4, r5⟩
    | some .spl, r => exact r
    | some (.dct kvs), ⟨b, e, r1, r3, r4, r5⟩ =>
      have nb : b ≠ D := fun zz => by rw [zz, n.at_] at r1; cases r1
      exact ⟨b, e, by rw [upd_ne nb]; exact r1, r3, r4, r5⟩
  · have k := A.spk
    unfold SpOk at *
    cases z : C.sp with
    | none => rw [z] at k; trivial
    | some c =>
      rw [z] at k
      obtain ⟨k1, nb, k2, k3⟩ := k
      exact ⟨k1, nb, by rw [upd_ne (fun e => n.sp (by rw [z, e]))]; exact k2, k3⟩
theorem Ab.set_none (A : Ab K C G H σ s) (i : Nat) : Ab K C G H (σ.set i none) { s with sl := s.sl.set i none } :=
  A.forget (by rw [List.length_set, List.length_set]; exact A.len) fun j x e => by
    rw [List.getElem?_set] at e
    rw [List.getElem?_set]
    by_cases z : i = j
    · rw [if_pos z] at e
      split at e <;> cases e
    · rw [if_neg z] at e ⊢
      exact ⟨e, rfl⟩
theorem not_own_set {i j : Nat} {x : Option SV} {es : List DV} (hx : ∀ es, x ≠ some (.own es)) (e : (s.sl.set i x)[j]? = some (some (.own es))) : i ≠ j ∧ s.sl[j]? = some (some (.own es)) := by
  rw [List.getElem?_set] at e
  by_cases z : i = j
  · rw [if_pos z] at e
    split at e
    · cases e
      exact absurd rfl (hx es)
    · cases e
  · rw [if_neg z] at e
    exact ⟨z, e⟩
theorem NewL.set {i : Nat} {x : Option SV} {o : Option V} (n : NewL K C G H σ s D vs acc) (hx : ∀ es, x ≠ some (.own es)) : NewL K C G H (σ.set i o) { s with sl := s.sl.set i x } D vs acc where
  at_ := n.at_
  rp := n.rp
  g := n.g
  h0 := n.h0
  sp := n.sp
  no := fun j es e1 e2 => by
    obtain ⟨z, e3⟩ := not_own_set hx e1
    rw [List.getElem?_set, if_neg z] at e2
    exact n.no j es e3 e2
end
theorem evLc {K : PySem.W.Frag} {i : Nat} {wi : TI} {tt : TT} {te : TE} {it : LF} {t : TF} {f : EF} (q1 : EvI K C wi it) (q2 : ∀ C', EvT K C' tt t) (q3 : ∀ C', EvE K C' te f) : EvL K C (tLc wi (gName i) tt te [i]) (lCp it i t f) := by
  intro G H σ s ds s' A e1 Q k
  unfold lCp at e1
  split at e1
  · rename_i items s1 e2
    refine q1 G H σ s items s1 A e2 _ fun J H1 G1 g1 A1 wk => ?_
    intro D hD
    obtain ⟨B1, n1⟩ := A1.lay (ds := []) rfl hD
    refine ⟨fun j m H' => m = items.length - j ∧ j ≤ items.length ∧ ∃ G2 s2 acc vs, Same G1 G2 ∧ Ab K C G2 H' (σ.set i none) s2 ∧ NewL K C G2 H' (σ.set i none) s2 D vs acc ∧ (∀ x, s2.sl[i]? ≠ some (some x)) ∧ cpN (items.drop j) i t f s2 acc = some (ds, s'), ⟨_, rfl, Nat.zero_le _, G1, _, [], [], Same.refl _, B1.set_none i, n1.set (fun es z => nomatch z), fun y e => ?_, e1⟩, ?_⟩
    · have e' : (s1.sl.set i none)[i]? = some (some y) := e
      rw [List.getElem?_set, if_pos rfl] at e'
      split at e' <;> cases e'
    rintro j m H' ⟨rfl, hj, G2, s2, acc, vs, g2, A2, n2, hn, e3⟩
    by_cases hl : j < items.length
    · refine .inr ⟨wk.go j G2 H' g2 A2.gh hl, fun H'' => ∃ G3 s3 acc vs, Same G1 G3 ∧ Ab K C G3 H'' (σ.set i none) s3 ∧ NewL K C G3 H'' (σ.set i none) s3 D vs acc ∧ (∀ x, s3.sl[i]? ≠ some (some x)) ∧ cpN (items.drop (j + 1)) i t f s3 acc = some (ds, s'), ?_, ?_⟩
      · rintro H'' ⟨G3, s3, acc', vs', g3, A3, n3, hn3, e4⟩
        exact ⟨items.length - (j + 1), by omega, rfl, hl, G3, s3, acc', vs', g3, A3, n3, hn3, e4⟩
      · intro z H'' y
        have ed : items.drop j = items[j] :: items.drop (j + 1) := List.drop_eq_getElem_cons hl
        obtain ⟨G3, F, r⟩ := wk.yld j G2 H' items[j] z H'' g2 A2.gh (List.getElem?_eq_getElem hl) y
        have A3 := A2.fw0 F
        have n3 := n2.fw F
        rw [ed] at e3
        have A4 := A3.set_dat (i := i) r
        have n4 : NewL K C G3 H'' ((σ.set i none).set i (some z)) { s2 with sl := s2.sl.set i (some (.dat items[j])) } D vs acc := n3.set (fun es z => nomatch z)
        have A5 := A4.rebase n4
        have g0D : C.G0 D = none := by
          cases q : C.G0 D with
          | none => rfl
          | some o =>
            have q' := A3.g0 _ _ q
            rw [n3.g] at q'
            cases q'
        have back : ∀ {G6 H6 : Hp} {s6 : S} {ws : List V} {bcc : List DV}, Ab K C G6 H6 ((σ.set i none).set i (some z)) s6 → NewL K C G6 H6 ((σ.set i none).set i (some z)) s6 D ws bcc →
            Ab K C G6 H6 (σ.set i none) { s6 with sl := s6.sl.set i none } ∧ NewL K C G6 H6 (σ.set i none) { s6 with sl := s6.sl.set i none } D ws bcc ∧ ∀ x, ({ s6 with sl := s6.sl.set i none } : S).sl[i]? ≠ some (some x) := by
          intro G6 H6 s6 ws bcc A6 n6
          have e7 : ((σ.set i none).set i (some z)).set i none = σ.set i none := by
            rw [List.set_set, List.set_set]
          have A7 := A6.set_none i
          have n7 : NewL K C G6 H6 (((σ.set i none).set i (some z)).set i none) { s6 with sl := s6.sl.set i none } D ws bcc := n6.set (fun es z => nomatch z)
          rw [e7] at A7 n7
          refine ⟨A7, n7, fun y e => ?_⟩
          have e' : (s6.sl.set i none)[i]? = some (some y) := e
          rw [List.getElem?_set, if_pos rfl] at e'
          split at e' <;> cases e'
        unfold cpN at e3
        show wipe ((wipe σ [i]).set i (some z)) [i] = wipe σ [i] ∧ _
        refine ⟨?_, ?_⟩
        · show ((σ.set i none).set i (some z)).set i none = σ.set i none
          rw [List.set_set, List.set_set]
        show tt ((σ.set i none).set i (some z)) H'' _
        split at e3
        · rename_i s6 e6
          refine q2 _ G3 H'' _ _ _ _ A5 e6 _ fun H6 G6 g6 A6 => ?_
          rw [if_pos rfl]
          split at e3
          · rename_i y7 s7 e7
            split at e3
            · rename_i hsz
              refine q3 _ G6 H6 _ _ _ _ A6 e7 _ fun v7 H7 G7 g7 A7 r7 => ?_
              obtain ⟨A8, n8⟩ := A7.unbase (acc := acc) n3.h0 g0D n3.sp (RpL.mono (g6.trans g7) _ _ n3.rp)
              refine ⟨vs, n8.at_, by rw [n8.rp.length]; exact hsz, ?_⟩
              obtain ⟨A9, n9⟩ := A8.put_new n8 (n8.rp.append (RpL.one r7))
              obtain ⟨A10, n10, h10⟩ := back A9 n9
              exact ⟨G7, _, _, _, ((g2.trans F.g).trans g6).trans g7, A10, n10, h10, e3⟩
            · cases e3
          · cases e3
        · rename_i s6 e6
          refine q2 _ G3 H'' _ _ _ _ A5 e6 _ fun H6 G6 g6 A6 => ?_
          rw [if_neg Bool.false_ne_true]
          obtain ⟨A8, n8⟩ := A6.unbase (acc := acc) n3.h0 g0D n3.sp (RpL.mono g6 _ _ n3.rp)
          obtain ⟨A10, n10, h10⟩ := back A8 n8
          exact ⟨G6, _, _, _, (g2.trans F.g).trans g6, A10, n10, h10, e3⟩
        · cases e3
    · have hz : items.drop j = [] := List.drop_eq_nil_of_le (by omega)
      rw [hz] at e3
      unfold cpN at e3
      cases e3
      refine .inl ⟨wk.stop j G2 H' g2 A2.gh (by omega), k D vs H' G2 (g1.trans g2) ?_ ?_⟩
      · refine A2.forget (s := s') (sl' := s'.sl) ?_ fun q x e => ⟨e, ?_⟩
        · have := A2.len
          rw [List.length_set] at this
          exact this
        · rw [List.getElem?_set, if_neg (fun z => hn x (by rw [z]; exact e))]
      · refine ⟨n2.at_, n2.rp, n2.g, n2.h0, n2.sp, fun q es e1' e2' => n2.no q es e1' ?_⟩
        rw [List.getElem?_set, if_neg (fun z => hn _ (by rw [z]; exact e1'))]
        exact e2'
  · cases e1
theorem fl_comp (i : Nat) {x : Str} {px : Pos} {elt iter : Expr} {ifs : List Expr} {scope : Scope} {it : LF} {t : TF} {f : EF} (hi : FI X C (.Name x px) iter it) (hc : X.calm = true) (hN : X.N.Nodup) (ok : BlkOk X.N X.env.scope scope [(x, i)])
    (hg : ∀ (s : Shared) (H : Hp) (C : Addr) (cl : List (Str × Addr)) (fp : List Addr), PG (X.blk s H scope (compEnvC scope cl C X.env) fp) (.Name x px) (gName i))
    (ht : ∃ tt, (∀ (s : Shared) (H : Hp) (C : Addr) (cl : List (Str × Addr)) (fp : List Addr), PTs (X.blk s H scope (compEnvC scope cl C X.env) fp) ifs tt) ∧ ∀ C', EvT X.K C' tt t)
    (he : ∃ te, (∀ (s : Shared) (H : Hp) (C : Addr) (cl : List (Str × Addr)) (fp : List Addr), PE (X.blk s H scope (compEnvC scope cl C X.env) fp) elt te) ∧ ∀ C', EvE X.K C' te f) (hs : ∀ x, foldedSetIterable iter X.env x = pure x := by intro _; rfl) :
    FL X C (.ListComp elt [⟨.Name x px, iter, ifs, 0⟩] scope pos) (lCp it i t f) := by
  obtain ⟨wi, p1, q1⟩ := hi
  obtain ⟨tt, p2, q2⟩ := ht
  obtain ⟨te, p3, q3⟩ := he
  exact ⟨_, pe_lc hc hN p1 ok hg p2 p3 hs, evLc q1 q2 q3⟩
theorem ev_yes {K : PySem.W.Frag} : EvT K C tYes tY := by
  intro G H σ s b s' A e Q k
  cases e
  exact k H G (Same.refl _) A
end
end FD

set_option maxRecDepth 100000
namespace FD
open PySem PySem.Spec PyProof.Rows L2

/-! ## x op= e -/
def sAug (i : Nat) (f : EF) (op : DV → DV → Option DV) : SF := fun s => match s.sl[i]? with
  | some (some (.dat d)) => match f s with
    | some (e, s1) => match op d e with
      | some z => some (.nx { s1 with sl := s1.sl.set i (some (.dat z)) })
      | none => none
    | none => none
  | _ => none
def dAddI : DV → DV → Option DV
  | .int i, .int j => some (.int (i + j))
  | _, _ => none
def dMulI : DV → DV → Option DV
  | .int i, .int j => if fitM i j then some (.int (i * j)) else none
  | _, _ => none
section
variable {X : Cx} {C : Cn} {e a b c : Expr} {es elts : List Expr} {pos p tpos : Pos} {f g h : EF}
theorem fs_aug (i : Nat) {x : Str} {o : Operator} {r : R2} {op : DV → DV → Option DV} {pos' : Pos} (hr : PIp X o r) (ho : Op2 X.K r op) (he : FE X C e f) (hN : X.N.Nodup) (hi : X.N[i]? = some x := by rfl) (hx : Loc X.env.scope x := by first | exact Or.inl rfl | exact Or.inr rfl) (hf : X.fn x = true ∨ X.env.scope.names.lookup x = some .local := by first | exact .inl rfl | exact .inr rfl | assumption) :
    FS X C (.AugAssign (.Name x pos') o e pos) (sAug i f op) := by
  obtain ⟨te, p, q⟩ := he
  refine ⟨_, ps_aug hN hi hx p hr hf, ?_⟩
  intro G H σ s o' A e1 D k
  unfold sAug at e1
  split at e1
  · rename_i d e0
    split at e1
    · rename_i e' s1 e2
      split at e1
      · rename_i z e3
        cases e1
        obtain ⟨w, ew, v, rfl, rv⟩ := A.slot e0
        refine ⟨v, ew, q G H σ s e' s1 A e2 _ fun y H1 G1 g1 A1 r1 => ?_⟩
        exact ho C G1 H1 σ s1 v y d e' z A1 (Rp.mono g1 d v rv) r1 e3 _ fun u H2 G2 F r2 => k _ H2 G2 (g1.trans F.g) ((A1.fw0 F).set_dat r2)
      · cases e1
    · cases e1
  · cases e1
theorem iop_mulX : OpR X (inplaceOp .Mult) (rI (fun i j => fitM i j = true) fun i j => .int (i * j)) := opI fun _ _ _ _ _ _ _ hc q => imul_int q (CallFit hc)
theorem iop_fdivX : OpR X (inplaceOp .FloorDiv) (rI (fun i j => j ≠ 0 ∧ j.natAbs.log2 < 9000) fun i j => .int (i.fdiv j)) := opI fun i j _ _ _ _ _ hc q => ifloordiv_int hc.1 q (.inl (PyProof.noPylong_of_log2 hc.2))
theorem o_addI {K : PySem.W.Frag} : Op2 K (rI0 fun i j => .int (i + j)) dAddI := o_int0 fun d e z h => by
  unfold dAddI at h
  split at h
  · cases h; exact ⟨_, _, rfl, rfl, fun _ => rfl⟩
  · cases h
theorem o_mulI {K : PySem.W.Frag} : Op2 K (rI (fun i j => fitM i j = true) fun i j => .int (i * j)) dMulI := o_int fun d e z h => by
  unfold dMulI at h
  split at h
  · split at h
    · rename_i hd
      cases h; exact ⟨_, _, rfl, rfl, hd, fun _ => rfl⟩
    · cases h
  · cases h
theorem fs_iadd (i : Nat) {x : Str} {pos' : Pos} (he : FE X C e f) (hN : X.N.Nodup) (hi : X.N[i]? = some x := by rfl) (hx : Loc X.env.scope x := by first | exact Or.inl rfl | exact Or.inr rfl) (hf : X.fn x = true ∨ X.env.scope.names.lookup x = some .local := by first | exact .inl rfl | exact .inr rfl | assumption) : FS X C (.AugAssign (.Name x pos') .Add e pos) (sAug i f dAddI) :=
  fs_aug i (r := rI0 fun i j => .int (i + j)) (fun pins s σ H x y v u Q I rx ry h => iop_add pins s σ H x y v u Q I rx ry h) o_addI he hN hi hx hf
theorem fs_isub (i : Nat) {x : Str} {pos' : Pos} (he : FE X C e f) (hN : X.N.Nodup) (hi : X.N[i]? = some x := by rfl) (hx : Loc X.env.scope x := by first | exact Or.inl rfl | exact Or.inr rfl) (hf : X.fn x = true ∨ X.env.scope.names.lookup x = some .local := by first | exact .inl rfl | exact .inr rfl | assumption) : FS X C (.AugAssign (.Name x pos') .Sub e pos) (sAug i f dSub) :=
  fs_aug i (r := rI0 fun i j => .int (i - j)) (fun pins s σ H x y v u Q I rx ry h => iop_sub pins s σ H x y v u Q I rx ry h) o_sub he hN hi hx hf
theorem fs_imul (i : Nat) {x : Str} {pos' : Pos} (he : FE X C e f) (hN : X.N.Nodup) (hi : X.N[i]? = some x := by rfl) (hx : Loc X.env.scope x := by first | exact Or.inl rfl | exact Or.inr rfl) (hf : X.fn x = true ∨ X.env.scope.names.lookup x = some .local := by first | exact .inl rfl | exact .inr rfl | assumption) : FS X C (.AugAssign (.Name x pos') .Mult e pos) (sAug i f dMulI) :=
  fs_aug i (r := rI (fun i j => fitM i j = true) fun i j => .int (i * j)) (fun pins s σ H x y v u Q I rx ry h => iop_mulX pins s σ H x y v u Q I rx ry h) o_mulI he hN hi hx hf
theorem fs_ifdiv (i : Nat) {x : Str} {pos' : Pos} (he : FE X C e f) (hN : X.N.Nodup) (hi : X.N[i]? = some x := by rfl) (hx : Loc X.env.scope x := by first | exact Or.inl rfl | exact Or.inr rfl) (hf : X.fn x = true ∨ X.env.scope.names.lookup x = some .local := by first | exact .inl rfl | exact .inr rfl | assumption) : FS X C (.AugAssign (.Name x pos') .FloorDiv e pos) (sAug i f dFdiv) :=
  fs_aug i (r := rI (fun i j => j ≠ 0 ∧ j.natAbs.log2 < 9000) fun i j => .int (i.fdiv j)) (fun pins s σ H x y v u Q I rx ry h => iop_fdivX pins s σ H x y v u Q I rx ry h) o_fdiv he hN hi hx hf
/-- a module's int -/
theorem fe_gint {x : Str} {i : Int} {t : Tok} (hm : X.mg x = some (.int i t)) (hg : Gl X x := by rfl) (hd : (x == ("__debug__" : Str)) = false := by decide) : FE X C (.Name x pos) (eC (.int i)) := ⟨_, pe_glob (v := .int i) hg hm ⟨t, rfl⟩ hd, evC fun _ => rfl⟩
end

/-! ## math.gcd, math.isqrt -/
theorem args_gcd3 (a b c : Value) : argsOk "math.gcd" ⟨[a, b, c], []⟩ := by unfold argsOk; kernel_rfl
theorem run_gcd3 (a : Int) (t : Tok) (b : Int) (u : Tok) (c : Int) (v : Tok) :
    Gives (Builtin.«math.gcd» ⟨[.int a t, .int b u, .int c v], []⟩) (.int (((((Nat.gcd 0 a.natAbs).gcd b.natAbs).gcd c.natAbs : Nat) : Int))) :=
  .of_wp fun M A E s Q h => by obtain ⟨hp, g, d, tk, os⟩ := s; wp_walk; exact ⟨_, rfl, h⟩
def dGcd : List DV → Option DV
  | [.int a, .int b] => some (.int ((Nat.gcd a.natAbs b.natAbs : Nat) : Int))
  | [.int a, .int b, .int c] => some (.int (((Nat.gcd a.natAbs b.natAbs).gcd c.natAbs : Nat) : Int))
  | _ => none
def rGcdX : List V → Hp → VK → Prop := fun vs H Q => (rGcd vs H Q) ∨ ∃ a b c : Int, vs = [.int a, .int b, .int c] ∧ Q (.int (((Nat.gcd a.natAbs b.natAbs).gcd c.natAbs : Nat) : Int)) H
theorem RpL.triple {K : PySem.W.Frag} {G : Hp} {vs : List V} {d d' d'' : DV} (h : RpL K G vs [d, d', d'']) : ∃ v v' v'', vs = [v, v', v''] ∧ Rp K G v d ∧ Rp K G v' d' ∧ Rp K G v'' d'' := by
  obtain ⟨v, r, e, h1, h2⟩ := h
  obtain ⟨w, w', rfl, h3, h4⟩ := h2.double
  exact ⟨v, w, w', e, h1, h3, h4⟩
section
variable {X : Cx} {C : Cn} {e a b c : Expr} {es elts : List Expr} {pos p tpos : Pos} {f g h : EF}
theorem cr_gcdX : CallR X (.builtin "math.gcd") rGcdX := by
  intro pins s σ H vs us Q I r h
  rcases h with h | ⟨a, b, c, rfl, q⟩
  · exact cr_gcd pins s σ H vs us Q I r h
  · cases r with
    | cons r1 r2 =>
      obtain ⟨u, w, e, r3, r4⟩ := vals2 r2
      subst e
      obtain ⟨t, rfl⟩ := r1
      obtain ⟨t', rfl⟩ := r3
      obtain ⟨t'', rfl⟩ := r4
      have gg := run_gcd3 a t b t' c t''
      rw [Nat.gcd_zero_left] at gg
      exact call_function_meets PySem.W.MGF.kind_gcd PySem.W.MGF.plain_gcd PySem.W.MGF.entry_gcd (args_gcd3 _ _ _) gg.meets ⟨.int _, H, I.tok _, ⟨_, rfl⟩, q⟩
theorem o_gcd {K : PySem.W.Frag} : OpA K rGcdX dGcd := by
  intro C G H σ s vs ds d A r ho Q q
  unfold dGcd at ho
  split at ho
  · cases ho
    obtain ⟨v, w, e, e1, e2⟩ := r.double
    rw [show v = .int _ from e1, show w = .int _ from e2] at e
    exact .inl ⟨_, _, e, q _ H G (Fw.refl A.gh) rfl⟩
  · cases ho
    obtain ⟨v, w, z, e, e1, e2, e3⟩ := r.triple
    rw [show v = .int _ from e1, show w = .int _ from e2, show z = .int _ from e3] at e
    exact .inr ⟨_, _, _, e, q _ H G (Fw.refl A.gh) rfl⟩
  · cases ho
theorem fe_gcd {ff : AF} (hm : X.mg "gcd" = some (.builtin "math.gcd")) (ha : FA X C (e :: es) ff) (hg : Gl X "gcd" := by rfl) (he : starEach (e :: es) X.env = (false, eval e X.env) :: starEach es X.env := by rfl) (hpl : (backTo pos (starEach es X.env)).any (·.1) = false := by rfl) :
    FE X C (.Call (.Name "gcd" p) (e :: es) [] pos) (eA ff dGcd) := fe_callM cr_gcdX o_gcd hm ha hg (he := he) (hpl := hpl)
def okSq (i : Int) : Bool := decide (0 ≤ i ∧ i.toNat.log2 < 13500)
def rSq : List V → Hp → VK → Prop := fun vs H Q => ∃ a : Int, vs = [.int a] ∧ okSq a = true ∧ Q (.int ((Float64.isqrt a.toNat : Nat) : Int)) H
theorem cr_sq : CallR X (.builtin "math.isqrt") rSq := by
  intro pins s σ H vs us Q I r h
  obtain ⟨a, rfl, ok, q⟩ := h
  obtain ⟨u, rfl, t, rfl⟩ := vals1 r
  obtain ⟨h0, h1⟩ := of_decide_eq_true ok
  exact call_function_meets PySem.W.MGF.kind_isqrt PySem.W.MGF.plain_isqrt PySem.W.MGF.entry_isqrt (PySem.W.MGF.args_isqrt _) (PySem.W.mg_run_isqrt a t (by omega) (by omega) (by omega)).meets ⟨.int _, H, I.tok _, ⟨_, rfl⟩, q⟩
def dSq : List DV → Option DV
  | [.int a] => if okSq a then some (.int ((Float64.isqrt a.toNat : Nat) : Int)) else none
  | _ => none
theorem o_sq {K : PySem.W.Frag} : OpA K rSq dSq := by
  intro C G H σ s vs ds d A r ho Q q
  unfold dSq at ho
  split at ho
  · split at ho
    · rename_i hk
      cases ho
      obtain ⟨v, e, e1⟩ := r.single
      rw [show v = .int _ from e1] at e
      exact ⟨_, e, hk, q _ H G (Fw.refl A.gh) rfl⟩
    · cases ho
  · cases ho
theorem fe_isqrt {ff : AF} (hm : X.mg "isqrt" = some (.builtin "math.isqrt")) (ha : FA X C [e] ff) (hg : Gl X "isqrt" := by rfl) (he : starEach [e] X.env = (false, eval e X.env) :: starEach [] X.env := by rfl) :
    FE X C (.Call (.Name "isqrt" p) [e] [] pos) (eA ff dSq) := fe_callM cr_sq o_sq hm ha hg (he := he)
end

/-! ## a def of the text, with all that its callers want -/
def DefOk (P : Program) (w : World) (K : PySem.W.Frag) (mg : Str → Option Value) (base : Heap) (k : Nat) (x : Str) (ps : List Str) (sp : Sp) : Prop :=
  ∃ f fd, FnG P w K mg base CX0 k f fd ps sp ∧ mg x = some (.ref f) ∧ PySem.W.keepIn K (.ref f) = true ∧ Binds K fd ps []
section
variable {X : Cx} {C : Cn} {e a b c : Expr} {es elts : List Expr} {pos p tpos : Pos} {f g h : EF}
theorem fe_def {op : List DV → Option DV} {k j : Nat} {ps : List Str} {x : Str} {ff : AF} (D : DefOk X.prog X.w X.K X.mg X.base j x ps (spP X.K op)) (hr : Rm k X.A) (hj : j ≤ k) (ha : FA X C (e :: es) ff) (hg : Gl X x := by rfl) (hdb : (x == ("__debug__" : Str)) = false := by decide) (he : starEach (e :: es) X.env = (false, eval e X.env) :: starEach es X.env := by rfl) (hpl : (backTo pos (starEach es X.env)).any (·.1) = false := by rfl) :
    FE X C (.Call (.Name x p) (e :: es) [] pos) (eA ff op) := by
  obtain ⟨fa, fd, F, hm, hk, hb⟩ := D
  exact fe_call (F.mono hj) hr hm hk hb ha hg hdb he hpl
theorem fe_defS (i : Nat) {op : List DV → Spl → Option (DV × Spl)} {k j : Nat} {ps : List Str} {x y : Str} {ff : AF} {py : Pos} (D : DefOk X.prog X.w X.K X.mg X.base j x ps (spS X.K op)) (hr : Rm k X.A) (hj : j ≤ k) (ha : FA X C es ff) (hg : Gl X x := by rfl) (hN : X.N[i]? = some y := by rfl) (hv : Vis X.env.scope y := by first | exact Or.inl rfl | exact Or.inr (Or.inl rfl) | exact Or.inr (Or.inr rfl)) (hd : (y == ("__debug__" : Str)) = false := by decide)
    (hcd : (y == ("__classdict__" : Str)) = false := by decide) (hdb : (x == ("__debug__" : Str)) = false := by decide) (he : starEach (.Name y py :: es) X.env = (false, eval (.Name y py) X.env) :: starEach es X.env := by rfl) (hpl : (backTo pos (starEach es X.env)).any (·.1) = false := by rfl) :
    FE X C (.Call (.Name x p) (.Name y py :: es) [] pos) (eS i ff op) := by
  obtain ⟨fa, fd, F, hm, hk, hb⟩ := D
  exact fe_callS i (F.mono hj) hr hm hk hb ha hg hN hv hd hcd hdb he hpl
end
/-- an int in a slot (0 where none is) -/
def slI (s : S) (i : Nat) : Int := match s.sl[i]? with
  | some (some (.dat (.int n))) => n
  | _ => 0
end FD

set_option maxRecDepth 100000
namespace FD
open PySem PySem.Spec PyProof.Rows L2

/-! ## a reading that serves in every context -/
def tU (K : PySem.W.Frag) (f : EF) : TE := fun σ H Q => ∃ C G s d s', Ab K C G H σ s ∧ f s = some (d, s') ∧ ∀ v H' G', Same G G' → Ab K C G' H' σ s' → Rp K G' v d → Q v H'
def tUt (K : PySem.W.Frag) (f : TF) : TT := fun σ H Q => ∃ C G s d s', Ab K C G H σ s ∧ f s = some (d, s') ∧ ∀ H' G', Same G G' → Ab K C G' H' σ s' → Q d H'
theorem pe_U {X : Cx} {e : Expr} {f : EF} (h : ∀ C, FE X C e f) : PE X e (tU X.K f) := by
  refine ⟨fun pins s σ H Q I z => ?_⟩
  obtain ⟨C, G, st, d, st', A, e1, k⟩ := z
  obtain ⟨te, p, q⟩ := h C
  exact p.run pins s σ H Q I (q G H σ st d st' A e1 Q k)
theorem pt_U {X : Cx} {e : Expr} {f : TF} (h : ∀ C, FT X C e f) : PT X e (tUt X.K f) := by
  refine ⟨fun pins s σ H Q I z => ?_⟩
  obtain ⟨C, G, st, d, st', A, e1, k⟩ := z
  obtain ⟨te, p, q⟩ := h C
  exact p.run pins s σ H Q I (q G H σ st d st' A e1 Q k)
theorem evU {K : PySem.W.Frag} {C : Cn} {f : EF} : EvE K C (tU K f) f := fun G H σ s d s' A e Q k => ⟨C, G, s, d, s', A, e, k⟩
theorem evUt {K : PySem.W.Frag} {C : Cn} {f : TF} : EvT K C (tUt K f) f := fun G H σ s d s' A e Q k => ⟨C, G, s, d, s', A, e, k⟩

section
variable {X : Cx} {C : Cn} {e a b c : Expr} {es elts : List Expr} {pos p tpos : Pos} {f g h : EF}
theorem evOwn {K : PySem.W.Frag} {te : TE} {i : Nat} {ff : LF} (q : EvL K C te ff) : EvS K C (tAsg te (gName i)) (sOwn i ff) := by
  intro G H σ s o A e1 D k
  unfold sOwn at e1
  split at e1
  · rename_i ds s1 e2
    cases e1
    exact q G H σ s ds s1 A e2 _ fun p vs H1 G1 g1 A1 n => k _ H1 G1 g1 (A1.set_own n.at_ n.rp n.g n.h0 n.sp n.no)
  · cases e1
theorem evSet {K : PySem.W.Frag} {te : TE} {i : Nat} {f : EF} (q : EvE K C te f) : EvS K C (tAsg te (gName i)) (sAsg f (gNm i)) := by
  intro G H σ s o A e1 D k
  unfold sAsg at e1
  split at e1
  · rename_i d s1 e2
    cases e1
    exact q G H σ s d s1 A e2 _ fun v H1 G1 g1 A1 r => k _ H1 G1 g1 (A1.set_dat r)
  · cases e1
theorem evFl {K : PySem.W.Frag} {te : TE} {ff : LF} (q : EvL K C te ff) : EvE K C te (eL ff) := by
  intro G H σ s d s' A e1 Q k
  unfold eL at e1
  split at e1
  · rename_i ds s1 e2
    cases e1
    refine q G H σ s ds _ A e2 _ fun p vs H1 G1 g1 A1 n => ?_
    obtain ⟨G2, g2, A2, r⟩ := A1.take_in n
    exact k _ H1 G2 (g1.trans g2) A2 r
  · cases e1
/-- [elt for x in iter], and as a name's list -/
theorem fl_lc (i : Nat) {x : Str} {px : Pos} {elt iter : Expr} {scope : Scope} {it : LF} {f : EF} (hc : X.calm = true) (hN : X.N.Nodup) (ok : BlkOk X.N X.env.scope scope [(x, i)]) (hi : FI X C (.Name x px) iter it)
    (hg : ∀ (s : Shared) (H : Hp) (C : Addr) (cl : List (Str × Addr)) (fp : List Addr), PG (X.blk s H scope (compEnvC scope cl C X.env) fp) (.Name x px) (gName i))
    (he : ∀ (s : Shared) (H : Hp) (Ca : Addr) (cl : List (Str × Addr)) (fp : List Addr) (C' : Cn), FE (X.blk s H scope (compEnvC scope cl Ca X.env) fp) C' elt f) (hs : ∀ x, foldedSetIterable iter X.env x = pure x := by intro _; rfl) :
    FL X C (.ListComp elt [⟨.Name x px, iter, [], 0⟩] scope pos) (lCp it i tY f) :=
  fl_comp i hi hc hN ok hg ⟨tYes, fun _ _ _ _ _ => pts_nil, fun _ => ev_yes⟩ ⟨tU X.K f, fun s H Ca cl fp => pe_U (he s H Ca cl fp), fun _ => evU⟩ hs
theorem fl_lcif (i : Nat) {x : Str} {px : Pos} {elt iter cnd : Expr} {scope : Scope} {it : LF} {f : EF} {t : TF} (hc : X.calm = true) (hN : X.N.Nodup) (ok : BlkOk X.N X.env.scope scope [(x, i)]) (hi : FI X C (.Name x px) iter it)
    (hg : ∀ (s : Shared) (H : Hp) (C : Addr) (cl : List (Str × Addr)) (fp : List Addr), PG (X.blk s H scope (compEnvC scope cl C X.env) fp) (.Name x px) (gName i))
    (ht : ∀ (s : Shared) (H : Hp) (Ca : Addr) (cl : List (Str × Addr)) (fp : List Addr) (C' : Cn), FT (X.blk s H scope (compEnvC scope cl Ca X.env) fp) C' cnd t)
    (he : ∀ (s : Shared) (H : Hp) (Ca : Addr) (cl : List (Str × Addr)) (fp : List Addr) (C' : Cn), FE (X.blk s H scope (compEnvC scope cl Ca X.env) fp) C' elt f) (hs : ∀ x, foldedSetIterable iter X.env x = pure x := by intro _; rfl) :
    FL X C (.ListComp elt [⟨.Name x px, iter, [cnd], 0⟩] scope pos) (lCp it i t f) :=
  fl_comp i hi hc hN ok hg ⟨tUt X.K t, fun s H Ca cl fp => pts_one (pt_U (ht s H Ca cl fp)), fun _ => evUt⟩ ⟨tU X.K f, fun s H Ca cl fp => pe_U (he s H Ca cl fp), fun _ => evU⟩ hs
theorem ps_lc {j : Nat} (i : Nat) {x y : Str} {px py spos : Pos} {elt iter : Expr} {scope : Scope} {it : LF} {f : EF} (hc : X.calm = true) (hN : X.N.Nodup) (hy : X.N[j]? = some y) (hyl : X.env.scope.names.lookup y = some .local)
    (hsw : swapsWith (.ListComp elt [⟨.Name x px, iter, [], 0⟩] scope pos) (some (.Name y py)) spos.line X.env = pure true) (ok : BlkOk X.N X.env.scope scope [(x, i)]) (hi : FI X C (.Name x px) iter it)
    (hg : ∀ (s : Shared) (H : Hp) (C : Addr) (cl : List (Str × Addr)) (fp : List Addr), PG (X.blk s H scope (compEnvC scope cl C X.env) fp) (.Name x px) (gName i))
    (he : ∀ (s : Shared) (H : Hp) (Ca : Addr) (cl : List (Str × Addr)) (fp : List Addr) (C' : Cn), FE (X.blk s H scope (compEnvC scope cl Ca X.env) fp) C' elt f) (hs : ∀ x, foldedSetIterable iter X.env x = pure x := by intro _; rfl) :
    ∃ te, PS X (.Assign [.Name y py] (.ListComp elt [⟨.Name x px, iter, [], 0⟩] scope pos) spos) (tAsg te (gName j)) ∧ EvL X.K C te (lCp it i tY f) := by
  obtain ⟨wi, p1, q1⟩ := hi
  exact ⟨_, ps_setLc hc hN hy hyl hsw p1 ok hg (fun _ _ _ _ _ => pts_nil) (fun s H Ca cl fp => pe_U (he s H Ca cl fp)) hs, evLc q1 (fun _ => ev_yes) (fun _ => evU)⟩
theorem fs_lco (j i : Nat) {x y : Str} {px py spos : Pos} {elt iter : Expr} {scope : Scope} {it : LF} {f : EF} (hc : X.calm = true) (hN : X.N.Nodup) (ok : BlkOk X.N X.env.scope scope [(x, i)]) (hi : FI X C (.Name x px) iter it)
    (hg : ∀ (s : Shared) (H : Hp) (C : Addr) (cl : List (Str × Addr)) (fp : List Addr), PG (X.blk s H scope (compEnvC scope cl C X.env) fp) (.Name x px) (gName i))
    (he : ∀ (s : Shared) (H : Hp) (Ca : Addr) (cl : List (Str × Addr)) (fp : List Addr) (C' : Cn), FE (X.blk s H scope (compEnvC scope cl Ca X.env) fp) C' elt f) (hy : X.N[j]? = some y := by rfl) (hyl : X.env.scope.names.lookup y = some .local := by rfl)
    (hsw : swapsWith (.ListComp elt [⟨.Name x px, iter, [], 0⟩] scope pos) (some (.Name y py)) spos.line X.env = pure true := by exact sw_true rfl rfl rfl (by decide +kernel)) (hs : ∀ x, foldedSetIterable iter X.env x = pure x := by intro _; rfl) :
    FS X C (.Assign [.Name y py] (.ListComp elt [⟨.Name x px, iter, [], 0⟩] scope pos) spos) (sOwn j (lCp it i tY f)) :=
  let ⟨_, p, q⟩ := ps_lc i hc hN hy hyl hsw ok hi hg he hs; ⟨_, p, evOwn q⟩
theorem fs_lcd (j i : Nat) {x y : Str} {px py spos : Pos} {elt iter : Expr} {scope : Scope} {it : LF} {f : EF} (hc : X.calm = true) (hN : X.N.Nodup) (ok : BlkOk X.N X.env.scope scope [(x, i)]) (hi : FI X C (.Name x px) iter it)
    (hg : ∀ (s : Shared) (H : Hp) (C : Addr) (cl : List (Str × Addr)) (fp : List Addr), PG (X.blk s H scope (compEnvC scope cl C X.env) fp) (.Name x px) (gName i))
    (he : ∀ (s : Shared) (H : Hp) (Ca : Addr) (cl : List (Str × Addr)) (fp : List Addr) (C' : Cn), FE (X.blk s H scope (compEnvC scope cl Ca X.env) fp) C' elt f) (hy : X.N[j]? = some y := by rfl) (hyl : X.env.scope.names.lookup y = some .local := by rfl)
    (hsw : swapsWith (.ListComp elt [⟨.Name x px, iter, [], 0⟩] scope pos) (some (.Name y py)) spos.line X.env = pure true := by exact sw_true rfl rfl rfl (by decide +kernel)) (hs : ∀ x, foldedSetIterable iter X.env x = pure x := by intro _; rfl) :
    FS X C (.Assign [.Name y py] (.ListComp elt [⟨.Name x px, iter, [], 0⟩] scope pos) spos) (sAsg (eL (lCp it i tY f)) (gNm j)) :=
  let ⟨_, p, q⟩ := ps_lc i hc hN hy hyl hsw ok hi hg he hs; ⟨_, p, evSet (evFl q)⟩
end

/-! ## the spool made, the law -/
/-- a def that hands back a new list -/
def spN (K : PySem.W.Frag) (f : List DV → Option (List DV)) : Sp := fun vs H Q _ => ∃ G ds es, Same G H ∧ RpL K G vs ds ∧ f ds = some es ∧ ∀ p us H' G', Fw G H G' H' none → H' p = some (.lst us) → RpL K G' us es → G' p = none → H p = none → Q (.ref p) H'
def bodyN (n m : Nat) (g1 g2 : SF) (f : LF) : List DV → Option (List DV) := fun ds =>
  if ds.length = n then match g1 ⟨ds.map (fun d => some (.dat d)) ++ List.replicate (m - n) none, spl0⟩ with
    | some (.nx s1) => match g2 s1 with
      | some (.nx s2) => match f s2 with
        | some (es, _) => some es
        | none => none
      | _ => none
    | _ => none
  else none
section
variable {P : Program} {w : World} {K : PySem.W.Frag} {mg : Str → Option Value} {base : Heap}
theorem fn_new {x qual : Str} {params : Arguments} {body : List Stmt} {scope : Scope} {dvs : List V} {kws : List (Str × V)} {f : Addr} {fd : FuncData} {N ps : List Str} {k : Nat} {g1 g2 : SF} {ff : LF} {s1 s2 : Stmt} {e : Expr} {pos : Pos} (F : FunD K x qual params body scope dvs kws f fd) (Sc : FnScope N ps scope) (hbd : body = [s1, s2, .Return (some e) pos])
    (h : ∀ (C : Cn) (cdv : Value) (A : Around) (outer : List Env) (s : Shared) (H : Hp) (E : XK), Rm k (A.deeper (envOfC qual scope s.heap.objs.size f cdv)) →
      FS (cxOf CX0 P w K mg base N qual scope f cdv A outer s H E).nox C s1 g1 ∧ FS (cxOf CX0 P w K mg base N qual scope f cdv A outer s H E).nox C s2 g2 ∧ FL (cxOf CX0 P w K mg base N qual scope f cdv A outer s H E).nox C e ff) :
    FnG P w K mg base CX0 (k + 1) f fd ps (spN K (bodyN ps.length N.length g1 g2 ff)) := by
  refine okG F Sc (fun vs H Q E h => ?_) (fun cdv A outer s H vs Q E hr hsp => ?_)
  · obtain ⟨G, ds, d, _, r, e, _⟩ := h
    unfold bodyN at e
    split at e
    · rename_i hl
      rw [r.length, hl]
    · cases e
  · obtain ⟨G, ds, es, g0, r, e, q⟩ := hsp
    unfold bodyN at e
    split at e
    · rename_i hl
      obtain ⟨⟨t1, p1, q1⟩, ⟨t2, p2, q2⟩, ⟨t3, p3, q3⟩⟩ := h ⟨G, H, none, noW⟩ cdv A outer s H E hr
      have A0 := ab_start (K := K) (W := noW) g0 r (N.length - ps.length) spl0
      have es' : L2.start N vs = vs.map some ++ List.replicate (N.length - ps.length) none := by
        unfold L2.start
        rw [r.length, hl]
      rw [hbd]
      refine ⟨_, (pss_cons p1 (pss_cons p2 (pss_one (ps_ret p3)))).nox, ?_⟩
      rw [es']
      split at e
      · rename_i sa e1
        split at e
        · rename_i sb e2
          split at e
          · rename_i es'' sc e3
            cases e
            refine q1 G H _ _ _ A0 e1 _ ?_
            intro σ1 H1 G1 g1' A1
            refine q2 G1 H1 _ _ _ A1 e2 _ ?_
            intro σ2 H2 G2 g2' A2
            refine q3 G2 H2 _ _ _ _ A2 e3 _ ?_
            intro p us H3 G3 g3 A3 n
            exact q p us H3 G3 ⟨(g1'.trans g2').trans g3, A3.gh, fun b o e n => A3.fr b o e n, A3.gn⟩ n.at_ n.rp n.g n.h0
          · cases e
        · cases e
      · cases e
    · cases e
/-- the law: it draws from a spool that it makes of the script -/
def spLaw (K : PySem.W.Frag) : Sp := fun vs H Q _ => ∃ (a : Addr) (ns : List Int), vs = [.ref a] ∧ SqL K H a (ns.map V.int) ∧ ns.length ≤ 63 ∧ ∀ H', Q (.bl true) H'
theorem fn_law {x qual : Str} {params : Arguments} {body rest : List Stmt} {scope : Scope} {dvs : List V} {kws : List (Str × V)} {f : Addr} {fd : FuncData} {N : List Str} {k : Nat} {g : SF} {e : Expr} {pos p1 : Pos} {y : Str} (sf : List Int → Option (List Int)) (F : FunD K x qual params body scope dvs kws f fd) (Sc : FnScope N ["script"] scope) (hbd : body = .Assign [.Name y p1] e pos :: rest)
    (h1 : ∀ (C : Cn) (cdv : Value) (A : Around) (outer : List Env) (s : Shared) (H : Hp) (E : XK), Rm k (A.deeper (envOfC qual scope s.heap.objs.size f cdv)) →
      PS (cxOf CX0 P w K mg base N qual scope f cdv A outer s H E).nox (.Assign [.Name y p1] e pos) (tAsg (tCall (spN K fun ds => match ds with
        | [.scr ns] => (sf ns).map fun nums => [.lst (nums.map .int), .int 0, .int 0, .int 0]
        | _ => none) [] E0 (tCons (tVar 0) tNil)) (gName 1)))
    (h2 : ∀ (C : Cn) (cdv : Value) (A : Around) (outer : List Env) (s : Shared) (H : Hp) (E : XK), Rm k (A.deeper (envOfC qual scope s.heap.objs.size f cdv)) → FSs (cxOf CX0 P w K mg base N qual scope f cdv A outer s H E).nox C rest g)
    (hN : 2 ≤ N.length)
    (hm : ∀ ns : List Int, ns.length ≤ 63 → ∃ nums s', sf ns = some nums ∧ g ⟨some (.dat (.scr ns)) :: some .spl :: List.replicate (N.length - 2) none, ⟨nums, 0, 0, 0⟩⟩ = some (.rt (.bl true) s')) :
    FnG P w K mg base CX0 (k + 1) f fd ["script"] (spLaw K) := by
  refine okG F Sc (fun vs H Q E h => ?_) (fun cdv A outer s H vs Q E hr hsp => ?_)
  · obtain ⟨a, ns, rfl, _⟩ := h
    rfl
  · obtain ⟨a, ns, rfl, hS, hl, q⟩ := hsp
    obtain ⟨nums, s', e1, e2⟩ := hm ns hl
    rw [hbd]
    have P1 := h1 ⟨H, H, none, noW⟩ cdv A outer s H E hr
    have P2 : PSs (cxOf CX0 P w K mg base N qual scope f cdv A outer s H E).nox rest (fun D σ H1 => ∃ C t, PSs (cxOf CX0 P w K mg base N qual scope f cdv A outer s H E).nox rest t ∧ EvS K C t g ∧ t D σ H1) := by
      refine ⟨fun pins s1 σ H1 D I z => ?_⟩
      obtain ⟨C, t, p, _, z⟩ := z
      exact p.run pins s1 σ H1 D I z
    refine ⟨_, (pss_cons P1 P2).nox, ?_⟩
    obtain ⟨n, hn⟩ : ∃ n, N.length = n + 2 := ⟨N.length - 2, by omega⟩
    have es : L2.start N [.ref a] = some (.ref a) :: none :: List.replicate n none := by
      unfold L2.start
      rw [hn]
      show some (V.ref a) :: List.replicate (n + 2 - 1) none = _
      rw [show n + 2 - 1 = n + 1 by omega, List.replicate_succ]
    rw [es]
    rw [hn, show n + 2 - 2 = n by omega] at e2
    refine ⟨.ref a, rfl, ?_⟩
    refine ⟨H, [.scr ns], [.lst (nums.map .int), .int 0, .int 0, .int 0], Same.refl _, RpL.one ⟨a, rfl, hS⟩, (by show (sf ns).map _ = _; rw [e1]; rfl), fun p us H' G' F' hp rp gp hp0 => ?_⟩
    obtain ⟨t, pt, qt⟩ := h2 ⟨G', H', some p, noW⟩ cdv A outer s H E hr
    refine ⟨⟨G', H', some p, noW⟩, t, pt, qt, ?_⟩
    obtain ⟨v0, r0, rfl, h0, rp1⟩ := rp
    obtain ⟨v1, r1, rfl, h1', rp2⟩ := rp1
    obtain ⟨v2, r2, rfl, h2', rp3⟩ := rp2
    obtain ⟨v3, r3, rfl, h3', rp4⟩ := rp3
    obtain ⟨nb, us0, rfl, h3, h4⟩ := h0
    have e1' : v1 = .int 0 := h1'
    have e2' : v2 = .int 0 := h2'
    have e3' : v3 = .int 0 := h3'
    have e4' : r3 = [] := rp4
    subst e1' e2' e3' e4'
    refine qt G' H' _ _ (s := ⟨some (.dat (.scr ns)) :: some .spl :: List.replicate n none, ⟨nums, 0, 0, 0⟩⟩) ⟨F'.gh, fun b o e n => e, Same.refl _, fun b _ => rfl, ?_, ?_, ?_, ?_⟩ e2 _ ?_
    · simp
    · intro i v x q1 q2
      match i with
      | 0 =>
        cases q1
        cases q2
        exact ⟨_, rfl, a, rfl, F'.g.seq hS⟩
      | 1 =>
        cases q1
        cases q2
        exact ⟨p, rfl, rfl⟩
      | i + 2 =>
        have q3 : (List.replicate n (none : Option SV))[i]? = some x := by simpa using q2
        rw [List.getElem?_replicate] at q3
        split at q3
        · cases q3
          trivial
        · cases q3
    · intro i j b ds fs _ q1
      exfalso
      match i with
      | 0 => cases q1
      | 1 => cases q1
      | i + 2 =>
        have q3 : (List.replicate n (none : Option SV))[i]? = some (some (.own ds)) := by simpa using q1
        rw [List.getElem?_replicate] at q3
        split at q3 <;> cases q3
    · exact ⟨gp, nb, hp, ⟨nb, us0, rfl, h3, h4⟩⟩
    · intro v σ' H2 G2 g2 A2 rv
      have ev : v = .bl true := rv
      subst ev
      exact q H2
end
end FD

set_option maxRecDepth 100000
namespace FD
open PySem PySem.Spec PyProof.Rows L2
/-! ## the head's facts, and one more Bool over the written part -/
abbrev AlX : Type := He.AlD × Bool
def fragX (n : Nat) (g : Addr → Option Obj) : PySem.W.Frag := He.frG g (cStatics :: He.asD g n)
def obsX (n : Nat) (fa : List He.Fa) (fn : List He.DefD) (ex : PySem.W.Frag → Bool) (g : Addr → Option Obj) : AlX := (He.obsD fa fn (fragX n g), ex (fragX n g))
def hookX (n : Nat) (fa : List He.Fa) (fn : List He.DefD) (ex : PySem.W.Frag → Bool) : PySem.W.Hook where
  α := AlX
  obs := fun s => obsX n fa fn ex s.heap.get?
  val := fun _ => (He.valD fn, true)
  says := fun _ h => ∃ K : PySem.W.Frag, K.In h ∧ He.SaysD fa fn K ∧ ex K = true
  of := fun _ _ e => ⟨_, He.frG_in, congrArg (fun z : AlX => z.1) e, congrArg (fun z : AlX => z.2) e⟩
  keeps := fun _ _ _ ⟨K, hK, c⟩ k => ⟨K, PySem.W.Frag.In.keeps hK k, c⟩
def obT (n : Nat) (fa : List He.Fa) (fn : List He.DefD) (ex : PySem.W.Frag → Bool) (s : PySem.W.SharedT) : AlX := obsX n fa fn ex (HandSHeadRun.getT s)
theorem obT_eq (n : Nat) (fa : List He.Fa) (fn : List He.DefD) (ex : PySem.W.Frag → Bool) (s : PySem.W.SharedT) : obT n fa fn ex s = (hookX n fa fn ex).obs s.abs := by
  have e : HandSHeadRun.getT s = s.abs.heap.get? := funext (HandSHeadRun.getT_eq s)
  show obsX n fa fn ex (HandSHeadRun.getT s) = obsX n fa fn ex s.abs.heap.get?
  rw [e]
/-- a global that stands for a built-in of a module -/
def bltB (x : Str) (id : String) (K : PySem.W.Frag) : Bool := decide (PySem.W.nsIn K mainGlobals x = some (some (.builtin id)))
theorem blt_ok {K : PySem.W.Frag} {h : Heap} {mg : Str → Option Value} (X : K.In h) (G : h.Ns mainGlobals mg) {x : Str} {id : String} (c : bltB x id K = true) : mg x = some (.builtin id) := PySem.W.mg_of X G (of_decide_eq_true c)
theorem def_ok {P : Program} {w : World} {K : PySem.W.Frag} {mg : Str → Option Value} {base : Heap} {k : Nat} {x : Str} {st : Stmt} {f : Addr} {fd : FuncData} {ps : List Str} {sp : Sp} (F : L2.FunD K x x (defArgs st) (defBody st) (defScope st) [] [] f fd)
    (g : mg x = some (.ref f)) (ok : FnG P w K mg base CX0 k f fd ps sp)
    (h : ∀ (kV doc pm : Value) (an : Option Addr) (cdv ct : Value) (us : List Value), us.length = ps.length → bindArgs (PySem.W.fnOf x x (defArgs st) (defBody st) (defScope st) .none kV doc pm an cdv ct) ⟨us, []⟩ = pure (ps.zip us)) :
    DefOk P w K mg base k x ps sp := ⟨f, fd, ok, g, F.kp, L2.FunD.bindsN F h⟩
end FD

set_option maxRecDepth 100000
namespace FD
open PySem PySem.Spec PyProof.Rows L2
/-! ## repr of data -/
def okShow (d : PyData) : Bool := d.showable && !d.hasDict && decide (d.depth ≤ 64) && decide (d.shown.length ≤ sizeLine)
def dRepr : List DV → Option DV
  | [d] => match toPy d with
    | some x => if okShow x then some (.str x.shown) else none
    | none => none
  | _ => none
def rRepr (K : PySem.W.Frag) : List V → Hp → VK → Prop := fun vs H Q => ∃ v d, vs = [v] ∧ Dp K H v d ∧ okShow d = true ∧ Q (.str d.shown) H
theorem okShow_parts {d : PyData} (h : okShow d = true) : d.showable = true ∧ d.hasDict = false ∧ d.depth ≤ 64 ∧ d.shown.length ≤ sizeLine := by
  unfold okShow at h
  simp only [Bool.and_eq_true, Bool.not_eq_true', decide_eq_true_eq] at h
  exact ⟨h.1.1.1, h.1.1.2, h.1.2, h.2⟩
section
variable {X : Cx} {C : Cn} {e : Expr} {p pos : Pos} {fa : AF}
theorem call_reprD (hg : X.A.guards = some []) (hu : X.A.units + 66 < cLine) : CallR X (.builtin "repr") (rRepr X.K) := by
  intro pins s σ H xs us Q I r h
  obtain ⟨v, d, rfl, hd, hs, q⟩ := h
  obtain ⟨u, rfl, ru⟩ := vals1 r
  obtain ⟨s1, s2, s3, s4⟩ := okShow_parts hs
  obtain ⟨as, rd⟩ := Dp.reads I d v u hd ru
  have big : ∀ a : Addr, u = .ref a → wpAny (model X.prog X.w) X.A (call (.builtin "repr") [u]) (EP X pins σ Q) X.xe s := by
    intro a ea
    subst ea
    exact repr_of_reads' rd s1 (PyData.noDict_hsm s2) hg (by omega) (fun _ _ z => z) (fun h' t tk hk => ⟨.str d.shown, H, I.kept hk, ⟨t, rfl⟩, q⟩) s4
  cases hd with
  | non =>
    cases ru
    exact PySem.P.repr_of_none ⟨.str _, H, I.tok _, ⟨_, rfl⟩, q⟩
  | bl b =>
    cases ru
    exact PySem.P.repr_of_bool ⟨.str _, H, I.tok _, ⟨_, by cases b <;> rfl⟩, q⟩
  | int i =>
    obtain ⟨t, rfl⟩ := ru
    exact PySem.P.repr_of_int (of_decide_eq_true s1) ⟨.str _, H, I.tok _, ⟨_, rfl⟩, q⟩
  | str x =>
    obtain ⟨t, rfl⟩ := ru
    exact PySem.P.repr_of_str ⟨.str _, H, I.tok _, ⟨_, rfl⟩, q⟩ s4
  | lst h1 h2 =>
    cases ru
    exact big _ rfl
  | tup h1 h2 =>
    cases ru
    exact big _ rfl
theorem o_repr : OpA X.K (rRepr X.K) dRepr := by
  intro C G H σ s vs ds d A r ho Q q
  unfold dRepr at ho
  split at ho
  · rename_i d0
    split at ho
    · rename_i x hx
      split at ho
      · rename_i hs
        cases ho
        obtain ⟨v, rfl, rv⟩ := r.single
        exact ⟨v, x, rfl, Rp.dp A.gh d0 v x rv hx, hs, q _ H G (Fw.refl A.gh) rfl⟩
      · cases ho
    · cases ho
  · cases ho
theorem fe_repr {k : Nat} (hr : Rm k X.A) (hm : X.mg "repr" = none) (ha : FA X C [e] fa) (hg : Gl X "repr" := by rfl) (he : starEach [e] X.env = (false, eval e X.env) :: starEach [] X.env := by rfl) : FE X C (.Call (.Name "repr" p) [e] [] pos) (eA fa dRepr) :=
  fe_callB (call_reprD hr.gd (by have := hr.rm.un; omega)) o_repr hm (by decide +kernel) ha hg (he := he)
end
end FD

set_option maxRecDepth 100000
set_option maxHeartbeats 4000000
namespace FD
open PySem PySem.Spec PyProof.Rows L2
/-! ## an exception that was caught, kept as a value -/
theorem exK_ok {P : Program} {w : World} {H : Hp} {h : Heap} {a : Addr} {cls : Value} {d : Option Addr} {oe : Obj} {vs : Array Value} (e : h.get? a = some oe) (z : Zc cls d oe) (hd : oe.data = .fields vs) : ObjOk P w H h a (ExK cls d a) :=
  ⟨⟨oe, vs, e, z, hd⟩, ⟨oe, e⟩, fun _ _ z k => let ⟨o, v, q, r⟩ := z; ⟨o, v, k o q, r⟩⟩
section
variable {X : Cx} {pins : List (Addr × Obj)} {σ : St} {H : Hp} {s : Shared}
/-- from now on the object at a is known as such -/
theorem Inv.known (I : Inv X pins σ H s) {a : Addr} {cls : Value} {d : Option Addr} {oe : Obj} {vs : Array Value} (ga : s.heap.get? a = some oe) (za : Zc cls d oe) (da : oe.data = .fields vs) (na : H a = none) (new : ∀ o, X.s_0.heap.get? a ≠ some o) (neL : a ≠ X.env.locals) (nop : ∀ p ∈ X.pn ++ pins, p.1 ≠ a) :
    Inv X pins σ (upd H a (ExK cls d a)) s := by
  have other : ∀ {b : Addr} {o : HO}, H b = some o → b ≠ a := fun q => ne_of_none q na
  have cell : ∀ x c, X.env.cells.lookup x = some c → c ≠ a := fun x c e z => by
    obtain ⟨v, o, q1, q2⟩ := I.cell x c e
    rw [z, ga] at q1
    cases q1
    rw [da] at q2
    cases q2
  exact {
    ok := I.ok, os := I.os, bare := I.bare, loc := I.loc, cell := I.cell, len := I.len
    base := {
      keep := I.base.keep, slot := I.base.slot, there := I.base.there
      free := fun b o q n hx => by
        have ne : b ≠ a := fun z => new o (by rw [← z]; exact q)
        rw [upd_ne ne]
        exact I.base.free b o q n hx
      tups := fun b xs q => by rw [upd_ne (other (I.base.tups b xs q))]; exact I.base.tups b xs q
      frzs := fun b o u q => by rw [upd_ne (other (I.base.frzs b o u q))]; exact I.base.frzs b o u q
      tbls := fun b ps q => by
        obtain ⟨more, e⟩ := I.base.tbls b ps q
        exact ⟨more, by rw [upd_ne (other e)]; exact e⟩ }
    free := by rw [upd_ne neL.symm]; exact I.free
    freeC := fun x c e => by rw [upd_ne (cell x c e)]; exact I.freeC x c e
    pin := fun p hp => by
      obtain ⟨e1, e2, e3⟩ := I.pin p hp
      exact ⟨e1, by rw [upd_ne (nop p hp)]; exact e2, e3⟩
    hok := HOk.laidN I.hok (fun _ _ q => q) na (exK_ok ga za da) }
end
/-- the wish of a clause that always catches, and whose suite goes on behind itself -/
def wKeep (K : PySem.W.Frag) (c : Value) (i : Nat) (ts : Addr → Value → Option Addr → TS) (D : Ends) : WX := fun cls d σ H =>
  PySem.W.exmOne K cls c = some true ∧ ∀ a, H a = none →
    ts a cls d { nx := fun σ1 H1 => H1 a = none → D.nx (σ1.set i none) (upd H1 a (ExK cls d a)), rt := fun _ _ => False, bk := fun _ _ => False, ct := fun _ _ => False } (σ.set i (some (.ref a))) H
section
variable {X : Cx} {x n : Str} {c : Value} {i : Nat} {body suite : List Stmt} {st : Stmt} {np pos pos2 : Pos} {tb : WX → TS} {ts : Addr → Value → Option Addr → TS}
theorem ps_try_keep (hex : X.ex = []) (hs : X.stack = X.env :: X.outer) (hf : X.env.frame = some X.env.locals) (hN : X.N.Nodup) (hi : X.N[i]? = some n) (hln : X.env.kindOf n = some .local) (hc : Names X x c)
    (hb : ∀ (W : WX) (pn : List (Addr × Obj)) (xe : Value → Shared → Prop), Takes (X.tr pn xe) W → PassesOwn (model X.prog X.w) X.A X.env xe → PSs (X.tr pn xe) body (tb W))
    (hsu : ∀ (a : Addr) (oe : Obj) (cls : Value) (d : Option Addr) (pn : List (Addr × Obj)), PSs (X.suite a ((a, oe) :: pn)) (st :: suite) (ts a cls d)) :
    PS X (.Try body [.ExceptHandler (some (.Name x np)) (some n) (st :: suite) pos2] [] [] pos) (fun D σ H => tb (wKeep X.K c i ts D) D σ H) where
  run := by
    intro pins s σ H D I want
    let hdl : List ExceptHandler := [.ExceptHandler (some (.Name x np)) (some n) (st :: suite) pos2]
    have frames : X.A.frames = some (X.env :: X.outer) := hs ▸ I.ok.frames
    -- what is done with an exception
    let onX : Value → Shared → Prop := fun e t => wpAny (model X.prog X.w) X.A (noteFrame e X.env) (fun _ t2 => wpAny (model X.prog X.w) X.A (setFlight e none) (fun _ t3 => wpAny (model X.prog X.w) X.A (handleBy e X.env hdl) (SP X pins D) X.xe t3) X.xe t2) X.xe t
    have catches : Takes (X.tr (X.pn ++ pins) onX) (wKeep X.K c i ts D) := by
      rintro u t ⟨a, B, sI, pl, σ1, H1, cls, d, rfl, I1, nbk, upp, sk, noA, oss, bare, hm, go⟩
      have J : Inv X pins σ1 H1 sI := I1.ofTry I.ok
      -- the address is a new one, and no frame's
      have fresh : ∀ {b : Addr} {o : Obj}, B.get? a = none → sI.heap.get? b = some o → b ∉ frs X.stack → b ≠ a := fun e q k z => by
        rw [z] at q k
        rw [nbk a _ q k] at e
        cases e
      have Sk : Sky B (X.env :: X.outer) a (Zc cls d) X.env.locals t.heap := hs ▸ sk
      refine Sky.land Zc.steady frames hf Sk fun hp fy uq => ?_
      have Ja : Inv X pins σ1 H1 { t with heap := hp } := J.landed nbk fy.1 (upp.trans uq) oss bare
      obtain ⟨oa, va, ga, za, da⟩ := fy.there
      have nofr : a ∉ frs X.stack := fun z => by
        rw [hs] at z
        obtain ⟨_, o, e1, e2⟩ := fy.2.2.1.mem z
        rw [show hp.get? a = some oa from ga] at e1
        cases e1
        exact e2 _ da
      have inFrs : ∀ b, b = X.env.locals ∨ b ∈ X.fs → b ∈ frs X.stack := fun b hb => by
        rw [hs]
        rcases hb with rfl | hb
        · exact List.mem_filterMap.mpr ⟨X.env, List.mem_cons_self, hf⟩
        · obtain ⟨z, hz, q⟩ := List.mem_filterMap.mp hb
          exact List.mem_filterMap.mpr ⟨z, List.mem_cons_of_mem _ hz, q⟩
      have neL : a ≠ X.env.locals := fun z => nofr (inFrs a (.inl z))
      have neF : a ∉ X.fs := fun z => nofr (inFrs a (.inr z))
      have Sa := Ja.suite ga da noA neL neF
      refine wpAny_handleBy_cons (codeAny_handlers_test ?_) (fun q => nomatch q)
      have look : wpAny (model X.prog X.w) (X.A.mark (some (.ref a))) (eval (.Name x np) X.env) (fun v t2 => v = c ∧ t2 = { t with heap := hp }) (fun _ _ => False) { t with heap := hp } := by
        obtain ⟨hg, hdbg, hm2 | ⟨hm2, hv, hnn⟩⟩ := hc
        · exact ld_glob (X := X.suite a ((a, oa) :: (X.pn ++ pins))) Sa hg hm2 ⟨rfl, rfl⟩ hdbg
        · exact ld_blt (X := X.suite a ((a, oa) :: (X.pn ++ pins))) Sa hg hm2 hv ⟨rfl, rfl⟩ hnn hdbg
      refine wpAny_mono look ?_ (fun _ _ z => False.elim z)
      rintro _ _ ⟨rfl, rfl⟩
      refine (PySem.W.exm_one (M := model X.prog X.w) Ja.kIn (fun A Q E s k q => wpAny_typeOf_ref (k _ _ ga) (by rw [za.1]; exact q)) hm).here ?_
      refine codeAny_handlers_suite_as (HandSPX.lands_againZ fy fun hq gy vq => ?_)
      have Jb : Inv X pins σ1 H1 { t with heap := hq } := J.landed nbk gy.1 ((upp.trans uq).trans vq) oss bare
      obtain ⟨ob, vb, gb, zb, db⟩ := gy.there
      have Sb := Jb.suite gb db noA neL neF
      refine store_ok (X := X.suite a ((a, ob) :: (X.pn ++ pins))) (v := .ref a) Sb hN hi (.inl hln) rfl (fun t4 S4 => ?_) (.inr hln)
      refine wpAny_mono ((hsu a ob cls d (X.pn ++ pins)).run [] t4 _ H1 _ S4 (go a noA)) (fun f t5 z => ?_) (fun _ _ z => False.elim z)
      match f, z with
      | .brk, ⟨_, _, _, q⟩ => exact False.elim q
      | .cont, ⟨_, _, _, q⟩ => exact False.elim q
      | .ret _, ⟨_, _, _, _, _, q⟩ => exact False.elim q
      | .next, ⟨σ5, H5, S5, q⟩ =>
        obtain ⟨g5, n5, _, _, _⟩ := S5.pin (a, ob) (List.mem_append_left _ List.mem_cons_self)
        have J5 : Inv X pins σ5 H5 t5 := S5.unsuite I.ok
        have new : ∀ o, X.s_0.heap.get? a ≠ some o := fun o e1 => by
          obtain ⟨o2, e2⟩ := J.base.there a o e1 (by rw [hex]; simp)
          exact fresh gy.2.1 e2 nofr rfl
        have K5 := Inv.known J5 (cls := cls) (d := d) g5 zb db n5 new neL fun p hp2 => by
          obtain ⟨e1, _, e3, e4, _⟩ := J.pin p hp2
          exact fresh gy.2.1 e1 fun z => (J.stkSub p.1 z |> List.mem_cons.mp).elim e3 e4
        exact gone_ok K5 hN hi hln fun t6 J6 => ⟨_, _, J6, q n5⟩
    refine wpAny_Try_except (wpAny_mono ((hb _ (X.pn ++ pins) onX catches PassesOwn.looking).run [] s σ H D (I.toTry _) want) (fun f t z => ?_) fun _ _ z => z)
    match f, z with
    | .next, ⟨σ1, H1, J, q⟩ => exact wpAny_execs_nil ⟨σ1, H1, J.ofTry I.ok, q⟩
    | .brk, ⟨σ1, H1, J, q⟩ => exact ⟨σ1, H1, J.ofTry I.ok, q⟩
    | .cont, ⟨σ1, H1, J, q⟩ => exact ⟨σ1, H1, J.ofTry I.ok, q⟩
    | .ret _, ⟨v, σ1, H1, J, r, q⟩ => exact ⟨v, σ1, H1, J.ofTry I.ok, r, q⟩
end
end FD

set_option maxRecDepth 100000
set_option maxHeartbeats 4000000
namespace FD
open PySem PySem.Spec PyProof.Rows L2
/-! ## defs that may raise -/
inductive Rz where
  | ok (d : DV) | er (c : Str)
def spR (K : PySem.W.Frag) (f : List DV → Option Rz) : Sp := fun vs H Q E => ∃ G ds z, Same G H ∧ RpL K G vs ds ∧ f ds = some z ∧ match z with
  | .ok d => ∀ v H' G', Fw G H G' H' none → Rp K G' v d → Q v H'
  | .er c => ∀ H' G', Fw G H G' H' none → E (.ref (He.ga K c)) none H'
def bodyR (n m : Nat) (g : SF) : List DV → Option Rz := fun ds =>
  if ds.length = n then match g ⟨ds.map (fun d => some (.dat d)) ++ List.replicate (m - n) none, spl0⟩ with
    | some (.rt d _) => some (.ok d)
    | some (.nx _) => some (.ok .non)
    | some (.er c _) => some (.er c)
    | _ => none
  else none
section
variable {P : Program} {w : World} {K : PySem.W.Frag} {mg : Str → Option Value} {base : Heap}
theorem fn_raise {x qual : Str} {params : Arguments} {body : List Stmt} {scope : Scope} {dvs : List V} {kws : List (Str × V)} {f : Addr} {fd : FuncData} {N ps : List Str} {k : Nat} {g : SF} (F : FunD K x qual params body scope dvs kws f fd) (Sc : FnScope N ps scope)
    (h : ∀ (C : Cn) (cdv : Value) (A : Around) (outer : List Env) (s : Shared) (H : Hp) (E : XK), C.sp = none → Takes (cxOf (L2.CX P w) P w K mg base N qual scope f cdv A outer s H E) C.W → Rm k (A.deeper (envOfC qual scope s.heap.objs.size f cdv)) → FSs (cxOf (L2.CX P w) P w K mg base N qual scope f cdv A outer s H E) C body g) :
    FnG P w K mg base (L2.CX P w) (k + 1) f fd ps (spR K (bodyR ps.length N.length g)) := by
  refine okG F Sc (fun vs H Q E h => ?_) (fun cdv A outer s H vs Q E hr hsp => ?_)
  · obtain ⟨G, ds, z, _, r, e, _⟩ := h
    unfold bodyR at e
    split at e
    · rename_i hl
      rw [r.length, hl]
    · cases e
  · obtain ⟨G, ds, z, g0, r, e, q⟩ := hsp
    unfold bodyR at e
    split at e
    · rename_i hl
      obtain ⟨t, p1, q1⟩ := h ⟨G, H, none, fun cls d _ H' => E cls d H'⟩ cdv A outer s H E rfl (takes_of rfl rfl rfl rfl) hr
      have A0 := ab_start (K := K) (W := fun cls d _ H' => E cls d H') g0 r (N.length - ps.length) spl0
      have es : L2.start N vs = vs.map some ++ List.replicate (N.length - ps.length) none := by
        unfold L2.start
        rw [r.length, hl]
      refine ⟨t, p1, ?_⟩
      rw [es]
      split at e
      · rename_i d' s' e1
        cases e
        refine q1 G H _ _ _ A0 e1 _ ?_
        exact fun v σ' H' G' g1 A1 rv => q v H' G' ⟨g1, A1.gh, fun b o e n => A1.fr b o e n, A1.gn⟩ rv
      · rename_i s' e1
        cases e
        refine q1 G H _ _ _ A0 e1 _ ?_
        exact fun σ' H' G' g1 A1 => q .non H' G' ⟨g1, A1.gh, fun b o e n => A1.fr b o e n, A1.gn⟩ rfl
      · rename_i c s' e1
        cases e
        refine q1 G H _ _ _ A0 e1 _ ?_
        exact fun σ' H' G' g1 A1 => q H' G' ⟨g1, A1.gh, fun b o e n => A1.fr b o e n, A1.gn⟩
      · cases e
    · cases e
end
/-! ## a call that may raise -/
inductive Ez where
  | ok (d : DV) (s : S) | er (c : Str) (s : S)
abbrev XF := S → Option Ez
def EvX (K : PySem.W.Frag) (C : Cn) (te : TE) (f : XF) : Prop := ∀ G H σ s z, Ab K C G H σ s → f s = some z → ∀ Q : VK, (match z with
  | .ok d s' => ∀ v H' G', Same G G' → Ab K C G' H' σ s' → Rp K G' v d → Q v H'
  | .er c s' => ∀ H' G', Same G G' → Ab K C G' H' σ s' → C.W (.ref (He.ga K c)) none σ H') →
  (match z with
  | .ok _ _ => True
  | .er _ _ => True) → te σ H Q
def FX (X : Cx) (C : Cn) (e : Expr) (f : XF) : Prop := ∃ te, PE X e te ∧ EvX X.K C te f
def eX (ff : AF) (op : List DV → Option Rz) : XF := fun s => match ff s with
  | some (ds, s1) => match op ds with
    | some (.ok d) => some (.ok d s1)
    | some (.er c) => some (.er c s1)
    | none => none
  | none => none
def DefR (P : Program) (w : World) (K : PySem.W.Frag) (mg : Str → Option Value) (base : Heap) (k : Nat) (x : Str) (ps : List Str) (sp : Sp) : Prop :=
  ∃ f fd, FnG P w K mg base (L2.CX P w) k f fd ps sp ∧ mg x = some (.ref f) ∧ PySem.W.keepIn K (.ref f) = true ∧ Binds K fd ps []
section
variable {X : Cx} {C : Cn} {k j : Nat} {f : Addr} {fd : FuncData} {ps : List Str} {sp : Sp} {x : Str} {p pos : Pos} {e : Expr} {es : List Expr} {t : TA} {op : List DV → Option Rz} {ff : AF} {i : Nat}
theorem pe_callGS {E : St → XK} (F : FnG X.prog X.w X.K X.mg X.base (L2.CX X.prog X.w) k f fd ps sp) (hr : Rm k X.A) (hg : Gl X x) (hm : X.mg x = some (.ref f)) (hk : PySem.W.keepIn X.K (.ref f) = true) (hb : Binds X.K fd ps []) (hx : ∀ σ, PassesAt (L2.CX X.prog X.w) X σ (E σ))
    (ha : PA X (e :: es) t) (hdb : (x == ("__debug__" : Str)) = false := by decide) (he : starEach (e :: es) X.env = (false, eval e X.env) :: starEach es X.env := by rfl) (hpl : (backTo pos (starEach es X.env)).any (·.1) = false := by rfl) : PE X (.Call (.Name x p) (e :: es) [] pos) (tCallS sp E t) where
  run := by
    intro pins s σ H Q I h
    refine wpAny_Call_Name_kw (ld_glob I hg hm (PySem.W.callWith_K (h₀ := X.base) I.ok.mod.kin hk ?_ he hpl) hdb)
    refine thn (ha.run pos pins s σ H _ I h) ?_
    rintro us s1 ⟨vs, H1, I1, rv, want⟩
    refine ⟨I1.kIn, ?_⟩
    have hl : us.length = ps.length := by rw [← rv.length]; exact F.len _ _ _ _ want
    have b := hb s1 us I1.kIn (by rw [List.append_nil]; exact hl)
    rw [List.append_nil] at b
    refine wpAny_call (codeAny_mono (F.run X.A X.stack s1 H1 ⟨us, []⟩ us vs Q (E σ) hr I1.env0 b rv want) fun r s' hq => ?_)
    match r, hq with
    | .error e, hq => exact hx σ pins H1 s1 e s' I1 hq
    | .ok (.ret u), hq => exact I1.after hq
    | .ok .next, hq => exact False.elim hq
    | .ok .brk, hq => exact False.elim hq
    | .ok .cont, hq => exact False.elim hq
theorem fx_def (D : DefR X.prog X.w X.K X.mg X.base j x ps (spR X.K op)) (tk : Takes X C.W) (hr : Rm k X.A) (hj : j ≤ k) (ha : FA X C (e :: es) ff) (hg : Gl X x := by rfl) (hdb : (x == ("__debug__" : Str)) = false := by decide) (he : starEach (e :: es) X.env = (false, eval e X.env) :: starEach es X.env := by rfl)
    (hpl : (backTo pos (starEach es X.env)).any (·.1) = false := by rfl) : FX X C (.Call (.Name x p) (e :: es) [] pos) (eX ff op) := by
  obtain ⟨fa, fd, F, hm, hk, hb⟩ := D
  obtain ⟨ta, p1, q1⟩ := ha
  refine ⟨_, pe_callGS (F.mono hj) hr hg hm hk hb (fun σ => passAt tk σ) p1 hdb he hpl, ?_⟩
  intro G H σ s z A e1 Q k _
  unfold eX at e1
  split at e1
  · rename_i ds s1 e2
    refine q1 G H σ s ds s1 A e2 _ fun vs H1 G1 g1 A1 r => ?_
    split at e1
    · rename_i d e3
      cases e1
      exact ⟨G1, ds, .ok d, A1.gh, r, e3, fun v H2 G2 F2 rv => k v H2 G2 (g1.trans F2.g) (A1.fw0 F2) rv⟩
    · rename_i c e3
      cases e1
      exact ⟨G1, ds, .er c, A1.gh, r, e3, fun H2 G2 F2 => k H2 G2 (g1.trans F2.g) (A1.fw0 F2)⟩
    · cases e1
  · cases e1
def sRtX (f : XF) : SF := fun s => match f s with
  | some (.ok d s1) => some (.rt d s1)
  | some (.er c s1) => some (.er c s1)
  | none => none
theorem fs_retX {f : XF} (h : FX X C e f) : FS X C (.Return (some e) pos) (sRtX f) := by
  obtain ⟨te, p1, q1⟩ := h
  refine ⟨_, ps_ret p1, ?_⟩
  intro G H σ s o A e1 D k
  unfold sRtX at e1
  split at e1
  · rename_i d s1 e2
    cases e1
    exact q1 G H σ s _ A e2 _ (fun v H1 G1 g1 A1 r => k v σ H1 G1 g1 A1 r) trivial
  · rename_i c s1 e2
    cases e1
    exact q1 G H σ s _ A e2 _ (fun H1 G1 g1 A1 => k σ H1 G1 g1 A1) trivial
  · cases e1
def sAsgX (f : XF) (i : Nat) : SF := fun s => match f s with
  | some (.ok d s1) => some (.nx { s1 with sl := s1.sl.set i (some (.dat d)) })
  | some (.er c s1) => some (.er c s1)
  | none => none
theorem fs_setX (i : Nat) {f : XF} {x : Str} {pos' : Pos} (h : FX X C e f) (hN : X.N.Nodup) (hi : X.N[i]? = some x := by rfl) (hx : Loc X.env.scope x := by first | exact Or.inl rfl | exact Or.inr rfl) (hs : swapsWith e (some (.Name x pos')) pos.line X.env = pure false := by rfl) (hf : X.fn x = true ∨ X.env.scope.names.lookup x = some .local := by first | exact .inl rfl | exact .inr rfl | assumption) :
    FS X C (.Assign [.Name x pos'] e pos) (sAsgX f i) := by
  obtain ⟨te, p1, q1⟩ := h
  refine ⟨_, ps_set hN hi hx p1 hs hf, ?_⟩
  intro G H σ s o A e1 D k
  unfold sAsgX at e1
  split at e1
  · rename_i d s1 e2
    cases e1
    exact q1 G H σ s _ A e2 _ (fun v H1 G1 g1 A1 r => k _ H1 G1 g1 (A1.set_dat r)) trivial
  · rename_i c s1 e2
    cases e1
    exact q1 G H σ s _ A e2 _ (fun H1 G1 g1 A1 => k σ H1 G1 g1 A1) trivial
  · cases e1
/-! ## raise X(e) -/
structure RzF (X : Cx) (x : Str) : Prop where
  gl : X.mg x = some (.ref (He.ga X.K x))
  ok : (He.Fa.exc x).ok X.K = true
def sRs (x : Str) (f : EF) : SF := fun s => match f s with
  | some (_, s1) => some (.er x s1)
  | none => none
theorem fs_raise {f : EF} {pos3 : Pos} (hc : X.calm = true) (R : RzF X x) (tk : Takes X C.W) (he : FE X C e f) (hg : Gl X x := by rfl) (hs : starEach [e] X.env = (false, eval e X.env) :: starEach [] X.env := by rfl) (hdb : (x == ("__debug__" : Str)) = false := by decide) :
    FS X C (.Raise (some (.Call (.Name x p) [e] [] pos)) none pos3) (sRs x f) := by
  obtain ⟨te, p1, q1⟩ := he
  obtain ⟨c1, c2, c3, c4⟩ := He.exc_ok R.ok
  refine ⟨_, ps_raise hc tk (SkE.pmk_own1 PySem.F.excBase_ValueError c1 R.gl c2 (raises_own c3 c4) hg p1 hs hdb), ?_⟩
  intro G H σ s o A e1 D k
  unfold sRs at e1
  split at e1
  · rename_i d s1 e2
    cases e1
    exact q1 G H σ s d s1 A e2 _ fun v H1 G1 g1 A1 r => k σ H1 G1 g1 A1
  · cases e1
end
/-! ## try: body, except x as n: y = n -/
def tbU (K : PySem.W.Frag) (g : SF) : WX → TS := fun W D σ H => ∃ C G s o, Ab K C G H σ s ∧ C.W = W ∧ g s = some o ∧ Kont K C G D o
theorem Ab.toW {K : PySem.W.Frag} {C : Cn} {G H : Hp} {σ : List (Option V)} {s : S} (A : Ab K C G H σ s) (W : Value → Option Addr → St → Hp → Prop) : Ab K { C with W := W } G H σ s := ⟨A.gh, A.fr, A.g0, A.gn, A.len, A.sl, A.dis, A.spk⟩
theorem Ab.ofW {K : PySem.W.Frag} {C : Cn} {G H : Hp} {σ : List (Option V)} {s : S} {W : Value → Option Addr → St → Hp → Prop} (A : Ab K { C with W := W } G H σ s) : Ab K C G H σ s := ⟨A.gh, A.fr, A.g0, A.gn, A.len, A.sl, A.dis, A.spk⟩
def sTry (kinds : List Str) (i j : Nat) (g : SF) : SF := fun s => match g s with
  | some (.er c s1) => if c ∈ kinds ∧ i < s1.sl.length then some (.nx { s1 with sl := (s1.sl.set j (some (.dat (.exc c [])))).set i none }) else none
  | o => o
section
variable {X : Cx} {C : Cn} {x n y : Str} {body : List Stmt} {np pos pos2 pn pa py : Pos} {g : SF} {kinds : List Str}
theorem fs_try (i j : Nat) (hex : X.ex = []) (hs : X.stack = X.env :: X.outer) (hf : X.env.frame = some X.env.locals) (hN : X.N.Nodup) (hc : Names X x (.ref (He.ga X.K x))) (hk : ∀ c ∈ kinds, (He.Fa.exm c x true).ok X.K = true)
    (hb : ∀ (C' : Cn) (pn : List (Addr × Obj)) (xe : Value → Shared → Prop), Takes (X.tr pn xe) C'.W → PassesOwn (model X.prog X.w) X.A X.env xe → FSs (X.tr pn xe) C' body g)
    (hi : X.N[i]? = some n := by rfl) (hj : X.N[j]? = some y := by rfl) (hij : i ≠ j := by decide) (hln : X.env.kindOf n = some .local := by rfl) (hly : X.env.scope.names.lookup y = some .local := by rfl) (hv : Vis X.env.scope n := by first | exact Or.inl rfl | exact Or.inr (Or.inl rfl) | exact Or.inr (Or.inr rfl))
    (hd : (n == ("__debug__" : Str)) = false := by decide) (hcd : (n == ("__classdict__" : Str)) = false := by decide) (hsw : swapsWith (.Name n pn) (some (.Name y py)) pa.line X.env = pure false := by rfl) :
    FS X C (.Try body [.ExceptHandler (some (.Name x np)) (some n) [.Assign [.Name y py] (.Name n pn) pa] pos2] [] [] pos) (sTry kinds i j g) := by
  have body_ : ∀ (W : WX) (pl : List (Addr × Obj)) (xe : Value → Shared → Prop), Takes (X.tr pl xe) W → PassesOwn (model X.prog X.w) X.A X.env xe → PSs (X.tr pl xe) body (tbU X.K g W) := by
    intro W pl xe tk po
    refine ⟨fun pins s σ H D I z => ?_⟩
    obtain ⟨C', G, st, o, A, rfl, e, k⟩ := z
    obtain ⟨ts, p, q⟩ := hb C' pl xe tk po
    exact p.run pins s σ H D I (q G H σ st o A e D k)
  refine ⟨_, ps_try_keep (ts := fun _ _ _ => tAsg (tVar i) (gName j)) hex hs hf hN hi hln hc body_ (fun a oe cls d pl => pss_one (ps_set (X := X.suite a ((a, oe) :: pl)) hN hj (.inl hly) (pe_var hi hv hd hcd) hsw (.inr hly))), ?_⟩
  intro G H σ s o A e1 D k
  unfold sTry at e1
  have wk : ∀ c ∈ kinds, ∀ s1 : S, i < s1.sl.length → Kont X.K C G D (.nx { s1 with sl := (s1.sl.set j (some (.dat (.exc c [])))).set i none }) →
      Kont X.K { C with W := wKeep X.K (.ref (He.ga X.K x)) i (fun _ _ _ => tAsg (tVar i) (gName j)) D } G D (.er c s1) := by
    intro c hcm s1 hlt k1 σ' H' G' g' A'
    refine ⟨He.exm_ok (hk c hcm), fun a na => ?_⟩
    refine ⟨.ref a, List.getElem?_set_self (by rw [A'.len]; exact hlt), fun na1 => ?_⟩
    have F := Fw.add (o := ExK (.ref (He.ga X.K c)) none a) A'.gh na
    have A2 := ((A'.ofW.fw0 F).set_dat (i := j) (v := .ref a) (d := .exc c []) ⟨a, none, rfl, upd_same, rfl⟩).set_none i
    have e : ((σ'.set i (some (V.ref a))).set j (some (.ref a))).set i none = (σ'.set j (some (.ref a))).set i none := by
      rw [List.set_comm _ _ hij, List.set_set]
    show D.nx (((σ'.set i (some (V.ref a))).set j (some (.ref a))).set i none) _
    rw [e]
    exact k1 _ _ _ (g'.trans F.g) A2
  split at e1
  · rename_i c s1 e2
    split at e1
    · rename_i hcm
      cases e1
      exact ⟨{ C with W := wKeep X.K (.ref (He.ga X.K x)) i (fun _ _ _ => tAsg (tVar i) (gName j)) D }, G, s, _, A.toW _, rfl, e2, wk c hcm.1 s1 hcm.2 k⟩
    · cases e1
  · rename_i o' ne
    refine ⟨{ C with W := wKeep X.K (.ref (He.ga X.K x)) i (fun _ _ _ => tAsg (tVar i) (gName j)) D }, G, s, o, A.toW _, rfl, e1, ?_⟩
    match o, e1, k with
    | .nx s1, _, k => exact fun σ' H' G' g' A' => k σ' H' G' g' A'.ofW
    | .bk s1, _, k => exact fun σ' H' G' g' A' => k σ' H' G' g' A'.ofW
    | .ct s1, _, k => exact fun σ' H' G' g' A' => k σ' H' G' g' A'.ofW
    | .rt d s1, _, k => exact fun v σ' H' G' g' A' r => k v σ' H' G' g' A'.ofW r
    | .er c s1, e, _ => exact absurd e (ne c s1)
end
end FD
namespace FD
open PySem PySem.Spec PyProof.Rows L2
section
variable {P : Program} {w : World} {K : PySem.W.Frag} {mg : Str → Option Value} {base : Heap}
theorem FnG.toR {k : Nat} {f : Addr} {fd : FuncData} {ps : List Str} {f1 f2 : List DV → Option Rz} (F : FnG P w K mg base (L2.CX P w) k f fd ps (spR K f1)) (h : ∀ ds d, f2 ds = some d → f1 ds = some d) : FnG P w K mg base (L2.CX P w) k f fd ps (spR K f2) :=
  F.imp fun vs H Q E ⟨G, ds, z, g, r, e, q⟩ => ⟨G, ds, z, g, r, h ds z e, q⟩
theorem defR_ok {k : Nat} {x : Str} {st : Stmt} {f : Addr} {fd : FuncData} {ps : List Str} {sp : Sp} (F : L2.FunD K x x (defArgs st) (defBody st) (defScope st) [] [] f fd) (g : mg x = some (.ref f)) (ok : FnG P w K mg base (L2.CX P w) k f fd ps sp)
    (h : ∀ (kV doc pm : Value) (an : Option Addr) (cdv ct : Value) (us : List Value), us.length = ps.length → bindArgs (PySem.W.fnOf x x (defArgs st) (defBody st) (defScope st) .none kV doc pm an cdv ct) ⟨us, []⟩ = pure (ps.zip us)) : DefR P w K mg base k x ps sp :=
  ⟨f, fd, ok, g, F.kp, L2.FunD.bindsN F h⟩
end
end FD

set_option maxRecDepth 100000
set_option maxHeartbeats 4000000
namespace FD
open PySem PySem.Spec PyProof.Rows L2
/-! ## isinstance of a kept exception -/
def rIsK (K : PySem.W.Frag) : List V → Hp → VK → Prop := fun xs H Q => ∃ (a D : Addr) (c : V) (cv : Value) (b : Bool), xs = [.ref a, c] ∧ (∃ d fs, H a = some (ExK (.ref D) d a) ∧ XfR H d fs) ∧ ExcC K D ∧ (∀ u, RelV c u → u = cv) ∧ PySem.W.kitOne K (.ref D) cv = some b ∧ Q (.bl b) H
section
variable {X : Cx} {C : Cn} {e : Expr} {f : EF} {x : Str} {p pos pc : Pos}
theorem call_isK : CallR X (.builtin "isinstance") (rIsK X.K) := by
  intro pins s σ H xs us Q I r h
  obtain ⟨a, D, c, cv, b, rfl, ha, E, hc, hk, q⟩ := h
  match us, r with
  | [_, u], .cons rx (.cons rc .nil) =>
    cases rx
    obtain rfl := hc u rc
    obtain ⟨d, fs, ha, hf⟩ := ha
    obtain ⟨⟨oe, vs, g, ⟨z1, z2⟩, dt⟩, _⟩ := (show ObjOk X.prog X.w H s.heap a (ExK (.ref D) d a) from I.hok a _ ha)
    have J : ∃ od, PySem.W.InstAt s.heap a oe D od := by
      obtain ⟨oc, od, oda, osl⟩ := oe
      dsimp only at z1 z2 dt
      subst z1 z2 dt
      cases od with
      | none => exact ⟨none, g, rfl, rfl, trivial⟩
      | some dd =>
        have hx : ObjOk X.prog X.w H s.heap dd (.xd (fs.map fun p => (p.1, V.int p.2))) := I.hok dd _ hf
        obtain ⟨mA, ⟨o, es, ep, ho, _⟩, _⟩ := hx
        exact ⟨some o, g, rfl, rfl, ho⟩
    obtain ⟨od, J⟩ := J
    have hcl : (PySem.W.clsIn X.K D).isSome = true := by
      obtain ⟨cd, hc, _⟩ := PySem.W.any_some E.hd
      rw [hc]
      rfl
    exact PySem.W.kia_one (PySem.W.kitx_exc hcl E.hg E.hk E.hs E.ha E.hn E.ht E.hm) I.kIn J hk (fun z => nomatch z) fun tk => ⟨.bl b, H, I.kept (t' := tk) fun _ _ z => z, rfl, q⟩
theorem Same.xf {G H : Hp} (g : Same G H) {d : Option Addr} {fs : List (Str × Int)} (h : XfR G d fs) : XfR H d fs := by
  cases d with
  | none => exact h
  | some d => exact g _ _ h
/-- of which classes an exception is -/
def dIsC (tab : List (Str × Bool)) : EF → EF := fun f s => match f s with
  | some (.exc c _, s1) => match tab.lookup c with
    | some b => some (.bl b, s1)
    | none => none
  | _ => none
/-- as facts of the written part -/
def excB (c : Str) (K : PySem.W.Frag) : Bool :=
  decide (PySem.W.findIn K (.ref (He.ga K c)) "__getattribute__" = some (some (.builtin "BaseException.__getattribute__"))) && (decide (PySem.W.findIn K (.ref (He.ga K c)) "__getattr__" = some none) && (decide (PySem.W.subIn K (.ref (He.ga K c)) (.type "BaseException") = some true) && (PySem.W.hasDictIn K (He.ga K c) &&
  (decide (PySem.W.findIn K (.ref (He.ga K c)) "__class__" = some (some (.builtin "object.__class__"))) && (decide (PySem.W.specialIn K (.builtin "object.__class__") "__get__" = some (some (.builtin "getset_descriptor.__get__"))) && (decide (PySem.W.takesIn K (.builtin "object.__class__") = some true) && decide (PySem.W.mroIn K (He.ga K c) (.type "object") = some true)))))))
theorem excB_ok {c : Str} {K : PySem.W.Frag} (h : excB c K = true) : ExcC K (He.ga K c) := by
  unfold excB at h
  simp only [Bool.and_eq_true, decide_eq_true_eq] at h
  obtain ⟨h1, h2, h3, h4, h5, h6, h7, h8⟩ := h
  exact ⟨h1, h2, h3, h4, h5, h6, h7, h8⟩
def isaB (c x : Str) (b : Bool) (K : PySem.W.Frag) : Bool := decide (PySem.W.kitOne K (.ref (He.ga K c)) (.ref (He.ga K x)) = some b)
def isaT (c : Str) (T : String) (b : Bool) (K : PySem.W.Frag) : Bool := decide (PySem.W.kitOne K (.ref (He.ga K c)) (.type T) = some b)
theorem ev_isC {te : TE} {c : V} {cv : Value} {tab : List (Str × Bool)} (q1 : EvE X.K C te f) (hc : ∀ u, RelV c u → u = cv) (he : ∀ k ∈ tab, excB k.1 X.K = true ∧ PySem.W.kitOne X.K (.ref (He.ga X.K k.1)) cv = some k.2) : EvE X.K C (tCB (rIsK X.K) (tCons te (tCons (tC c) tNil))) (dIsC tab f) := by
  intro G H σ s d s' A e1 Q k
  unfold dIsC at e1
  split at e1
  · rename_i c0 fs0 s1 e2
    split at e1
    · rename_i b e3
      cases e1
      refine q1 G H σ s _ _ A e2 _ fun v H1 G1 g1 A1 r => ?_
      obtain ⟨a, dx, rfl, ha, hx⟩ := r
      have hm : (c0, b) ∈ tab := by
        clear he e2
        induction tab with
        | nil => cases e3
        | cons t ts ih =>
          rw [List.lookup_cons] at e3
          split at e3
          · rename_i hb
            cases e3
            rw [beq_iff_eq.mp hb]
            exact List.mem_cons_self
          · exact List.mem_cons_of_mem _ (ih e3)
      obtain ⟨h1, h2⟩ := he _ hm
      exact ⟨a, _, c, cv, b, rfl, ⟨dx, fs0, A1.gh _ _ ha, Same.xf A1.gh hx⟩, excB_ok h1, hc, h2, k _ H1 G1 g1 A1 rfl⟩
    · cases e1
  · cases e1
theorem fe_isC {tab : List (Str × Bool)} (hm : X.mg "isinstance" = none) (gl : X.mg x = some (.ref (He.ga X.K x))) (ht : ∀ k ∈ tab, excB k.1 X.K = true ∧ isaB k.1 x k.2 X.K = true) (h : FE X C e f) (hg : Gl X "isinstance" := by rfl) (hx : Gl X x := by rfl) (hd : (x == ("__debug__" : Str)) = false := by decide)
    (hs : starEach [e, .Name x pc] X.env = (false, eval e X.env) :: starEach [.Name x pc] X.env := by rfl) (hs2 : starEach [.Name x pc] X.env = (false, eval (.Name x pc) X.env) :: starEach [] X.env := by rfl) (hpl : (backTo pos (starEach [.Name x pc] X.env)).any (·.1) = false := by rfl) :
    FE X C (.Call (.Name "isinstance" p) [e, .Name x pc] [] pos) (dIsC tab f) := by
  obtain ⟨te, p1, q1⟩ := h
  refine ⟨_, pe_callB call_isK hg hm (by decide +kernel) (pa_cons p1 (pa_cons (pe_glob (v := .ref (He.ga X.K x)) hx gl rfl hd) pa_nil hs2) hs) (he := hs) (hpl := hpl), ?_⟩
  exact ev_isC q1 (fun u ru => ru) fun k hk => ⟨(ht k hk).1, of_decide_eq_true (ht k hk).2⟩
theorem fe_isT {T : String} {tab : List (Str × Bool)} (hm : X.mg "isinstance" = none) (gl : X.mg x = none) (hb : bootBuiltins x = some (.type T)) (ht : ∀ k ∈ tab, excB k.1 X.K = true ∧ isaT k.1 T k.2 X.K = true) (h : FE X C e f) (hg : Gl X "isinstance" := by rfl) (hx : Gl X x := by rfl) (hd : (x == ("__debug__" : Str)) = false := by decide)
    (hn : x ≠ "__name__" := by decide) (hs : starEach [e, .Name x pc] X.env = (false, eval e X.env) :: starEach [.Name x pc] X.env := by rfl) (hs2 : starEach [.Name x pc] X.env = (false, eval (.Name x pc) X.env) :: starEach [] X.env := by rfl) (hpl : (backTo pos (starEach [.Name x pc] X.env)).any (·.1) = false := by rfl) :
    FE X C (.Call (.Name "isinstance" p) [e, .Name x pc] [] pos) (dIsC tab f) := by
  obtain ⟨te, p1, q1⟩ := h
  refine ⟨_, pe_callB call_isK hg hm (by decide +kernel) (pa_cons p1 (pa_cons (pe_bltn (v := .ty T) hx gl hb rfl hn hd) pa_nil hs2) hs) (he := hs) (hpl := hpl), ?_⟩
  exact ev_isC q1 (fun u ru => ru) fun k hk => ⟨(ht k hk).1, of_decide_eq_true (ht k hk).2⟩
end
end FD

set_option maxRecDepth 100000
set_option maxHeartbeats 4000000
namespace FD
open PySem PySem.Spec PyProof.Rows L2
/-! ## repr of data whose ints are long -/
mutual
def okW : PyData → Bool
  | .int i => decide (i.natAbs.log2 < 12900)
  | .list xs | .tuple xs => okWs xs
  | .dict _ => false
  | _ => true
def okWs : List PyData → Bool
  | [] => true
  | x :: xs => okW x && okWs xs
end
section
variable {prog : Program} {w : World} {A : Around} {E : Value → Shared → Prop} {s : Shared} {h0 : Heap}
theorem lt_pow {i : Int} (h : i.natAbs.log2 < 12900) : i.natAbs < 10 ^ 4300 := Nat.lt_of_lt_of_le (lt_of_log2 h) pow_lo
theorem repr_intW {i : Int} {t : Tok} {Q : Value → Shared → Prop} (hn : s.heap.NoDigits) (h : i.natAbs.log2 < 12900) (q : Q (.str (toString i) s.toks) { s with toks := s.toks + 1 }) : wpAny (model prog w) A (call (.builtin "int.__repr__") [.int i t]) Q E s := by
  refine wpAny_call (codeAny_call_builtin F.slot_int_repr.plain F.entry_int_repr (F.slot_int_repr.check _ _ _ _ _ _ _ _ (typeIs_int s i t) (F.args_int_repr_1 _) ?_))
  unfold Builtin.«int.__repr__»
  show wpAny _ _ (do let r ← Builtin.overDigitLimit? i; _) _ _ s
  refine wpAny_bind (overDigitLimit_any hn (fun hlt => wpAny_bind (wpAny_mkStr (wpAny_pure q) (int_text_fits10 hlt))) fun hge => ?_)
  exact absurd (lt_pow h) (Nat.not_lt.mpr hge)
theorem reprK_intW {i : Int} {t : Tok} (hn : h0.NoDigits) (h : i.natAbs.log2 < 12900) : ReprK prog w [] h0 0 (.int i t) (toString i) := by
  intro base hb A g E s Q _ _ hu hk q
  rw [pyReprUnder_leaf (v := .int i t) (by omega) (fun _ z => nomatch z)]
  unfold pyRepr
  refine wpAny_bind (wpAny_pyReprObj_slot (by omega) (typeIs_int s i t) F.slot_int_repr.toG (repr_intW (hn.keeps hk) h ⟨_, _, rfl, ?_⟩))
  exact wpAny_pure (q s.heap _ fun _ _ z => z)
mutual
theorem rkW (hn : h0.NoDigits) : ∀ {v : Value} {d : PyData} {as : List Addr}, Reads h0 v d as → okW d = true → d.shown.length ≤ sizeLine → ∃ bs, ReadAtMost h0 d.depth bs ∧ ReprK prog w bs h0 d.depth v d.shown
  | _, _, _, .none, _, _ => ⟨[], (fun _ h => nomatch h), .of_is ReprIs.none _ _ _⟩
  | _, _, _, .bool b, _, _ => ⟨[], (fun _ h => nomatch h), .of_is (ReprIs.bool b) _ _ _⟩
  | _, _, _, .int i t, hs, _ => ⟨[], (fun _ h => nomatch h), reprK_intW hn (by simpa [okW] using hs)⟩
  | _, _, _, .str x t, _, hz => ⟨[], (fun _ h => nomatch h), .of_is (ReprIs.str x t hz) _ _ _⟩
  | _, _, _, .dict _ _ _ _ _, hs, _ => by simp [okW] at hs
  | _, _, _, .tuple (xs := xs) h1 h2 h3 h4, hs, hz => by
    obtain ⟨bs, hb, hk⟩ := rksW hn h4 (by simpa [okW] using hs) fun t ht => Nat.le_trans (tupleText_mem_le ht) hz
    have r := Reads.tuple h1 h2 h3 h4
    have deeper : PyData.depthAll xs < (PyData.tuple xs).depth := Nat.lt_succ_self _
    exact ⟨_, ReadAtMost.cons r (Nat.le_of_lt deeper) hb, ReprK.tuple h1 h2 h3 (not_mem_of_deeper r deeper hb) hk⟩
  | _, _, _, .list (vs := vs) (xs := xs) h1 h2 h3 h4, hs, hz => by
    obtain ⟨bs, hb, hk⟩ := rksW hn h4 (by simpa [okW] using hs) fun t ht => Nat.le_trans (listText_mem_le ht) hz
    have r := Reads.list h1 h2 h3 h4
    have deeper : PyData.depthAll xs < (PyData.list xs).depth := Nat.lt_succ_self _
    refine ⟨_, ReadAtMost.cons r (Nat.le_of_lt deeper) hb, ?_⟩
    obtain ⟨l⟩ := vs
    match l, xs, h3, h4, hk with
    | [], _, h3, .nil, _ => exact ReprK.listEmpty h1 h2 h3
    | x :: l, xs, h3, h4, hk => exact ReprK.list h1 h2 h3 (not_mem_of_deeper r deeper hb) (by simpa using hk.length_eq) fun i y z => hk.item i y (by simpa using z)
theorem rksW (hn : h0.NoDigits) : ∀ {vs : List Value} {ds : List PyData} {as : List Addr}, ReadsAll h0 vs ds as → okWs ds = true → (∀ t ∈ PyData.shownAll ds, t.length ≤ sizeLine) → ∃ bs, ReadAtMost h0 (PyData.depthAll ds) bs ∧ ReprAllK prog w bs h0 (PyData.depthAll ds) vs (PyData.shownAll ds)
  | _, _, _, .nil, _, _ => ⟨[], (fun _ h => nomatch h), .nil⟩
  | _, _, _, .cons (d := d) (ds := ds) r rs, hs, hz => by
    have hs2 : okW d = true ∧ okWs ds = true := by simpa [okWs] using hs
    obtain ⟨b1, m1, k1⟩ := rkW hn r hs2.1 (hz _ List.mem_cons_self)
    obtain ⟨b2, m2, k2⟩ := rksW hn rs hs2.2 fun t ht => hz t (List.mem_cons_of_mem _ ht)
    have l1 : d.depth ≤ PyData.depthAll (d :: ds) := Nat.le_max_left _ _
    have l2 : PyData.depthAll ds ≤ PyData.depthAll (d :: ds) := Nat.le_max_right _ _
    exact ⟨b1 ++ b2, (m1.mono l1).append (m2.mono l2), .cons ((k1.more fun b hb => List.mem_append_left _ hb).level_le l1) (k2.more_le (fun b hb => List.mem_append_right _ hb) l2)⟩
end
theorem repr_W (hn : h0.NoDigits) {a : Addr} {d : PyData} {as : List Addr} {Q : Value → Shared → Prop} (r : Reads h0 (.ref a) d as) (hs : okW d = true) (hg : A.guards = some []) (hu : A.units + (d.depth + 1) < cLine) (hk0 : ∀ b o, h0.get? b = some o → s.heap.get? b = some o)
    (q : ∀ h' u tk, (∀ b o, s.heap.get? b = some o → h'.get? b = some o) → Q (.str d.shown u) { s with heap := h', toks := tk }) (hz : d.shown.length ≤ sizeLine) : wpAny (model prog w) A (call (.builtin "repr") [.ref a]) Q E s := by
  have units : A.in1.units + d.depth < cLine := by show A.units + 1 + d.depth < cLine; omega
  have q2 : ∀ h' u tk, (∀ b o, s.heap.get? b = some o → h'.get? b = some o) → ∃ x t, Value.str d.shown u = .str x t ∧ Q (.str d.shown u) { s with heap := h', toks := tk } := fun h' u tk hk => ⟨_, _, rfl, q h' u tk hk⟩
  cases r with
  | dict _ _ _ _ _ => simp [okW] at hs
  | tuple h1 h2 h3 h4 =>
    rename_i o vs n xs
    obtain ⟨bs, hb, hk⟩ := rksW (prog := prog) (w := w) hn h4 (by simpa [okW] using hs) fun t ht => Nat.le_trans (tupleText_mem_le ht) hz
    exact call_repr_slot (by omega) ⟨o, hk0 _ _ h1, h2⟩ F.slot_tuple_repr (call_tuple_reprK h1 h2 h3 (not_mem_of_deeper (.tuple h1 h2 h3 h4) (Nat.lt_succ_self _) hb) hk hg (fun b _ => Clear.nil b) units hk0 q2 hz)
  | list h1 h2 h3 h4 =>
    rename_i o vs n xs bs0
    obtain ⟨bs, hb, hk⟩ := rksW (prog := prog) (w := w) hn h4 (by simpa [okW] using hs) fun t ht => Nat.le_trans (listText_mem_le ht) hz
    have hna := not_mem_of_deeper (.list h1 h2 h3 h4) (Nat.lt_succ_self (PyData.depthAll xs)) hb
    obtain ⟨l⟩ := vs
    cases l with
    | nil =>
      cases (show ReadsAll h0 [] xs _ from h4)
      exact call_repr_slot (by omega) ⟨o, hk0 _ _ h1, h2⟩ F.slot_list_repr.toG (call_list_repr_empty ⟨o, hk0 _ _ h1, h2⟩ (hk0 _ _ h1) h3 (q2 s.heap _ _ fun _ _ z => z))
    | cons x l => exact call_repr_slot (by omega) ⟨o, hk0 _ _ h1, h2⟩ F.slot_list_repr.toG (call_list_reprK h1 h2 h3 hna (by simpa using hk.length_eq) (fun i y z => hk.item i y (by simpa using z)) hg (fun b _ => Clear.nil b) units hk0 q2 hz)
end
end FD

set_option maxRecDepth 100000
set_option maxHeartbeats 4000000
namespace FD
open PySem PySem.Spec PyProof.Rows L2
def digB (K : PySem.W.Frag) : Bool := decide (PySem.W.nsIn K cStatics "sys.int_max_str_digits" = some none)
def okShowW (d : PyData) : Bool := okW d && (decide (d.depth ≤ 64) && decide (d.shown.length ≤ sizeLine))
def dReprW : List DV → Option DV
  | [d] => match toPy d with
    | some x => if okShowW x then some (.str x.shown) else none
    | none => none
  | _ => none
def rReprW (K : PySem.W.Frag) : List V → Hp → VK → Prop := fun vs H Q => ∃ v d, vs = [v] ∧ Dp K H v d ∧ okShowW d = true ∧ Q (.str d.shown) H
section
variable {X : Cx} {C : Cn} {e : Expr} {p pos : Pos} {fa : AF}
theorem Inv.digits {pins : List (Addr × Obj)} {σ : St} {H : Hp} {s : Shared} (I : Inv X pins σ H s) (h : digB X.K = true) : s.heap.NoDigits := by
  obtain ⟨mc, h1, _⟩ := I.nolimit
  exact ⟨mc, h1, PySem.W.ns_none_of I.kIn h1 (of_decide_eq_true h)⟩
theorem call_reprW (hg : X.A.guards = some []) (hu : X.A.units + 66 < cLine) (hd : digB X.K = true) : CallR X (.builtin "repr") (rReprW X.K) := by
  intro pins s σ H xs us Q I r h
  obtain ⟨v, d, rfl, hv, hs, q⟩ := h
  obtain ⟨u, rfl, ru⟩ := vals1 r
  unfold okShowW at hs
  simp only [Bool.and_eq_true, decide_eq_true_eq] at hs
  obtain ⟨s1, s3, s4⟩ := hs
  obtain ⟨as, rd⟩ := Dp.reads I d v u hv ru
  have nd := Inv.digits I hd
  have big : ∀ a : Addr, u = .ref a → wpAny (model X.prog X.w) X.A (call (.builtin "repr") [u]) (EP X pins σ Q) X.xe s := by
    intro a ea
    subst ea
    exact repr_W nd rd s1 hg (by omega) (fun _ _ z => z) (fun h' t tk hk => ⟨.str d.shown, H, I.kept hk, ⟨t, rfl⟩, q⟩) s4
  cases hv with
  | non =>
    cases ru
    exact PySem.P.repr_of_none ⟨.str _, H, I.tok _, ⟨_, rfl⟩, q⟩
  | bl b =>
    cases ru
    exact PySem.P.repr_of_bool ⟨.str _, H, I.tok _, ⟨_, by cases b <;> rfl⟩, q⟩
  | int i =>
    obtain ⟨t, rfl⟩ := ru
    have s2 : i.natAbs.log2 < 12900 := by simpa [okW] using s1
    exact call_repr_slot (by omega) (typeIs_int s i t) F.slot_int_repr.toG (repr_intW nd s2 ⟨_, _, rfl, ⟨.str _, H, I.tok _, ⟨_, rfl⟩, q⟩⟩)
  | str x =>
    obtain ⟨t, rfl⟩ := ru
    exact PySem.P.repr_of_str ⟨.str _, H, I.tok _, ⟨_, rfl⟩, q⟩ s4
  | lst h1 h2 =>
    cases ru
    exact big _ rfl
  | tup h1 h2 =>
    cases ru
    exact big _ rfl
theorem o_reprW : OpA X.K (rReprW X.K) dReprW := by
  intro C G H σ s vs ds d A r ho Q q
  unfold dReprW at ho
  split at ho
  · rename_i d0
    split at ho
    · rename_i x hx
      split at ho
      · rename_i hs
        cases ho
        obtain ⟨v, rfl, rv⟩ := r.single
        exact ⟨v, x, rfl, Rp.dp A.gh d0 v x rv hx, hs, q _ H G (Fw.refl A.gh) rfl⟩
      · cases ho
    · cases ho
  · cases ho
theorem fe_reprW {k : Nat} (hr : Rm k X.A) (hm : X.mg "repr" = none) (hd : digB X.K = true) (ha : FA X C [e] fa) (hg : Gl X "repr" := by rfl) (he : starEach [e] X.env = (false, eval e X.env) :: starEach [] X.env := by rfl) : FE X C (.Call (.Name "repr" p) [e] [] pos) (eA fa dReprW) :=
  fe_callB (call_reprW hr.gd (by have := hr.rm.un; omega) hd) o_reprW hm (by decide +kernel) ha hg (he := he)
end
end FD

set_option maxRecDepth 100000
set_option maxHeartbeats 4000000
namespace FD
open PySem PySem.Spec PyProof.Rows L2
/-! ## f-strings of texts and ints -/
def dFmt : DV → Option DV
  | .str y => if y.length ≤ sizeLine then some (.str y) else none
  | .int i => if i.natAbs.log2 < 1920 then some (.str (toString i)) else none
  | _ => none
def eJn : List EF → Str → S → Option (Str × S)
  | [], acc, s => some (acc, s)
  | f :: fs, acc, s => match f s with
    | some (.str y, s1) => if (acc ++ y).length ≤ sizeLine then eJn fs (acc ++ y) s1 else none
    | _ => none
def eJs (fs : List EF) : EF := fun s => match eJn fs Str.empty s with
  | some (x, s1) => some (.str x, s1)
  | none => none
section
variable {X : Cx} {C : Cn} {e v1 v2 : Expr} {es rest : List Expr} {pos : Pos} {f : EF} {fs : List EF}
theorem fe_fmt (h : FE X C e f) : FE X C (.FormattedValue e (-1) none pos) (e1 f dFmt) := by
  obtain ⟨te, p, q⟩ := h
  refine ⟨_, pe_fmt p, ?_⟩
  intro G H σ s d s' A e1' Q k
  unfold FD.e1 at e1'
  split at e1'
  · rename_i d0 s1 e2
    refine q G H σ s d0 s1 A e2 _ fun v H1 G1 g1 A1 r => ?_
    split at e1'
    · rename_i z e3
      cases e1'
      unfold dFmt at e3
      split at e3
      · rename_i y
        split at e3
        · rename_i hy
          cases e3
          exact .inl ⟨y, r, hy, k _ H1 G1 g1 A1 rfl⟩
        · cases e3
      · rename_i i
        split at e3
        · rename_i hi
          cases e3
          exact .inr ⟨i, r, hi, k _ H1 G1 g1 A1 rfl⟩
        · cases e3
      · cases e3
    · cases e1'
  · cases e1'
def FJ (X : Cx) (C : Cn) (es : List Expr) (fs : List EF) : Prop := ∃ ts, PJ X es ts ∧ Paired (EvE X.K C) ts fs
theorem ev_js {K : PySem.W.Frag} : ∀ {ts : List TE} {fs : List EF}, Paired (EvE K C) ts fs → ∀ (acc : Str) (G H : Hp) (σ : List (Option V)) (s : S) (x : Str) (s' : S), Ab K C G H σ s → eJn fs acc s = some (x, s') → ∀ Q : Str → Hp → Prop, (∀ H' G', Same G G' → Ab K C G' H' σ s' → Q x H') → tJs ts acc σ H Q
  | _, _, .nil, acc, G, H, σ, s, x, s', A, e, Q, k => by
    cases e
    exact k H G (Same.refl _) A
  | _, _, .cons q1 q2, acc, G, H, σ, s, x, s', A, e, Q, k => by
    unfold eJn at e
    split at e
    · rename_i y s1 e2
      split at e
      · rename_i hl
        refine q1 G H σ s _ s1 A e2 _ fun v H1 G1 g1 A1 r => ?_
        exact ⟨y, r, hl, ev_js q2 (acc ++ y) G1 H1 σ s1 x s' A1 e Q fun H2 G2 g2 A2 => k H2 G2 (g1.trans g2) A2⟩
      · cases e
    · cases e
theorem fj_nil : FJ X C [] [] := ⟨[], .nil, .nil⟩
theorem fj_cons (h : FE X C e f) (t : FJ X C es fs) : FJ X C (e :: es) (f :: fs) := by
  obtain ⟨te, p, q⟩ := h
  obtain ⟨ts, p2, q2⟩ := t
  exact ⟨te :: ts, .cons p p2, .cons q q2⟩
theorem fe_js (h : FJ X C (v1 :: v2 :: rest) fs) : FE X C (.JoinedStr (v1 :: v2 :: rest) pos) (eJs fs) := by
  obtain ⟨ts, p, q⟩ := h
  refine ⟨_, pe_joined p, ?_⟩
  intro G H σ s d s' A e1 Q k
  unfold eJs at e1
  split at e1
  · rename_i x s1 e2
    cases e1
    exact ev_js q _ G H σ s _ _ A e2 _ fun H1 G1 g1 A1 => k _ H1 G1 g1 A1 rfl
  · cases e1
theorem fe_js1 (h : FE X C e f) : FE X C (.JoinedStr [e] pos) f := let ⟨_, p, q⟩ := h; ⟨_, pe_joined1 p, q⟩
end
end FD

set_option maxRecDepth 100000
set_option maxHeartbeats 4000000
namespace FD
open PySem PySem.Spec PyProof.Rows L2
/-! ## count and index of a bool in a list of bools -/
def bools : List DV → Option (List Bool)
  | [] => some []
  | .bl b :: ds => (bools ds).map (b :: ·)
  | _ => none
def dBcount : DV → Option DV
  | .lst ds => (bools ds).map fun bs => .int (bs.count true : Nat)
  | _ => none
def dBindex : DV → Option DV
  | .lst ds => match bools ds with
    | some bs => if true ∈ bs then some (.int (bs.idxOf true : Nat)) else none
    | none => none
  | _ => none
theorem bools_rp {K : PySem.W.Frag} {G : Hp} : ∀ {ds : List DV} {bs : List Bool} {vs : List V}, bools ds = some bs → RpL K G vs ds → vs = bs.map V.bl
  | [], bs, vs, e, r => by
    cases e
    exact r
  | .bl b :: ds, bs, vs, e, r => by
    obtain ⟨v, rest, rfl, h1, h2⟩ := r
    unfold bools at e
    obtain ⟨bs', e1, rfl⟩ := Option.map_eq_some_iff.mp e
    rw [bools_rp e1 h2, show v = V.bl b from h1]
    rfl
  | .non :: _, _, _, e, _ | .int _ :: _, _, _, e, _ | .str _ :: _, _, _, e, _ | .tup _ :: _, _, _, e, _ | .lst _ :: _, _, _, e, _ | .scr _ :: _, _, _, e, _ | .raw _ :: _, _, _, e, _ | .exc _ _ :: _, _, _, e, _ => by cases e
theorem vals_bools : ∀ {bs : List Bool} {us : List Value}, Vals (bs.map V.bl) us → us = bs.map Value.bool
  | [], _, .nil => rfl
  | b :: bs, _, .cons r rs => by rw [show _ = Value.bool b from r, vals_bools rs]; rfl
section
variable {X : Cx} {C : Cn} {e : Expr} {f : EF} {apos cpos : Pos} {j : Nat} {p2 : Pos}
def rCntB (K : PySem.W.Frag) : V → List V → Hp → VK → Prop := fun x xs H Q => ∃ (p : Addr) (bs : List Bool) (k : Bool), x = .ref p ∧ xs = [.bl k] ∧ SqL K H p (bs.map V.bl) ∧ Q (.int (bs.count k : Nat)) H
theorem mt_countB : MtR X "list.count" (rCntB X.K) := by
  intro pins s σ H x xs v us Q I rx rxs h
  obtain ⟨p, bs, k, rfl, rfl, hs, q⟩ := h
  cases rx
  obtain ⟨u, rfl, ru⟩ := rxs.one
  obtain rfl : u = Value.bool k := ru
  obtain ⟨its, rv, ⟨⟨cls, dd, data, sl⟩, n, ho, hc, hdn, hd⟩, hlen⟩ := I.list hs
  simp only at hc hd
  subst hc hd
  obtain rfl := vals_bools rv
  refine call_meets PySem.F.slot_list_count ⟨_, ho, rfl⟩ PySem.F.entry_list_count (PySem.F.args_list_count_2 _ _) (SeqAt.list_countAt p (bs.map Value.bool).toArray n dd sl (.bool k) (isBoolOf k)) ⟨ho, fun y hy => ?_, ?_⟩
  · obtain ⟨b, _, rfl⟩ := List.mem_map.mp (show y ∈ bs.map Value.bool by simpa using hy)
    exact SeqAt.EqAt.bool_bool b k
  · have ec : (bs.map Value.bool).toArray.toList.countP (isBoolOf k) = bs.count k := by
      show (bs.map Value.bool).countP (isBoolOf k) = _
      rw [List.countP_map]
      rfl
    refine ⟨.int (bs.count k : Nat), H, I.tok _, ⟨s.toks, ?_⟩, q⟩
    show Value.int (((bs.map Value.bool).toArray.toList.countP (isBoolOf k) : Nat) : Int) s.toks = Value.int ((bs.count k : Nat) : Int) s.toks
    rw [ec]
theorem fe_bcount {k : Nat} (hr : Rm k X.A) (h : FE X C e f) (hbase : attributeBase e "count" X.env (eval e X.env) = eval e X.env := by rfl)
    (hfew : ((backTo cpos (starEach [.Constant (.bool true) j p2] X.env)).all (fun z => !z.1) && (backToKw cpos (keywordEach [] X.env)).all (fun z => z.1.isSome) && decide (([Expr.Constant (.bool true) j p2]).length + ([] : List Keyword).length + (if ([] : List Keyword).isEmpty then 0 else 1) < 30)) = true := by rfl)
    (hline : (apos.endLine == cpos.line) = true := by rfl) (hs : starEach [.Constant (.bool true) j p2] X.env = (false, eval (.Constant (.bool true) j p2) X.env) :: starEach [] X.env := by rfl) (hplain : (backTo cpos (starEach [] X.env)).any (·.1) = false := by rfl) :
    FE X C (.Call (.Attribute e "count" apos) [.Constant (.bool true) j p2] [] cpos) (e1 f dBcount) := by
  obtain ⟨te, p, q⟩ := h
  refine ⟨_, pe_bm PySem.F.plainAttrs_list PySem.F.slot_list_count PySem.F.type_list_count mt_countB p (pa_cons pe_bl pa_nil hs) hbase hfew hline hs hplain, ?_⟩
  intro G H σ s d s' A e1' Q k
  unfold FD.e1 at e1'
  split at e1'
  · rename_i d0 s1 e2
    refine q G H σ s d0 s1 A e2 _ fun v H1 G1 g1 A1 r => ?_
    split at e1'
    · rename_i z e3
      cases e1'
      unfold dBcount at e3
      split at e3
      · rename_i ds
        obtain ⟨bs, e4, rfl⟩ := Option.map_eq_some_iff.mp e3
        obtain ⟨a, vs, rfl, r1, r2⟩ := r
        have ev := bools_rp e4 r2
        subst ev
        have sq := SqL.of (K := X.K) (A1.gh _ _ r1)
        exact ⟨.inl ⟨rfl, _, sq⟩, a, bs, true, rfl, rfl, sq, k _ H1 G1 g1 A1 rfl⟩
      · cases e3
    · cases e1'
  · cases e1'
theorem fe_bindex {k : Nat} (hr : Rm k X.A) (h : FE X C e f) (hbase : attributeBase e "index" X.env (eval e X.env) = eval e X.env := by rfl)
    (hfew : ((backTo cpos (starEach [.Constant (.bool true) j p2] X.env)).all (fun z => !z.1) && (backToKw cpos (keywordEach [] X.env)).all (fun z => z.1.isSome) && decide (([Expr.Constant (.bool true) j p2]).length + ([] : List Keyword).length + (if ([] : List Keyword).isEmpty then 0 else 1) < 30)) = true := by rfl)
    (hline : (apos.endLine == cpos.line) = true := by rfl) (hs : starEach [.Constant (.bool true) j p2] X.env = (false, eval (.Constant (.bool true) j p2) X.env) :: starEach [] X.env := by rfl) (hplain : (backTo cpos (starEach [] X.env)).any (·.1) = false := by rfl) :
    FE X C (.Call (.Attribute e "index" apos) [.Constant (.bool true) j p2] [] cpos) (e1 f dBindex) := by
  obtain ⟨te, p, q⟩ := h
  refine ⟨_, pe_bm PySem.F.plainAttrs_list PySem.F.slot_list_index PySem.F.type_list_index mt_index p (pa_cons pe_bl pa_nil hs) hbase hfew hline hs hplain, ?_⟩
  intro G H σ s d s' A e1' Q k
  unfold FD.e1 at e1'
  split at e1'
  · rename_i d0 s1 e2
    refine q G H σ s d0 s1 A e2 _ fun v H1 G1 g1 A1 r => ?_
    split at e1'
    · rename_i z e3
      cases e1'
      unfold dBindex at e3
      split at e3
      · rename_i ds
        split at e3
        · rename_i bs e4
          split at e3
          · rename_i hm
            cases e3
            obtain ⟨a, vs, rfl, r1, r2⟩ := r
            have ev := bools_rp e4 r2
            subst ev
            have sq := SqL.of (K := X.K) (A1.gh _ _ r1)
            have hl : bs.idxOf true < bs.length := List.idxOf_lt_length_of_mem hm
            have hj : bs[bs.idxOf true]? = some true := by
              rw [List.getElem?_eq_getElem hl, List.getElem_idxOf hl]
            refine ⟨.inl ⟨rfl, _, sq⟩, a, bs.map V.bl, .bl true, bs.idxOf true, .bl true, rfl, rfl, sq, rfl, ?_, ?_, rfl, ?_, k _ H1 G1 g1 A1 rfl⟩
            · rw [List.all_map]
              exact List.all_eq_true.mpr fun b _ => rfl
            · rw [List.getElem?_map, hj]
              rfl
            · intro m z' hm' hz
              rw [List.getElem?_map] at hz
              obtain ⟨b, hb, rfl⟩ := Option.map_eq_some_iff.mp hz
              have : b ≠ true := by
                intro eb
                subst eb
                have hml : m < bs.length := by omega
                rw [List.getElem?_eq_getElem hml] at hb
                have h3 : ¬ (bs[m] == true) = true := by
                  have := List.not_of_lt_findIdx (p := fun c => c == true) (xs := bs) hm'
                  simpa using this
                exact h3 (beq_iff_eq.mpr (Option.some.inj hb))
              cases b
              · rfl
              · exact absurd rfl this
          · cases e3
        · cases e3
      · cases e3
    · cases e1'
  · cases e1'
end
end FD

set_option maxRecDepth 100000
set_option maxHeartbeats 4000000
set_option exponentiation.threshold 20000
namespace T4
open PySem L2 FD
/-! ## sizes -/
/-- below 2 ^ b in size -/
def Sz (b : Nat) (n : Int) : Prop := n.natAbs < 2 ^ b
instance (b : Nat) (n : Int) : Decidable (Sz b n) := inferInstanceAs (Decidable (n.natAbs < 2 ^ b))
theorem log2_lt_of {n k : Nat} (h : n < 2 ^ k) : n.log2 ≤ k := by
  by_cases h0 : n = 0
  · subst h0; simp
  · exact Nat.le_of_lt ((Nat.log2_lt h0).mpr h)
theorem fit_of {i j : Int} {a b : Nat} (ha : i.natAbs < 2 ^ a) (hb : j.natAbs < 2 ^ b) (h : a + b < 134217000 := by decide) : fitM i j = true := by
  have h1 := log2_lt_of ha
  have h2 := log2_lt_of hb
  exact decide_eq_true (by omega)
theorem mul_lt {i j : Int} {a b : Nat} (ha : i.natAbs < 2 ^ a) (hb : j.natAbs < 2 ^ b) : (i * j).natAbs < 2 ^ (a + b) := by
  rw [Int.natAbs_mul, Nat.pow_add]
  exact Nat.mul_lt_mul'' ha hb
theorem add_lt {i j : Int} {a : Nat} (ha : i.natAbs < 2 ^ a) (hb : j.natAbs < 2 ^ a) : (i + j).natAbs < 2 ^ (a + 1) := by
  rw [Nat.pow_succ]; omega
theorem sub_lt {i j : Int} {a : Nat} (ha : i.natAbs < 2 ^ a) (hb : j.natAbs < 2 ^ a) : (i - j).natAbs < 2 ^ (a + 1) := by
  rw [Nat.pow_succ]; omega
theorem neg_lt {i : Int} {a : Nat} (ha : i.natAbs < 2 ^ a) : (-i).natAbs < 2 ^ a := by omega
theorem lt_up {i : Int} {a b : Nat} (ha : i.natAbs < 2 ^ a) (h : a ≤ b := by decide) : i.natAbs < 2 ^ b := Nat.lt_of_lt_of_le ha (Nat.pow_le_pow_right (by decide) h)
theorem dEq_int (a b : Int) : dEq (.int a) (.int b) = some (.bl (a == b)) := rfl
theorem dNe_int (a b : Int) : dNe (.int a) (.int b) = some (.bl (!(a == b))) := rfl
theorem beq_t {a b : Int} (h : a = b) : (a == b) = true := beq_iff_eq.mpr h
theorem beq_f {a b : Int} (h : a ≠ b) : (a == b) = false := beq_eq_false_iff_ne.mpr h
theorem div_ok {c : Int} (h : c ≠ 0) (h9 : c.natAbs < 2 ^ 8999) : (c ≠ 0 ∧ c.natAbs.log2 < 9000) := ⟨h, by have := log2_lt_of h9; omega⟩
/-! ## the root, as the law finds it -/
def sq (n : Int) : Int := ((Float64.isqrt n.toNat : Nat) : Int)
theorem sq_spec {n : Int} (h : 0 ≤ n) : 0 ≤ sq n ∧ sq n * sq n ≤ n ∧ n < (sq n + 1) * (sq n + 1) := by
  obtain ⟨h1, h2⟩ := Float64.isqrt_spec n.toNat
  unfold sq
  refine ⟨Int.natCast_nonneg _, ?_, ?_⟩
  · have : ((Float64.isqrt n.toNat * Float64.isqrt n.toNat : Nat) : Int) ≤ (n.toNat : Int) := Int.ofNat_le.mpr h1
    rw [Int.natCast_mul] at this
    omega
  · have : (n.toNat : Int) < (((Float64.isqrt n.toNat + 1) * (Float64.isqrt n.toNat + 1) : Nat) : Int) := Int.ofNat_lt.mpr h2
    rw [Int.natCast_mul, Int.natCast_add] at this
    have e : (n.toNat : Int) = n := by omega
    rw [e] at this
    exact this
theorem sq_uniq {n r : Int} (h : 0 ≤ n) (h0 : 0 ≤ r) (h1 : r * r ≤ n) (h2 : n < (r + 1) * (r + 1)) : r = sq n := by
  obtain ⟨k0, k1, k2⟩ := sq_spec h
  generalize sq n = t at *
  have a : r < t + 1 := by
    by_cases w : r < t + 1
    · exact w
    · exfalso
      have := Int.mul_le_mul (show t + 1 ≤ r by omega) (show t + 1 ≤ r by omega) (by omega) (by omega)
      omega
  have b : t < r + 1 := by
    by_cases w : t < r + 1
    · exact w
    · exfalso
      have := Int.mul_le_mul (show r + 1 ≤ t by omega) (show r + 1 ≤ t by omega) (by omega) (by omega)
      omega
  omega
theorem fdiv_spec {a s : Int} (h : 0 < s) : a.fdiv s * s ≤ a ∧ a < (a.fdiv s + 1) * s := by
  have h1 := Int.fmod_add_mul_fdiv a s
  have h2 := Int.fmod_nonneg_of_pos a h
  have h3 := Int.fmod_lt_of_pos a h
  rw [Int.mul_comm] at h1
  rw [Int.add_mul, Int.one_mul]
  omega
/-- one step of Newton's -/
def nxt (v g : Int) : Int := (g + v.fdiv g).fdiv 2
theorem nxt_spec {v g : Int} (hv : 0 ≤ v) (hg : 0 < g) : 0 ≤ nxt v g ∧ v < (nxt v g + 1) * (nxt v g + 1) ∧ (g ≤ nxt v g → g * g ≤ v) := by
  obtain ⟨a1, a2⟩ := fdiv_spec (a := v) hg
  obtain ⟨b1, b2⟩ := fdiv_spec (a := g + v.fdiv g) (show (0 : Int) < 2 by decide)
  have q0 : 0 ≤ v.fdiv g := by
    by_cases w : 0 ≤ v.fdiv g
    · exact w
    · exfalso
      have := Int.mul_le_mul_of_nonneg_right (show v.fdiv g + 1 ≤ 0 by omega) (show 0 ≤ g by omega)
      omega
  unfold nxt
  generalize (g + v.fdiv g).fdiv 2 = b at *
  generalize v.fdiv g = q at *
  have hb : 0 ≤ b := by omega
  refine ⟨hb, ?_, fun h => ?_⟩
  · have h1 : g + (q + 1) ≤ 2 * (b + 1) := by omega
    have h2 := Int.mul_le_mul h1 h1 (by omega) (by omega)
    have h3 : 0 ≤ (g - (q + 1)) * (g - (q + 1)) := by
      rcases Int.le_total 0 (g - (q + 1)) with w | w
      · exact Int.mul_nonneg w w
      · exact Int.mul_nonneg_of_nonpos_of_nonpos w w
    grind
  · have h1 : g ≤ q := by omega
    have h2 := Int.mul_le_mul_of_nonneg_right h1 (show 0 ≤ g by omega)
    omega
theorem newton : ∀ (n : Nat) (v g : Int) (x2 : Option SV) (sp : Spl), 1 ≤ v → v.natAbs < 2 ^ 17000 → 0 < g → g.natAbs < 2 ^ 8800 → v < (g + 1) * (g + 1) → g.toNat ≤ n →
    ∃ y, whN n (tBl (e2 (eV 3) (eV 1) dLt)) (sSeq (sAsg (eV 3) (gNm 1)) (sAsg (e2 (e2 (eV 1) (e2 (eV 0) (eV 1) dFdiv) dAdd) (eC (.int 2)) dFdiv) (gNm 3))) ⟨[some (.dat (.int v)), some (.dat (.int g)), x2, some (.dat (.int (nxt v g)))], sp⟩ = some (.nx ⟨[some (.dat (.int v)), some (.dat (.int (sq v))), x2, y], sp⟩) := by
  intro n
  induction n with
  | zero =>
    intro v g x2 sp hv hv9 hg hg9 hi hn
    omega
  | succ n ih =>
    intro v g x2 sp hv hv9 hg hg9 hi hn
    obtain ⟨k0, k1, k2⟩ := nxt_spec (show 0 ≤ v by omega) hg
    by_cases hl : nxt v g < g
    · have hl' : decide (nxt v g < g) = true := decide_eq_true hl
      by_cases hz : nxt v g = 0
      · -- the root is 0
        exfalso
        rw [hz] at k1
        omega
      · have hp : 0 < nxt v g := by omega
        have c2 : decide ((2 : Int) ≠ 0 ∧ (2 : Int).natAbs.log2 < 9000) = true := rfl
        have c1 : decide (nxt v g ≠ 0 ∧ (nxt v g).natAbs.log2 < 9000) = true := decide_eq_true (div_ok hz (by
          have : (nxt v g).natAbs < 2 ^ 8800 := by omega
          exact lt_up this))
        obtain ⟨y, e⟩ := ih v (nxt v g) x2 sp hv hv9 hp (by omega) k1 (by omega)
        refine ⟨y, ?_⟩
        have e3 : (nxt v g + v.fdiv (nxt v g)).fdiv 2 = nxt v (nxt v g) := rfl
        simp only [whN, tBl, e2, eV, eC, dI, hl', sSeq, sAsg, gNm, dFdiv, dAdd, c1, c2, if_true, e3, List.getElem?_cons_zero, List.getElem?_cons_succ, List.set_cons_zero, List.set_cons_succ, e]
    · have hl' : decide (nxt v g < g) = false := decide_eq_false hl
      have e : g = sq v := sq_uniq (by omega) (by omega) (k2 (by omega)) hi
      refine ⟨some (.dat (.int (nxt v g))), ?_⟩
      simp only [whN, tBl, e2, eV, dI, hl', List.getElem?_cons_zero, List.getElem?_cons_succ]
      rw [← e]
theorem sq_lt {a : Int} {b : Nat} (h0 : 0 ≤ a) (h : a * a < 2 ^ (b + b)) : a.natAbs < 2 ^ b := by
  refine Nat.lt_of_not_le fun w => ?_
  have h1 := Nat.mul_le_mul w w
  rw [← Nat.pow_add] at h1
  have h2 : ((2 ^ (b + b) : Nat) : Int) ≤ ((a.natAbs * a.natAbs : Nat) : Int) := Int.ofNat_le.mpr h1
  rw [Int.natCast_pow, Int.natCast_mul] at h2
  have h3 : (a.natAbs : Int) = a := by omega
  rw [h3] at h2
  have h4 : ((2 : Nat) : Int) ^ (b + b) = (2 : Int) ^ (b + b) := rfl
  omega
theorem bound_g {v g : Int} (hv9 : v.natAbs < 2 ^ 17000) (hg : 0 ≤ g) (h : g * g ≤ 4 * v) : g.natAbs < 2 ^ 8502 := by
  refine sq_lt hg ?_
  have e : (2 : Int) ^ (8502 + 8502) = 16 * 2 ^ 17000 := by rw [show 8502 + 8502 = 4 + 17000 by rfl, Int.pow_add]; rfl
  have h1 : ((v.natAbs : Nat) : Int) < ((2 ^ 17000 : Nat) : Int) := Int.ofNat_lt.mpr hv9
  rw [Int.natCast_pow] at h1
  have h4 : ((2 : Nat) : Int) ^ 17000 = (2 : Int) ^ 17000 := rfl
  rw [h4] at h1
  rw [e]
  generalize (2 : Int) ^ 17000 = B at *
  omega
theorem double : ∀ (n : Nat) (v g f : Int) (x3 : Option SV) (sp : Spl), 1 ≤ v → v.natAbs < 2 ^ 17000 → 2 ≤ g → g * g ≤ 4 * v → 2 ≤ f → f.natAbs < 2 ^ 17 → (4 * v - g).toNat ≤ n →
    ∃ r, whN n (tBl (e2 (e2 (e2 (e2 (eV 1) (eV 1) dMul) (eV 2) dMul) (eV 2) dMul) (e2 (eC (.int 4)) (eV 0) dMul) dLe)) (sAsg (e2 (eV 1) (eV 2) dMul) (gNm 1)) ⟨[some (.dat (.int v)), some (.dat (.int g)), some (.dat (.int f)), x3], sp⟩ = some (.nx ⟨[some (.dat (.int v)), some (.dat (.int r)), some (.dat (.int f)), x3], sp⟩) ∧ 2 ≤ r ∧ r * r ≤ 4 * v ∧ 4 * v < r * r * f * f := by
  intro n
  induction n with
  | zero =>
    intro v g f x3 sp hv hv9 hg hgg hf hf9 hn
    have zg := bound_g hv9 (by omega) hgg
    have f1 := fit_of zg zg
    have f2 := fit_of (mul_lt zg zg) hf9
    have f3 := fit_of (mul_lt (mul_lt zg zg) hf9) hf9
    have f4 : fitM 4 v = true := fit_of (a := 3) (by decide) hv9
    by_cases hl : g * g * f * f ≤ 4 * v
    · exfalso
      have h1 : 4 * v ≤ g := by omega
      have h2 := Int.mul_le_mul_of_nonneg_right (show (2 : Int) ≤ g by omega) (show 0 ≤ g by omega)
      omega
    · have hl' : decide (g * g * f * f ≤ 4 * v) = false := decide_eq_false hl
      refine ⟨g, ?_, hg, hgg, by omega⟩
      simp only [whN, tBl, e2, eV, eC, dI, dMul, f1, f2, f3, f4, hl', if_true, List.getElem?_cons_zero, List.getElem?_cons_succ]
  | succ n ih =>
    intro v g f x3 sp hv hv9 hg hgg hf hf9 hn
    have zg := bound_g hv9 (by omega) hgg
    have f1 := fit_of zg zg
    have f2 := fit_of (mul_lt zg zg) hf9
    have f3 := fit_of (mul_lt (mul_lt zg zg) hf9) hf9
    have f4 : fitM 4 v = true := fit_of (a := 3) (by decide) hv9
    have f5 := fit_of zg hf9
    by_cases hl : g * g * f * f ≤ 4 * v
    · have hl' : decide (g * g * f * f ≤ 4 * v) = true := decide_eq_true hl
      have e1' : g * f * (g * f) = g * g * f * f := by grind
      have h1 := Int.mul_le_mul_of_nonneg_left hf (show 0 ≤ g by omega)
      have h3 := Int.mul_le_mul_of_nonneg_right (show (2 : Int) ≤ g by omega) (show 0 ≤ g by omega)
      obtain ⟨r, e, r1, r2, r3⟩ := ih v (g * f) f x3 sp hv hv9 (by omega) (by rw [e1']; exact hl) hf hf9 (by omega)
      refine ⟨r, ?_, r1, r2, r3⟩
      simp only [whN, tBl, e2, eV, eC, dI, dMul, f1, f2, f3, f4, f5, hl', if_true, sAsg, gNm, List.getElem?_cons_zero, List.getElem?_cons_succ, List.set_cons_zero, List.set_cons_succ, e]
    · have hl' : decide (g * g * f * f ≤ 4 * v) = false := decide_eq_false hl
      refine ⟨g, ?_, hg, hgg, by omega⟩
      simp only [whN, tBl, e2, eV, eC, dI, dMul, f1, f2, f3, f4, hl', if_true, List.getElem?_cons_zero, List.getElem?_cons_succ]
def b_law_square_root : SF :=
  sSeq (sIf (tBl (e2 (eV 0) (eC (.int 2)) dLt)) (sRt (eV 0)) (sNx))
  (sSeq (sAsg (eC (.int 2)) (gNm 1))
  (sSeq (sFr (iTp (eA (aCons (eC (.int 65536)) (aCons (eC (.int 2)) (aNil))) oTup)) (gNm 2) (sWh (fun s => (4 * slI s 0).toNat) (tBl (e2 (e2 (e2 (e2 (eV 1) (eV 1) dMul) (eV 2) dMul) (eV 2) dMul) (e2 (eC (.int 4)) (eV 0) dMul) dLe)) (sAsg (e2 (eV 1) (eV 2) dMul) (gNm 1))))
  (sSeq (sAsg (e2 (e2 (eV 1) (e2 (eV 0) (eV 1) dFdiv) dAdd) (eC (.int 2)) dFdiv) (gNm 3))
  (sSeq (sWh (fun s => (slI s 1).toNat) (tBl (e2 (eV 3) (eV 1) dLt)) (sSeq (sAsg (eV 3) (gNm 1))
  (sAsg (e2 (e2 (eV 1) (e2 (eV 0) (eV 1) dFdiv) dAdd) (eC (.int 2)) dFdiv) (gNm 3))))
  (sRt (eV 1))))))
def m_law_square_root : List DV → Option DV
  | [.int v] => if 0 ≤ v ∧ v.natAbs < 2 ^ 17000 then some (.int (sq v)) else none
  | _ => none
theorem t_law_square_root : ∀ ds d, m_law_square_root ds = some d → bodyP 1 4 b_law_square_root ds = some d := by
  intro ds d h
  unfold m_law_square_root at h
  split at h
  · rename_i v
    split at h
    · rename_i ok
      obtain ⟨h0, h9⟩ := ok
      cases h
      by_cases hl : v < 2
      · have hl' : decide (v < 2) = true := decide_eq_true hl
        have e : v = sq v := by
          refine sq_uniq h0 h0 ?_ ?_
          · rcases (by omega : v = 0 ∨ v = 1) with r | r <;> subst r <;> decide
          · rcases (by omega : v = 0 ∨ v = 1) with r | r <;> subst r <;> decide
        unfold b_law_square_root
        simp only [bodyP, sSeq, sIf, tBl, e2, eV, eC, dI, hl', sRt, List.length_cons, List.length_nil, List.map_cons, List.map_nil, List.cons_append, List.nil_append, List.replicate_succ, List.replicate_zero, List.getElem?_cons_zero, Nat.reduceAdd, Nat.reduceSub, if_true]
        rw [← e]
      · have hl' : decide (v < 2) = false := decide_eq_false hl
        have two : (2 : Nat) ≤ sizeLine := by decide
        have hf0 : (4 * slI ⟨[some (.dat (.int v)), some (.dat (.int 2)), some (.dat (.int 65536)), none], spl0⟩ 0).toNat = (4 * v).toNat := rfl
        obtain ⟨g1, e1', a1, a2, _⟩ := double (4 * v).toNat v 2 65536 none spl0 (by omega) h9 (by decide) (by omega) (by decide) (by decide) (by omega)
        have hf1 : (4 * slI ⟨[some (.dat (.int v)), some (.dat (.int g1)), some (.dat (.int 2)), none], spl0⟩ 0).toNat = (4 * v).toNat := rfl
        obtain ⟨g, e2', b1, b2, b3⟩ := double (4 * v).toNat v g1 2 none spl0 (by omega) h9 a1 a2 (by decide) (by decide) (by omega)
        have zg := bound_g h9 (by omega) b2
        have c2 : decide ((2 : Int) ≠ 0 ∧ (2 : Int).natAbs.log2 < 9000) = true := rfl
        have c1 : decide (g ≠ 0 ∧ g.natAbs.log2 < 9000) = true := decide_eq_true (div_ok (by omega) (lt_up zg))
        have hi : v < (g + 1) * (g + 1) := by
          have : (g + 1) * (g + 1) = g * g + 2 * g + 1 := by grind
          have : g * g * 2 * 2 = 4 * (g * g) := by grind
          omega
        have hf2 : (slI ⟨[some (.dat (.int v)), some (.dat (.int g)), some (.dat (.int 2)), some (.dat (.int (nxt v g)))], spl0⟩ 1).toNat = g.toNat := rfl
        obtain ⟨y, e3⟩ := newton g.toNat v g (some (.dat (.int 2))) spl0 (by omega) h9 (by omega) (lt_up zg) hi (Nat.le_refl _)
        have e4 : (g + v.fdiv g).fdiv 2 = nxt v g := rfl
        unfold b_law_square_root
        simp only [bodyP, sSeq, sIf, tBl, e2, eV, eC, dI, hl', sNx, sAsg, gNm, sFr, iTp, eA, aCons, aNil, oTup, two, frN, sWh, hf0, hf1, hf2, List.length_cons, List.length_nil, List.map_cons, List.map_nil, List.cons_append, List.nil_append, List.replicate_succ, List.replicate_zero, List.getElem?_cons_zero, List.getElem?_cons_succ, List.set_cons_zero, List.set_cons_succ, Nat.reduceAdd, Nat.reduceSub, if_true]
        simp only [hf0, e1', List.set_cons_zero, List.set_cons_succ, hf1, e2', e2, eV, eC, c1, c2, dFdiv, dAdd, e4, hf2, e3, sRt, List.getElem?_cons_zero, List.getElem?_cons_succ, if_true]
    · cases h
  · cases h
end T4

set_option maxRecDepth 100000
set_option maxHeartbeats 4000000
set_option exponentiation.threshold 20000
namespace T4
open PySem L2 FD
/-! ## a number times a power of ten, nearly -/
theorem ten_pos (n : Nat) : (0 : Int) < 10 ^ n := Int.pow_pos (by decide)
theorem ten_mono {j n : Nat} (h : j ≤ n) : ((10 : Int) ^ j).natAbs ≤ ((10 : Int) ^ n).natAbs := by
  rw [Int.natAbs_pow, Int.natAbs_pow]
  exact Nat.pow_le_pow_right (by decide) h
theorem tens : ∀ (ds : List DV) (j n : Nat) (x0 x1 x2 x3 x4 x5 x7 x8 : Option SV) (sp : Spl), j + ds.length ≤ n → ((10 : Int) ^ n).natAbs < 2 ^ 8500 →
    ∃ y, frN ds (gNm 7) (sAsg (e2 (eV 6) (eC (.int 10)) dMul) (gNm 6)) ⟨[x0, x1, x2, x3, x4, x5, some (.dat (.int (10 ^ j))), x7, x8], sp⟩ = some (.nx ⟨[x0, x1, x2, x3, x4, x5, some (.dat (.int (10 ^ (j + ds.length)))), y, x8], sp⟩)
  | [], j, n, x0, x1, x2, x3, x4, x5, x7, x8, sp, _, _ => ⟨x7, rfl⟩
  | d :: ds, j, n, x0, x1, x2, x3, x4, x5, x7, x8, sp, hl, hn => by
    rw [List.length_cons] at hl
    obtain ⟨y, e⟩ := tens ds (j + 1) n x0 x1 x2 x3 x4 x5 (some (.dat d)) x8 sp (by omega) hn
    have f1 : fitM (10 ^ j) 10 = true := fit_of (Nat.lt_of_le_of_lt (ten_mono (by omega)) hn) (b := 4) (by decide)
    have hp : (10 : Int) ^ j * 10 = 10 ^ (j + 1) := (Int.pow_succ 10 j).symm
    refine ⟨y, ?_⟩
    rw [List.length_cons, show j + (ds.length + 1) = j + 1 + ds.length by omega]
    simp only [frN, gNm, sAsg, e2, eV, eC, dMul, f1, if_true, hp, List.getElem?_cons_zero, List.getElem?_cons_succ, List.set_cons_zero, List.set_cons_succ, e]
def scl (p q d s : Int) (n : Nat) : Int := (p * 10 ^ n + (if 0 < q then sq (q * q * d * 10 ^ n * 10 ^ n) else 0 - sq (q * q * d * 10 ^ n * 10 ^ n))).fdiv s
def okS (p q d s n : Int) : Prop := 0 ≤ n ∧ n ≤ 4000 ∧ s ≠ 0 ∧ s.natAbs < 2 ^ 8999 ∧ 0 ≤ d ∧ p.natAbs < 2 ^ 100000 ∧ q.natAbs < 2 ^ 8000 ∧ d.natAbs < 2 ^ 8000 ∧ ((10 : Int) ^ n.toNat).natAbs < 2 ^ 8500 ∧ (q * q * d * 10 ^ n.toNat * 10 ^ n.toNat).natAbs < 2 ^ 17000
instance (p q d s n : Int) : Decidable (okS p q d s n) := by unfold okS; exact inferInstance
def b_law_scaled : SF :=
  sSeq (sAsg (eV 0) (gTp 4 (gCo (gNm 2) (gCo (gNm 3) (gCo (gNm 4) (gCo (gNm 5) (gNi)))))))
  (sSeq (sAsg (eC (.int 1)) (gNm 6))
  (sSeq (sFr (iRg1 (aCons (eV 1) (aNil))) (gNm 7) (sAsg (e2 (eV 6) (eC (.int 10)) dMul) (gNm 6)))
  (sSeq (sAsg (eA (aCons (e2 (e2 (e2 (e2 (eV 3) (eV 3) dMul) (eV 4) dMul) (eV 6) dMul) (eV 6) dMul) (aNil)) m_law_square_root) (gNm 8))
  (sRt (e2 (e2 (e2 (eV 2) (eV 6) dMul) (eIf (tBl (e2 (eV 3) (eC (.int 0)) dGt)) (eV 8) (e2 (eC (.int 0)) (eV 8) dSub)) dAdd) (eV 5) dFdiv)))))
def m_law_scaled : List DV → Option DV
  | [.tup [.int p, .int q, .int d, .int s], .int n] => if okS p q d s n then some (.int (scl p q d s n.toNat)) else none
  | _ => none
theorem t_law_scaled : ∀ ds d, m_law_scaled ds = some d → bodyP 2 9 b_law_scaled ds = some d := by
  intro ds d h
  unfold m_law_scaled at h
  split at h
  · rename_i p q e s n
    split at h
    · rename_i ok
      obtain ⟨n0, n1, s0, s9, d0, zp, zq, zd, zt, zv⟩ := ok
      cases h
      have hl : (rngD 0 n.toNat).length = n.toNat := by unfold rngD; simp
      obtain ⟨y, e1'⟩ := tens (rngD 0 n.toNat) 0 n.toNat (some (.dat (.tup [.int p, .int q, .int e, .int s]))) (some (.dat (.int n))) (some (.dat (.int p))) (some (.dat (.int q))) (some (.dat (.int e))) (some (.dat (.int s))) none none spl0 (by omega) zt
      rw [hl, Nat.zero_add] at e1'
      have hone : (10 : Int) ^ 0 = 1 := rfl
      rw [hone] at e1'
      have hr : inR n = true := decide_eq_true (by omega)
      have f1 := fit_of zq zq
      have f2 := fit_of (mul_lt zq zq) zd
      have f3 := fit_of (mul_lt (mul_lt zq zq) zd) zt
      have f4 := fit_of (mul_lt (mul_lt (mul_lt zq zq) zd) zt) zt
      have f5 := fit_of zp zt
      have nn : 0 ≤ q * q * e * 10 ^ n.toNat * 10 ^ n.toNat := by
        have hq : 0 ≤ q * q := by
          rcases Int.le_total 0 q with w | w
          · exact Int.mul_nonneg w w
          · exact Int.mul_nonneg_of_nonpos_of_nonpos w w
        have ht := ten_pos n.toNat
        exact Int.mul_nonneg (Int.mul_nonneg (Int.mul_nonneg hq d0) (by omega)) (by omega)
      have c1 : m_law_square_root [.int (q * q * e * 10 ^ n.toNat * 10 ^ n.toNat)] = some (.int (sq (q * q * e * 10 ^ n.toNat * 10 ^ n.toNat))) := if_pos ⟨nn, zv⟩
      have hc : decide (s ≠ 0 ∧ s.natAbs.log2 < 9000) = true := decide_eq_true (div_ok s0 s9)
      clear n0 n1 s0 s9 d0 zp zq zd zt zv nn hl
      unfold b_law_scaled scl
      by_cases hq : 0 < q
      · have hq' : decide (0 < q) = true := decide_eq_true hq
        rw [if_pos hq]
        clear hq
        simp only [bodyP, bodyS, bodyR, sSeq, sIf, sNx, sRt, sRtX, sAsgX, sRs, eX, eJs, eJn, dFmt, sAsg, sDr, sPar, sAug, sSp, sOwn, sApp, lDs, eSp, eS, tBl, tTr, tAn, tOo, tNo, eC, eV, eA, eIf, eAn, eOo, eNo, e1, e2, eIxN, FD.peek, aCons, aNil, gNm, gTp, gLs, gCo, gNi, dI, dAddI, dMulI, dAdd, dSub, dMul, dFdiv, dMod, dNeg, dGcd, dMax, dMin, dAbs, dSq, dLen, dEq_int, dNe_int, dIx, oTup, oLst, truD, List.length_cons, List.length_nil, List.map_cons, List.map_nil, List.cons_append, List.nil_append, List.replicate_succ, List.replicate_zero, List.getElem?_cons_zero, List.getElem?_cons_succ, List.set_cons_succ, List.set_cons_zero, Nat.reduceAdd, Nat.reduceSub, Nat.sub_self, if_true, decide_true, decide_false, Bool.not_true, Bool.not_false, Bool.false_eq_true, if_false, reduceCtorEq, sFr, iRg1, hr, e1', f1, f2, f3, f4, f5, c1, hc, hq']
      · have hq' : decide (0 < q) = false := decide_eq_false hq
        rw [if_neg hq]
        clear hq
        simp only [bodyP, bodyS, bodyR, sSeq, sIf, sNx, sRt, sRtX, sAsgX, sRs, eX, eJs, eJn, dFmt, sAsg, sDr, sPar, sAug, sSp, sOwn, sApp, lDs, eSp, eS, tBl, tTr, tAn, tOo, tNo, eC, eV, eA, eIf, eAn, eOo, eNo, e1, e2, eIxN, FD.peek, aCons, aNil, gNm, gTp, gLs, gCo, gNi, dI, dAddI, dMulI, dAdd, dSub, dMul, dFdiv, dMod, dNeg, dGcd, dMax, dMin, dAbs, dSq, dLen, dEq_int, dNe_int, dIx, oTup, oLst, truD, List.length_cons, List.length_nil, List.map_cons, List.map_nil, List.cons_append, List.nil_append, List.replicate_succ, List.replicate_zero, List.getElem?_cons_zero, List.getElem?_cons_succ, List.set_cons_succ, List.set_cons_zero, Nat.reduceAdd, Nat.reduceSub, Nat.sub_self, if_true, decide_true, decide_false, Bool.not_true, Bool.not_false, Bool.false_eq_true, if_false, reduceCtorEq, sFr, iRg1, hr, e1', f1, f2, f3, f4, f5, c1, hc, hq']
    · cases h
  · cases h
end T4

set_option maxRecDepth 100000
set_option maxHeartbeats 4000000
set_option exponentiation.threshold 20000
namespace T4
open PySem L2 FD
/-! ## the sign, by decimal bounds -/
def isg (n : Int) : Int := if 0 < n then 1 else if n < 0 then -1 else 0
def sgS (p q d : Int) : Int := if q * q * d < p * p then isg p else isg q
theorem isg_pos {n : Int} (h : 0 < n) : isg n = 1 := if_pos h
theorem isg_neg {n : Int} (h : n < 0) : isg n = -1 := by unfold isg; rw [if_neg (by omega), if_pos h]
theorem sq_nn (a : Int) : 0 ≤ a * a := by
  rcases Int.le_total 0 a with w | w
  · exact Int.mul_nonneg w w
  · exact Int.mul_nonneg_of_nonpos_of_nonpos w w
theorem lt_of_sq {a b : Int} (hb : 0 ≤ b) (h : a * a < b * b) : a < b := by
  by_cases w : a < b
  · exact w
  · exfalso
    have := Int.mul_le_mul (show b ≤ a by omega) (show b ≤ a by omega) hb (by omega)
    omega
/-- p T and the root of q q d T T, held against each other -/
theorem cmp_T {p q d T : Int} (hT : 0 < T) : (q * q * d < p * p ↔ q * q * d * T * T < (p * T) * (p * T)) := by
  have e : (p * T) * (p * T) - q * q * d * T * T = (p * p - q * q * d) * (T * T) := by grind
  have tt := Int.mul_pos hT hT
  constructor
  · intro h
    have := Int.mul_pos (show 0 < p * p - q * q * d by omega) tt
    omega
  · intro h
    refine Int.lt_of_not_ge fun w => ?_
    have := Int.mul_nonneg (show 0 ≤ q * q * d - p * p by omega) (show 0 ≤ T * T by omega)
    have e2 : (q * q * d - p * p) * (T * T) = -((p * p - q * q * d) * (T * T)) := by grind
    omega
theorem sign_of_A {p q d T r : Int} (hT : 0 < T) (r0 : 0 ≤ r) (r1 : r * r ≤ q * q * d * T * T) (r2 : q * q * d * T * T < (r + 1) * (r + 1)) :
    (4 ≤ p * T + (if 0 < q then r else 0 - r) → sgS p q d = 1) ∧ (p * T + (if 0 < q then r else 0 - r) ≤ -4 → sgS p q d = -1) := by
  have c := cmp_T (p := p) (q := q) (d := d) hT
  have D0 : q = 0 → q * q * d * T * T = 0 := fun z => by rw [z]; simp
  generalize q * q * d * T * T = D at *
  have pT : ∀ z : Int, (0 < z * T ↔ 0 < z) ∧ (z * T < 0 ↔ z < 0) := fun z => by
    rcases Int.lt_trichotomy z 0 with w | w | w
    · have := Int.mul_neg_of_neg_of_pos w hT; omega
    · subst w; simp
    · have := Int.mul_pos w hT; omega
  obtain ⟨pp, pn⟩ := pT p
  generalize p * T = P at *
  unfold sgS
  constructor
  · intro h
    by_cases hq : 0 < q
    · rw [if_pos hq] at h
      by_cases w : q * q * d < p * p
      · rw [if_pos w]
        have w2 := c.mp w
        refine isg_pos (pp.mp ?_)
        refine Int.lt_of_not_ge fun z => ?_
        have h1 : (-P) * (-P) ≤ r * r := Int.mul_le_mul (by omega) (by omega) (by omega) r0
        rw [Int.neg_mul_neg] at h1
        omega
      · rw [if_neg w]; exact isg_pos hq
    · rw [if_neg hq] at h
      have h1 : (r + 1) * (r + 1) ≤ P * P := Int.mul_le_mul (by omega) (by omega) (by omega) (by omega)
      rw [if_pos (c.mpr (by omega))]
      exact isg_pos (pp.mp (by omega))
  · intro h
    by_cases hq : 0 < q
    · rw [if_pos hq] at h
      have h1 : (r + 1) * (r + 1) ≤ (-P) * (-P) := Int.mul_le_mul (by omega) (by omega) (by omega) (by omega)
      rw [Int.neg_mul_neg] at h1
      rw [if_pos (c.mpr (by omega))]
      exact isg_neg (pn.mp (by omega))
    · rw [if_neg hq] at h
      by_cases w : q * q * d < p * p
      · rw [if_pos w]
        have w2 := c.mp w
        refine isg_neg (pn.mp ?_)
        refine Int.lt_of_not_ge fun z => ?_
        have h1 : P * P ≤ r * r := Int.mul_le_mul (by omega) (by omega) (by omega) r0
        omega
      · rw [if_neg w]
        by_cases z : q = 0
        · exfalso
          subst z
          simp at w
          have := sq_nn p
          have p0 : p * p = 0 := by omega
          have p1 : p = 0 := (Int.mul_eq_zero.mp p0).elim id id
          have p2 : ¬ (P < 0) := fun y => by have := pn.mp y; omega
          have p3 : ¬ (0 < P) := fun y => by have := pp.mp y; omega
          have d0 := D0 rfl
          have r00 : r = 0 := by
            by_cases y : r = 0
            · exact y
            · have : 1 * 1 ≤ r * r := Int.mul_le_mul (by omega) (by omega) (by omega) (by omega)
              omega
          omega
        · exact isg_neg (by omega)
/-- far enough, and the bound shows the sign -/
theorem far {p q d T r s M : Int} (hT : 0 < T) (hs : 0 < s) (r0 : 0 ≤ r) (r1 : r * r ≤ q * q * d * T * T) (r2 : q * q * d * T * T < (r + 1) * (r + 1)) (hN : p * p - q * q * d ≠ 0) (hM : r ≤ M * T) (hM0 : 0 ≤ M)
    (hb : 4 * s * (p.natAbs + M) + 2 * M + 1 < T) (h1 : -(4 * s) ≤ p * T + (if 0 < q then r else 0 - r)) (h2 : p * T + (if 0 < q then r else 0 - r) ≤ 4 * s) : False := by
  have key : ∀ A B : Int, A * B = (p * T) * (p * T) - r * r → -(4 * s) ≤ A → A ≤ 4 * s → B.natAbs ≤ (p * T).natAbs + r.natAbs → False := by
    intro A B e a1 a2 b1
    have hAB : (A * B).natAbs ≤ (4 * s).natAbs * ((p * T).natAbs + r.natAbs) := by
      rw [Int.natAbs_mul]
      exact Nat.mul_le_mul (by omega) b1
    have hNT : (p * p - q * q * d) * (T * T) = (p * T) * (p * T) - q * q * d * T * T := by grind
    have hTT : (T * T).natAbs ≤ ((p * p - q * q * d) * (T * T)).natAbs := by
      rw [Int.natAbs_mul (p * p - q * q * d)]
      exact Nat.le_mul_of_pos_left _ (by omega)
    rw [hNT] at hTT
    have tt : 0 < T * T := Int.mul_pos hT hT
    have hr2 : (r + 1) * (r + 1) = r * r + 2 * r + 1 := by grind
    have hpT : ((p * T).natAbs : Int) = p.natAbs * T := by
      rw [Int.natAbs_mul, Int.natCast_mul]
      congr 1
      omega
    have i1 : ((A * B).natAbs : Int) ≤ 4 * s * (p.natAbs * T + r) := by
      have := Int.ofNat_le.mpr hAB
      rw [Int.natCast_mul, Int.natCast_add, hpT] at this
      have h4 : ((4 * s).natAbs : Int) = 4 * s := by omega
      have h5 : (r.natAbs : Int) = r := by omega
      rw [h4, h5] at this
      exact this
    have i2 : T * T ≤ 4 * s * (p.natAbs * T + r) + 2 * r + 1 := by omega
    have i3 : 4 * s * (p.natAbs * T + r) ≤ 4 * s * (p.natAbs * T + M * T) := Int.mul_le_mul_of_nonneg_left (by omega) (by omega)
    have i4 : (4 * s * (p.natAbs + M) + 2 * M + 1 + 1) * T ≤ T * T := Int.mul_le_mul_of_nonneg_right (by omega) (by omega)
    have i5 : (4 * s * (p.natAbs + M) + 2 * M + 1 + 1) * T = 4 * s * (p.natAbs * T + M * T) + 2 * (M * T) + T + T := by grind
    omega
  by_cases hq : 0 < q
  · rw [if_pos hq] at h1 h2
    exact key (p * T + r) (p * T - r) (by grind) h1 h2 (by omega)
  · rw [if_neg hq] at h1 h2
    exact key (p * T + (0 - r)) (p * T + r) (by grind) h1 h2 (by omega)
end T4

set_option maxRecDepth 100000
set_option maxHeartbeats 4000000
set_option exponentiation.threshold 20000
namespace T4
open PySem L2 FD
theorem sg_zero (d : Int) : sgS 0 0 d = 0 := by simp [sgS, isg]
/-- numbers whose sign is asked -/
structure SgOk (p q d s : Int) : Prop where
  s0 : 0 < s
  d0 : 0 ≤ d
  qd : q ≠ 0 → 0 < d
  N0 : ¬ (p = 0 ∧ q = 0) → p * p - q * q * d ≠ 0
  zp : p.natAbs < 2 ^ 2200
  zq : q.natAbs < 2 ^ 2000
  zd : d.natAbs < 2 ^ 40
  zs : s.natAbs < 2 ^ 1100
theorem ten_small {n : Nat} (h : n ≤ 1024) : ((10 : Int) ^ n).natAbs < 2 ^ 4096 := by
  rw [Int.natAbs_pow]
  have h1 : (10 : Nat) ^ n ≤ 16 ^ n := Nat.pow_le_pow_left (by decide) n
  have h2 : (16 : Nat) ^ n = 2 ^ (4 * n) := by rw [show (16 : Nat) = 2 ^ 4 by rfl, ← Nat.pow_mul]
  have h3 : (2 : Nat) ^ (4 * n) ≤ 2 ^ 4096 := Nat.pow_le_pow_right (by decide) (by omega)
  have h4 : (10 : Nat) ^ 1024 < 2 ^ 4096 := by decide +kernel
  have h5 : (10 : Nat) ^ n ≤ 10 ^ 1024 := Nat.pow_le_pow_right (by decide) h
  exact Nat.lt_of_le_of_lt h5 h4
theorem SgOk.okS {p q d s : Int} (h : SgOk p q d s) {n : Nat} (hn : n ≤ 1024) : okS p q d s (n : Int) := by
  have zt := ten_small hn
  have := h.s0
  refine ⟨by omega, by omega, by omega, lt_up h.zs, h.d0, lt_up h.zp, lt_up h.zq, lt_up h.zd, ?_, ?_⟩
  · rw [Int.toNat_natCast]; exact lt_up zt
  · rw [Int.toNat_natCast]; exact lt_up (mul_lt (mul_lt (mul_lt (mul_lt h.zq h.zq) h.zd) zt) zt)
/-- what a scaled value tells of the sign -/
theorem SgOk.tells {p q d s : Int} (h : SgOk p q d s) (n : Nat) : (3 < scl p q d s n → sgS p q d = 1) ∧ (scl p q d s n < -3 → sgS p q d = -1) := by
  have hT := ten_pos n
  have s0 := h.s0
  have nn : 0 ≤ q * q * d * 10 ^ n * 10 ^ n := Int.mul_nonneg (Int.mul_nonneg (Int.mul_nonneg (sq_nn q) h.d0) (by omega)) (by omega)
  obtain ⟨r0, r1, r2⟩ := sq_spec nn
  obtain ⟨c1, c2⟩ := sign_of_A (p := p) (q := q) (d := d) hT r0 r1 r2
  unfold scl
  generalize p * 10 ^ n + (if 0 < q then sq (q * q * d * 10 ^ n * 10 ^ n) else 0 - sq (q * q * d * 10 ^ n * 10 ^ n)) = A at *
  obtain ⟨f1, f2⟩ := fdiv_spec (a := A) s0
  generalize A.fdiv s = v at *
  constructor
  · intro hv
    have := Int.mul_le_mul_of_nonneg_right (show (4 : Int) ≤ v by omega) (show 0 ≤ s by omega)
    exact c1 (by omega)
  · intro hv
    have := Int.mul_le_mul_of_nonneg_right (show v + 1 ≤ (-3 : Int) by omega) (show 0 ≤ s by omega)
    exact c2 (by omega)
theorem SgOk.ends {p q d s : Int} (h : SgOk p q d s) (h0 : ¬ (p = 0 ∧ q = 0)) : 3 < scl p q d s 1024 ∨ scl p q d s 1024 < -3 := by
  refine Classical.byContradiction fun w => ?_
  have s0 := h.s0
  have hT := ten_pos 1024
  have big : (2 : Int) ^ 3400 < 10 ^ 1024 := by decide +kernel
  have nn : 0 ≤ q * q * d * 10 ^ 1024 * 10 ^ 1024 := Int.mul_nonneg (Int.mul_nonneg (Int.mul_nonneg (sq_nn q) h.d0) (by omega)) (by omega)
  have zM : ((q.natAbs : Int) * d).natAbs < 2 ^ 2040 := by
    rw [Int.natAbs_mul]
    have := Nat.mul_lt_mul'' h.zq h.zd
    rw [← Nat.pow_add] at this
    exact this
  have M0 : 0 ≤ (q.natAbs : Int) * d := Int.mul_nonneg (by omega) h.d0
  obtain ⟨r0, r1, r2⟩ := sq_spec nn
  have hM : sq (q * q * d * 10 ^ 1024 * 10 ^ 1024) ≤ (q.natAbs : Int) * d * 10 ^ 1024 := by
    refine Int.le_of_lt_add_one (lt_of_sq (by have := Int.mul_nonneg M0 (show (0 : Int) ≤ 10 ^ 1024 by omega); omega) ?_)
    generalize (10 : Int) ^ 1024 = T at *
    generalize sq (q * q * d * T * T) = r at *
    have e : (q.natAbs : Int) * (q.natAbs : Int) = q * q := by
      rcases Int.le_total 0 q with w | w
      · rw [show (q.natAbs : Int) = q by omega]
      · rw [show (q.natAbs : Int) = -q by omega, Int.neg_mul_neg]
    have e2 : ((q.natAbs : Int) * d * T) * ((q.natAbs : Int) * d * T) = (q * q * d * T * T) * d := by rw [← e]; grind
    have e3 : q * q * d * T * T ≤ (q * q * d * T * T) * d := by
      by_cases z : q = 0
      · rw [z]; simp
      · have := h.qd z
        have := Int.mul_le_mul_of_nonneg_left (show (1 : Int) ≤ d by omega) nn
        omega
    have e4 := Int.mul_nonneg M0 (show (0 : Int) ≤ T by omega)
    have e5 : ((q.natAbs : Int) * d * T + 1) * ((q.natAbs : Int) * d * T + 1) = ((q.natAbs : Int) * d * T) * ((q.natAbs : Int) * d * T) + 2 * ((q.natAbs : Int) * d * T) + 1 := by grind
    omega
  have hb : 4 * s * (p.natAbs + (q.natAbs : Int) * d) + 2 * ((q.natAbs : Int) * d) + 1 < 10 ^ 1024 := by
    refine Int.lt_trans ?_ big
    have z1 : ((p.natAbs : Int) + (q.natAbs : Int) * d).natAbs < 2 ^ 2201 := add_lt (a := 2200) (by have := h.zp; omega) (lt_up zM)
    have z2 : (4 * s).natAbs < 2 ^ (3 + 1100) := mul_lt (by decide) h.zs
    have z3 := mul_lt z2 z1
    have z4 : (2 * ((q.natAbs : Int) * d)).natAbs < 2 ^ (2 + 2040) := mul_lt (by decide) zM
    have z5 := add_lt (lt_up z3 (b := 3398)) (lt_up z4 (b := 3398))
    have z6 : (2 : Nat) ^ (3398 + 1) + 1 < 2 ^ 3400 := by decide +kernel
    have z7 : ((2 ^ 3400 : Nat) : Int) = (2 : Int) ^ 3400 := Int.natCast_pow 2 3400
    rw [← z7]
    generalize (2 : Nat) ^ (3398 + 1) = U at *
    generalize (2 : Nat) ^ 3400 = W at *
    omega
  have hA : -(4 * s) ≤ p * 10 ^ 1024 + (if 0 < q then sq (q * q * d * 10 ^ 1024 * 10 ^ 1024) else 0 - sq (q * q * d * 10 ^ 1024 * 10 ^ 1024)) ∧ p * 10 ^ 1024 + (if 0 < q then sq (q * q * d * 10 ^ 1024 * 10 ^ 1024) else 0 - sq (q * q * d * 10 ^ 1024 * 10 ^ 1024)) ≤ 4 * s := by
    unfold scl at w
    generalize p * 10 ^ 1024 + (if 0 < q then sq (q * q * d * 10 ^ 1024 * 10 ^ 1024) else 0 - sq (q * q * d * 10 ^ 1024 * 10 ^ 1024)) = A at *
    obtain ⟨f1, f2⟩ := fdiv_spec (a := A) s0
    generalize A.fdiv s = v at *
    have h1 := Int.mul_le_mul_of_nonneg_right (show v + 1 ≤ (4 : Int) by omega) (show 0 ≤ s by omega)
    have h2 := Int.mul_le_mul_of_nonneg_right (show (-3 : Int) ≤ v by omega) (show 0 ≤ s by omega)
    omega
  exact far hT s0 r0 r1 r2 (h.N0 h0) hM M0 hb hA.1 hA.2
end T4

set_option maxRecDepth 100000
set_option maxHeartbeats 4000000
set_option exponentiation.threshold 20000
namespace T4
open PySem L2 FD
theorem dNe_two (p q : Int) : dNe (.tup [.int p, .int q]) (.tup [.int 0, .int 0]) = some (.bl (!decide (p = 0 ∧ q = 0))) := by
  have h : toPy (.tup [.int p, .int q]) = some (.tuple [.int p, .int q]) := rfl
  have h0 : toPy (.tup [.int 0, .int 0]) = some (.tuple [.int 0, .int 0]) := rfl
  have h2 : SeqAt.shaped (.tuple [.int p, .int q]) = true := rfl
  have h3 : SeqAt.shaped (.tuple [.int 0, .int 0]) = true := rfl
  unfold dNe
  simp only [h, h0, h2, h3, Bool.and_self, if_true]
  congr 2
  simp only [PyData.eqv, PyData.eqvAll, Bool.and_true]
  by_cases a : p = 0 <;> by_cases b : q = 0 <;> simp [a, b]
section
variable {p q d s : Int}
theorem cond_ok (x1 x2 : Option SV) (sp : Spl) : (tBl (e2 (eSlN 0 (oNo) (oSo (eC (.int 2)))) (eA (aCons (eC (.int 0)) (aCons (eC (.int 0)) (aNil))) oTup) dNe)) ⟨[some (.dat (.tup [.int p, .int q, .int d, .int s])), x1, x2], sp⟩ = some (!decide (p = 0 ∧ q = 0), ⟨[some (.dat (.tup [.int p, .int q, .int d, .int s])), x1, x2], sp⟩) := by
  have two : (2 : Nat) ≤ sizeLine := by decide
  have e := dNe_two p q
  have c : dSl (.tup [.int p, .int q, .int d, .int s]) none (some 2) = some (.tup [.int p, .int q]) := rfl
  simp only [tBl, e2, eSlN, FD.peek, oNo, oSo, eC, c, eA, aCons, aNil, oTup, List.length_cons, List.length_nil, Nat.reduceAdd, two, if_true, e, List.getElem?_cons_zero]
theorem sg_loop (h : SgOk p q d s) (h0 : ¬ (p = 0 ∧ q = 0)) : ∀ (m k : Nat) (x2 : Option SV) (sp : Spl), 1 ≤ k → k ≤ 10 → 11 ≤ m + k → ∃ s', whN m (tBl (e2 (eSlN 0 (oNo) (oSo (eC (.int 2)))) (eA (aCons (eC (.int 0)) (aCons (eC (.int 0)) (aNil))) oTup) dNe)) (sSeq (sAsg (eA (aCons (eV 0) (aCons (eV 1) (aNil))) m_law_scaled) (gNm 2)) (sSeq (sIf (tBl (e2 (eA (aCons (eV 2) (aNil)) dAbs) (eC (.int 3)) dGt)) (sRt (eIf (tBl (e2 (eV 2) (eC (.int 0)) dGt)) (eC (.int 1)) (e2 (eC (.int 0)) (eC (.int 1)) dSub))) (sNx)) (sAsg (e2 (eC (.int 2)) (eV 1) dMul) (gNm 1)))) ⟨[some (.dat (.tup [.int p, .int q, .int d, .int s])), some (.dat (.int ((2 ^ k : Nat) : Int))), x2], sp⟩ = some (.rt (.int (sgS p q d)) s') := by
  intro m
  induction m with
  | zero =>
    intro k x2 sp k1 k2 k3
    omega
  | succ m ih =>
    intro k x2 sp k1 k2 k3
    have hk : 2 ^ k ≤ 1024 := by
      have := Nat.pow_le_pow_right (show 0 < 2 by decide) k2
      exact this
    have c1 : m_law_scaled [(.tup [.int p, .int q, .int d, .int s]), .int ((2 ^ k : Nat) : Int)] = some (.int (scl p q d s (2 ^ k))) := by
      unfold m_law_scaled
      dsimp only
      rw [if_pos (h.okS hk), Int.toNat_natCast]
    have cd := cond_ok (p := p) (q := q) (d := d) (s := s) (some (.dat (.int ((2 ^ k : Nat) : Int)))) x2 sp
    rw [decide_eq_false h0, Bool.not_false] at cd
    obtain ⟨t1, t2⟩ := h.tells (2 ^ k)
    by_cases v1 : 3 < scl p q d s (2 ^ k)
    · refine ⟨⟨[some (.dat (.tup [.int p, .int q, .int d, .int s])), some (.dat (.int ((2 ^ k : Nat) : Int))), some (.dat (.int (scl p q d s (2 ^ k))))], sp⟩, ?_⟩
      rw [t1 v1]
      have a1 : (if scl p q d s (2 ^ k) < 0 then -scl p q d s (2 ^ k) else scl p q d s (2 ^ k)) = scl p q d s (2 ^ k) := if_neg (by omega)
      have a2 : decide (3 < scl p q d s (2 ^ k)) = true := decide_eq_true v1
      have a3 : decide (0 < scl p q d s (2 ^ k)) = true := decide_eq_true (by omega)
      unfold whN
      rw [cd]
      clear cd t1 t2 v1 ih
      simp only [sSeq, sAsg, eA, aCons, aNil, eV, c1, gNm, sIf, tBl, e2, eC, dAbs, a1, dI, a2, sRt, eIf, a3, List.getElem?_cons_zero, List.getElem?_cons_succ, List.set_cons_zero, List.set_cons_succ]
    · by_cases v2 : scl p q d s (2 ^ k) < -3
      · refine ⟨⟨[some (.dat (.tup [.int p, .int q, .int d, .int s])), some (.dat (.int ((2 ^ k : Nat) : Int))), some (.dat (.int (scl p q d s (2 ^ k))))], sp⟩, ?_⟩
        rw [t2 v2]
        have a1 : (if scl p q d s (2 ^ k) < 0 then -scl p q d s (2 ^ k) else scl p q d s (2 ^ k)) = -scl p q d s (2 ^ k) := if_pos (by omega)
        have a2 : decide (3 < -scl p q d s (2 ^ k)) = true := decide_eq_true (by omega)
        have a3 : decide (0 < scl p q d s (2 ^ k)) = false := decide_eq_false (by omega)
        unfold whN
        rw [cd]
        clear cd t1 t2 v1 v2 ih
        simp only [sSeq, sAsg, eA, aCons, aNil, eV, c1, gNm, sIf, tBl, e2, eC, dAbs, a1, dI, a2, sRt, eIf, a3, dSub, List.getElem?_cons_zero, List.getElem?_cons_succ, List.set_cons_zero, List.set_cons_succ]
        rfl
      · have k10 : k ≠ 10 := fun z => by
          subst z
          exact (h.ends h0).elim v1 v2
        have a2 : decide (3 < (if scl p q d s (2 ^ k) < 0 then -scl p q d s (2 ^ k) else scl p q d s (2 ^ k))) = false := decide_eq_false (by split <;> omega)
        have f1 : fitM 2 ((2 ^ k : Nat) : Int) = true := fit_of (a := 2) (b := 20) (by decide) (by rw [Int.natAbs_natCast]; exact Nat.lt_of_le_of_lt hk (by decide))
        have e2k : (2 : Int) * ((2 ^ k : Nat) : Int) = ((2 ^ (k + 1) : Nat) : Int) := by rw [Nat.pow_succ]; omega
        obtain ⟨s', e⟩ := ih (k + 1) (some (.dat (.int (scl p q d s (2 ^ k))))) sp (by omega) (by omega) (by omega)
        refine ⟨s', ?_⟩
        unfold whN
        rw [cd]
        clear cd t1 t2 v1 v2 ih
        simp only [sSeq, sAsg, eA, aCons, aNil, eV, c1, gNm, sIf, tBl, e2, eC, dAbs, dI, a2, sNx, dMul, f1, if_true, e2k, List.getElem?_cons_zero, List.getElem?_cons_succ, List.set_cons_zero, List.set_cons_succ]
        exact e
end
def b_law_sign_of : SF :=
  sSeq (sAsg (eC (.int 2)) (gNm 1))
  (sSeq (sWh (fun _ => 12) (tBl (e2 (eSlN 0 (oNo) (oSo (eC (.int 2)))) (eA (aCons (eC (.int 0)) (aCons (eC (.int 0)) (aNil))) oTup) dNe)) (sSeq (sAsg (eA (aCons (eV 0) (aCons (eV 1) (aNil))) m_law_scaled) (gNm 2))
  (sSeq (sIf (tBl (e2 (eA (aCons (eV 2) (aNil)) dAbs) (eC (.int 3)) dGt)) (sRt (eIf (tBl (e2 (eV 2) (eC (.int 0)) dGt)) (eC (.int 1)) (e2 (eC (.int 0)) (eC (.int 1)) dSub))) (sNx))
  (sAsg (e2 (eC (.int 2)) (eV 1) dMul) (gNm 1)))))
  (sRt (eC (.int 0))))
def m_law_sign_of : List DV → Option DV := bodyP 1 3 b_law_sign_of
theorem t_law_sign_of : ∀ ds d, m_law_sign_of ds = some d → bodyP 1 3 b_law_sign_of ds = some d := fun _ _ h => h
theorem sign_of_ok {p q d s : Int} (h : SgOk p q d s) : m_law_sign_of [(.tup [.int p, .int q, .int d, .int s])] = some (.int (sgS p q d)) := by
  unfold m_law_sign_of b_law_sign_of
  by_cases h0 : p = 0 ∧ q = 0
  · obtain ⟨rfl, rfl⟩ := h0
    have cd := cond_ok (p := 0) (q := 0) (d := d) (s := s) (some (.dat (.int 2))) none spl0
    have e0 : (!decide ((0 : Int) = 0 ∧ (0 : Int) = 0)) = false := rfl
    rw [e0] at cd
    have hw : whN 12 (tBl (e2 (eSlN 0 (oNo) (oSo (eC (.int 2)))) (eA (aCons (eC (.int 0)) (aCons (eC (.int 0)) (aNil))) oTup) dNe)) (sSeq (sAsg (eA (aCons (eV 0) (aCons (eV 1) (aNil))) m_law_scaled) (gNm 2)) (sSeq (sIf (tBl (e2 (eA (aCons (eV 2) (aNil)) dAbs) (eC (.int 3)) dGt)) (sRt (eIf (tBl (e2 (eV 2) (eC (.int 0)) dGt)) (eC (.int 1)) (e2 (eC (.int 0)) (eC (.int 1)) dSub))) (sNx)) (sAsg (e2 (eC (.int 2)) (eV 1) dMul) (gNm 1)))) ⟨[some (.dat (.tup [.int 0, .int 0, .int d, .int s])), some (.dat (.int 2)), none], spl0⟩ = some (.nx ⟨[some (.dat (.tup [.int 0, .int 0, .int d, .int s])), some (.dat (.int 2)), none], spl0⟩) := by
      unfold whN
      rw [cd]
    rw [sg_zero]
    simp only [bodyP, sSeq, sAsg, eC, gNm, sWh, hw, sRt, List.length_cons, List.length_nil, List.map_cons, List.map_nil, List.cons_append, List.nil_append, List.replicate_succ, List.replicate_zero, List.set_cons_zero, List.set_cons_succ, Nat.reduceAdd, Nat.reduceSub, if_true]
  · obtain ⟨s', hw⟩ := sg_loop h h0 12 1 none spl0 (by decide) (by decide) (by decide)
    have e2' : ((2 ^ 1 : Nat) : Int) = 2 := rfl
    rw [e2'] at hw
    simp only [bodyP, sSeq, sAsg, eC, gNm, sWh, List.length_cons, List.length_nil, List.map_cons, List.map_nil, List.cons_append, List.nil_append, List.replicate_succ, List.replicate_zero, List.set_cons_zero, List.set_cons_succ, Nat.reduceAdd, Nat.reduceSub, if_true]
    rw [hw]
end T4

set_option maxRecDepth 100000
set_option maxHeartbeats 4000000
set_option exponentiation.threshold 20000
namespace T4
open PySem L2 FD
local macro_rules | `(tactic| walk_at "fd") => `(tactic| simp only [bodyP, bodyS, bodyR, sSeq, sIf, sNx, sRt, sRtX, sAsgX, sRs, eX, eJs, eJn, dFmt, sAsg, sDr, sPar, sAug, sSp, sOwn, sApp, lDs, eSp, eS, tBl, tTr, tAn, tOo, tNo, eC, eV, eA, eIf, eAn, eOo, eNo, e1, e2, eIxN, FD.peek, aCons, aNil, gNm, gTp, gLs, gCo, gNi, dI, dAddI, dMulI, dAdd, dSub, dMul, dFdiv, dMod, dNeg, dGcd, dMax, dMin, dAbs, dSq, dLen, dEq_int, dNe_int, dIx, oTup, oLst, truD, List.length_cons, List.length_nil, List.map_cons, List.map_nil, List.cons_append, List.nil_append, List.replicate_succ, List.replicate_zero, List.getElem?_cons_zero, List.getElem?_cons_succ, List.set_cons_succ, List.set_cons_zero, Nat.reduceAdd, Nat.reduceSub, Nat.sub_self, if_true, decide_true, decide_false, Bool.not_true, Bool.not_false, Bool.false_eq_true, if_false, reduceCtorEq, *])
abbrev Num := Int × Int × Int × Int
def nm (x : Num) : DV := .tup [.int x.1, .int x.2.1, .int x.2.2.1, .int x.2.2.2]
def SzN (b : Nat) (x : Num) : Prop := Sz b x.1 ∧ Sz b x.2.1 ∧ Sz b x.2.2.1 ∧ Sz b x.2.2.2
/-! ## lowest terms -/
def gc (p q s : Int) : Int := (((p.natAbs.gcd q.natAbs).gcd s.natAbs : Nat) : Int)
def sgc (p q s : Int) : Int := if s < 0 then -gc p q s else gc p q s
def low (p q d s : Int) : Num := if q = 0 then (p.fdiv (sgc p q s), 0, 0, s.fdiv (sgc p q s)) else (p.fdiv (sgc p q s), q.fdiv (sgc p q s), d, s.fdiv (sgc p q s))
theorem gc_pos {p q s : Int} (h : s ≠ 0) : 0 < gc p q s := by
  unfold gc
  have : 0 < ((p.natAbs.gcd q.natAbs).gcd s.natAbs) := Nat.gcd_pos_of_pos_right _ (by omega)
  omega
theorem gc_le {p q s : Int} (h : s ≠ 0) : (gc p q s).natAbs ≤ s.natAbs := by
  unfold gc
  have : ((p.natAbs.gcd q.natAbs).gcd s.natAbs) ≤ s.natAbs := Nat.gcd_le_right _ (by omega)
  omega
theorem sgc_ne {p q s : Int} (h : s ≠ 0) : sgc p q s ≠ 0 := by
  have := gc_pos (p := p) (q := q) h
  unfold sgc
  split <;> omega
theorem sgc_le {p q s : Int} (h : s ≠ 0) : (sgc p q s).natAbs ≤ s.natAbs := by
  have := gc_le (p := p) (q := q) h
  unfold sgc
  split <;> omega
theorem four_le : (4 : Nat) ≤ sizeLine := by decide
theorem two_le : (2 : Nat) ≤ sizeLine := by decide
instance (b : Nat) (x : Num) : Decidable (SzN b x) := by unfold SzN; exact inferInstance
def rootOf (d e : Int) : Int := if e > d then e else d
/-! ## Euclid -/
def gcdZ (a b : Int) : Int := ((a.natAbs.gcd b.natAbs : Nat) : Int)
theorem fmod_small {a b : Int} (h : b ≠ 0) : (a.fmod b).natAbs < b.natAbs := by
  rcases Int.lt_trichotomy b 0 with z | z | z
  · have e : a.fmod b = -((-a).fmod (-b)) := by rw [Int.neg_fmod_neg]; omega
    have h1 := Int.fmod_nonneg_of_pos (-a) (show 0 < -b by omega)
    have h2 := Int.fmod_lt_of_pos (-a) (show 0 < -b by omega)
    omega
  · exact absurd z h
  · have h1 := Int.fmod_nonneg_of_pos a z
    have h2 := Int.fmod_lt_of_pos a z
    omega
theorem gcd_step (a b : Int) : b.natAbs.gcd (a.fmod b).natAbs = a.natAbs.gcd b.natAbs := by
  have e := Int.fmod_add_mul_fdiv a b
  refine Nat.dvd_antisymm (Nat.dvd_gcd ?_ (Nat.gcd_dvd_left _ _)) (Nat.dvd_gcd (Nat.gcd_dvd_right _ _) ?_)
  · have h1 : ((b.natAbs.gcd (a.fmod b).natAbs : Nat) : Int) ∣ a.fmod b := Int.ofNat_dvd_left.mpr (Nat.gcd_dvd_right _ _)
    have h2 : ((b.natAbs.gcd (a.fmod b).natAbs : Nat) : Int) ∣ b := Int.ofNat_dvd_left.mpr (Nat.gcd_dvd_left _ _)
    have h3 := Int.dvd_add h1 (Int.dvd_trans h2 (Int.dvd_mul_right b (a.fdiv b)))
    rw [e] at h3
    exact Int.ofNat_dvd_left.mp h3
  · have h1 : ((a.natAbs.gcd b.natAbs : Nat) : Int) ∣ a := Int.ofNat_dvd_left.mpr (Nat.gcd_dvd_left _ _)
    have h2 : ((a.natAbs.gcd b.natAbs : Nat) : Int) ∣ b := Int.ofNat_dvd_left.mpr (Nat.gcd_dvd_right _ _)
    have h3 := Int.dvd_sub h1 (Int.dvd_trans h2 (Int.dvd_mul_right b (a.fdiv b)))
    rw [show a - b * a.fdiv b = a.fmod b by omega] at h3
    exact Int.ofNat_dvd_left.mp h3
theorem euclid : ∀ (n : Nat) (a b : Int) (sp : Spl), b.natAbs ≤ n → ∃ g, whN n (tBl (e2 (eV 1) (eC (.int 0)) dNe)) (sPar 0 1 (aCons (eV 1) (aCons (e2 (eV 0) (eV 1) dMod) (aNil)))) ⟨[some (.dat (.int a)), some (.dat (.int b))], sp⟩ = some (.nx ⟨[some (.dat (.int g)), some (.dat (.int 0))], sp⟩) ∧ (if g < 0 then -g else g) = gcdZ a b := by
  intro n
  induction n with
  | zero =>
    intro a b sp h
    obtain rfl : b = 0 := by omega
    refine ⟨a, by simp [whN, tBl, e2, eV, eC, dNe_int], ?_⟩
    unfold gcdZ
    rw [Int.natAbs_zero, Nat.gcd_zero_right]
    split <;> omega
  | succ n ih =>
    intro a b sp h
    by_cases hb : b = 0
    · subst hb
      refine ⟨a, by simp [whN, tBl, e2, eV, eC, dNe_int], ?_⟩
      unfold gcdZ
      rw [Int.natAbs_zero, Nat.gcd_zero_right]
      split <;> omega
    · have hs := fmod_small (a := a) hb
      obtain ⟨g, e, hg⟩ := ih b (a.fmod b) sp (by omega)
      refine ⟨g, ?_, ?_⟩
      · have hb' := beq_f hb
        have hd : decide (b ≠ 0) = true := decide_eq_true hb
        simp only [whN, tBl, e2, eV, eC, dNe_int, hb', Bool.not_false, sPar, aCons, aNil, dMod, hd, if_true, List.getElem?_cons_zero, List.getElem?_cons_succ, List.set_cons_zero, List.set_cons_succ, e]
      · rw [hg]
        unfold gcdZ
        rw [gcd_step]
def b_law_common : SF :=
  sSeq (sWh (fun s => (slI s 1).natAbs) (tBl (e2 (eV 1) (eC (.int 0)) dNe)) (sPar 0 1 (aCons (eV 1) (aCons (e2 (eV 0) (eV 1) dMod) (aNil)))))
  (sRt (eA (aCons (eV 0) (aNil)) dAbs))
def m_law_common : List DV → Option DV
  | [.int a, .int b] => some (.int (gcdZ a b))
  | _ => none
theorem t_law_common : ∀ ds d, m_law_common ds = some d → bodyP 2 2 b_law_common ds = some d := by
  intro ds d h
  unfold m_law_common at h
  split at h
  · rename_i a b
    cases h
    obtain ⟨g, e, hg⟩ := euclid b.natAbs a b spl0 (Nat.le_refl _)
    have hf : (slI ⟨[some (.dat (.int a)), some (.dat (.int b))], spl0⟩ 1).natAbs = b.natAbs := rfl
    unfold b_law_common
    simp only [bodyP, sSeq, sWh, List.length_cons, List.length_nil, Nat.reduceAdd, if_true, List.map_cons, List.map_nil, List.replicate_zero, List.append_nil, Nat.sub_self, hf, e, sRt, eA, aCons, aNil, eV, List.getElem?_cons_zero, dAbs, hg]
  · cases h
/-- in lowest terms, as the law reckons it -/
def lowL (p q d s : Int) : Num := if q = 0 ∨ d = 0 then low p 0 0 s else low p q d s
theorem lowL_eq {p q d s : Int} (h : q = 0 ∨ d ≠ 0) : lowL p q d s = low p q d s := by
  unfold lowL
  by_cases z : q = 0
  · rw [if_pos (.inl z), z]
    unfold low
    rw [if_pos rfl, if_pos rfl]
  · rw [if_neg (fun w => w.elim z (h.resolve_left z))]
def b_law_lowest : SF :=
  sSeq (sIf (tOo (tBl (e2 (eV 1) (eC (.int 0)) dEq)) (tBl (e2 (eV 2) (eC (.int 0)) dEq))) (sAsg (eA (aCons (eC (.int 0)) (aCons (eC (.int 0)) (aNil))) oTup) (gTp 2 (gCo (gNm 1) (gCo (gNm 2) (gNi))))) (sNx))
  (sSeq (sAsg (eA (aCons (eA (aCons (eV 0) (aCons (eV 1) (aNil))) m_law_common) (aCons (eV 3) (aNil))) m_law_common) (gNm 4))
  (sSeq (sAsg (eIf (tBl (e2 (eV 3) (eC (.int 0)) dGt)) (eV 4) (e2 (eC (.int 0)) (eV 4) dSub)) (gNm 4))
  (sRt (eA (aCons (e2 (eV 0) (eV 4) dFdiv) (aCons (e2 (eV 1) (eV 4) dFdiv) (aCons (eV 2) (aCons (e2 (eV 3) (eV 4) dFdiv) (aNil))))) oTup))))
def m_law_lowest : List DV → Option DV
  | [.int p, .int q, .int d, .int s] => if s ≠ 0 ∧ s.natAbs < 2 ^ 8999 then some (nm (lowL p q d s)) else none
  | _ => none
theorem gcdZ_gc (p q s : Int) : gcdZ (gcdZ p q) s = gc p q s := rfl
theorem t_law_lowest : ∀ ds d, m_law_lowest ds = some d → bodyP 4 5 b_law_lowest ds = some d := by
  intro ds d h
  unfold m_law_lowest at h
  split at h
  · rename_i p q e s
    split at h
    · rename_i hs
      obtain ⟨h1, h2⟩ := hs
      cases h
      have c1 : ∀ a b : Int, m_law_common [.int a, .int b] = some (.int (gcdZ a b)) := fun _ _ => rfl
      have hl : (4 : Nat) ≤ sizeLine := by decide
      have hl2 : (2 : Nat) ≤ sizeLine := by decide
      have main : ∀ q' e' : Int, ∃ st, sIf (tOo (tBl (e2 (eV 1) (eC (.int 0)) dEq)) (tBl (e2 (eV 2) (eC (.int 0)) dEq))) (sAsg (eA (aCons (eC (.int 0)) (aCons (eC (.int 0)) (aNil))) oTup) (gTp 2 (gCo (gNm 1) (gCo (gNm 2) (gNi))))) (sNx) ⟨[some (.dat (.int p)), some (.dat (.int q)), some (.dat (.int e)), some (.dat (.int s)), none], spl0⟩ = st := fun _ _ => ⟨_, rfl⟩
      have hsg : ∀ q' : Int, (if 0 < s then gc p q' s else 0 - gc p q' s) = sgc p q' s := by
        intro q'
        unfold sgc
        by_cases z : 0 < s
        · rw [if_pos z, if_neg (by omega)]
        · rw [if_neg z, if_pos (by omega)]; omega
      have hc : ∀ q' : Int, decide (sgc p q' s ≠ 0 ∧ (sgc p q' s).natAbs.log2 < 9000) = true := fun q' => decide_eq_true (div_ok (sgc_ne h1) (Nat.lt_of_le_of_lt (sgc_le h1) h2))
      have hz : (0 : Int).fdiv (sgc p 0 s) = 0 := Int.zero_fdiv _
      clear main
      by_cases hq : q = 0 ∨ e = 0
      · rw [show lowL p q e s = _ from if_pos hq, show low p 0 0 s = _ from if_pos rfl]
        by_cases zq : q = 0
        · have z1 := beq_t zq
          unfold b_law_lowest nm
          by_cases z : 0 < s
          · have hs1 := hsg 0
            rw [if_pos z] at hs1
            have z' : decide (0 < s) = true := decide_eq_true z
            have hc0 := hc 0
            simp only [bodyP, bodyS, bodyR, sSeq, sIf, sNx, sRt, sRtX, sAsgX, sRs, eX, eJs, eJn, dFmt, sAsg, sDr, sPar, sAug, sSp, sOwn, sApp, lDs, eSp, eS, tBl, tTr, tAn, tOo, tNo, eC, eV, eA, eIf, eAn, eOo, eNo, e1, e2, eIxN, FD.peek, aCons, aNil, gNm, gTp, gLs, gCo, gNi, dI, dAddI, dMulI, dAdd, dSub, dMul, dFdiv, dMod, dNeg, dGcd, dMax, dMin, dAbs, dSq, dLen, dEq_int, dNe_int, dIx, oTup, oLst, truD, List.length_cons, List.length_nil, List.map_cons, List.map_nil, List.cons_append, List.nil_append, List.replicate_succ, List.replicate_zero, List.getElem?_cons_zero, List.getElem?_cons_succ, List.set_cons_succ, List.set_cons_zero, Nat.reduceAdd, Nat.reduceSub, Nat.sub_self, if_true, decide_true, decide_false, Bool.not_true, Bool.not_false, Bool.false_eq_true, if_false, reduceCtorEq, z1, hl2, c1, gcdZ_gc, z', hs1, hc0, hl, hz]
          · have hs1 := hsg 0
            rw [if_neg z] at hs1
            have z' : decide (0 < s) = false := decide_eq_false z
            have hc0 := hc 0
            simp only [bodyP, bodyS, bodyR, sSeq, sIf, sNx, sRt, sRtX, sAsgX, sRs, eX, eJs, eJn, dFmt, sAsg, sDr, sPar, sAug, sSp, sOwn, sApp, lDs, eSp, eS, tBl, tTr, tAn, tOo, tNo, eC, eV, eA, eIf, eAn, eOo, eNo, e1, e2, eIxN, FD.peek, aCons, aNil, gNm, gTp, gLs, gCo, gNi, dI, dAddI, dMulI, dAdd, dSub, dMul, dFdiv, dMod, dNeg, dGcd, dMax, dMin, dAbs, dSq, dLen, dEq_int, dNe_int, dIx, oTup, oLst, truD, List.length_cons, List.length_nil, List.map_cons, List.map_nil, List.cons_append, List.nil_append, List.replicate_succ, List.replicate_zero, List.getElem?_cons_zero, List.getElem?_cons_succ, List.set_cons_succ, List.set_cons_zero, Nat.reduceAdd, Nat.reduceSub, Nat.sub_self, if_true, decide_true, decide_false, Bool.not_true, Bool.not_false, Bool.false_eq_true, if_false, reduceCtorEq, z1, hl2, c1, gcdZ_gc, z', hs1, hc0, hl, hz]
        · have z1 := beq_f zq
          have z2 := beq_t (hq.resolve_left zq)
          unfold b_law_lowest nm
          by_cases z : 0 < s
          · have hs1 := hsg 0
            rw [if_pos z] at hs1
            have z' : decide (0 < s) = true := decide_eq_true z
            have hc0 := hc 0
            simp only [bodyP, bodyS, bodyR, sSeq, sIf, sNx, sRt, sRtX, sAsgX, sRs, eX, eJs, eJn, dFmt, sAsg, sDr, sPar, sAug, sSp, sOwn, sApp, lDs, eSp, eS, tBl, tTr, tAn, tOo, tNo, eC, eV, eA, eIf, eAn, eOo, eNo, e1, e2, eIxN, FD.peek, aCons, aNil, gNm, gTp, gLs, gCo, gNi, dI, dAddI, dMulI, dAdd, dSub, dMul, dFdiv, dMod, dNeg, dGcd, dMax, dMin, dAbs, dSq, dLen, dEq_int, dNe_int, dIx, oTup, oLst, truD, List.length_cons, List.length_nil, List.map_cons, List.map_nil, List.cons_append, List.nil_append, List.replicate_succ, List.replicate_zero, List.getElem?_cons_zero, List.getElem?_cons_succ, List.set_cons_succ, List.set_cons_zero, Nat.reduceAdd, Nat.reduceSub, Nat.sub_self, if_true, decide_true, decide_false, Bool.not_true, Bool.not_false, Bool.false_eq_true, if_false, reduceCtorEq, z1, z2, hl2, c1, gcdZ_gc, z', hs1, hc0, hl, hz]
          · have hs1 := hsg 0
            rw [if_neg z] at hs1
            have z' : decide (0 < s) = false := decide_eq_false z
            have hc0 := hc 0
            simp only [bodyP, bodyS, bodyR, sSeq, sIf, sNx, sRt, sRtX, sAsgX, sRs, eX, eJs, eJn, dFmt, sAsg, sDr, sPar, sAug, sSp, sOwn, sApp, lDs, eSp, eS, tBl, tTr, tAn, tOo, tNo, eC, eV, eA, eIf, eAn, eOo, eNo, e1, e2, eIxN, FD.peek, aCons, aNil, gNm, gTp, gLs, gCo, gNi, dI, dAddI, dMulI, dAdd, dSub, dMul, dFdiv, dMod, dNeg, dGcd, dMax, dMin, dAbs, dSq, dLen, dEq_int, dNe_int, dIx, oTup, oLst, truD, List.length_cons, List.length_nil, List.map_cons, List.map_nil, List.cons_append, List.nil_append, List.replicate_succ, List.replicate_zero, List.getElem?_cons_zero, List.getElem?_cons_succ, List.set_cons_succ, List.set_cons_zero, Nat.reduceAdd, Nat.reduceSub, Nat.sub_self, if_true, decide_true, decide_false, Bool.not_true, Bool.not_false, Bool.false_eq_true, if_false, reduceCtorEq, z1, z2, hl2, c1, gcdZ_gc, z', hs1, hc0, hl, hz]
      · have hq1 : q ≠ 0 := fun w => hq (.inl w)
        have hq2 : e ≠ 0 := fun w => hq (.inr w)
        rw [show lowL p q e s = _ from if_neg hq, show low p q e s = _ from if_neg hq1]
        have z1 := beq_f hq1
        have z2 := beq_f hq2
        unfold b_law_lowest nm
        by_cases z : 0 < s
        · have hs1 := hsg q
          rw [if_pos z] at hs1
          have z' : decide (0 < s) = true := decide_eq_true z
          have hc0 := hc q
          simp only [bodyP, bodyS, bodyR, sSeq, sIf, sNx, sRt, sRtX, sAsgX, sRs, eX, eJs, eJn, dFmt, sAsg, sDr, sPar, sAug, sSp, sOwn, sApp, lDs, eSp, eS, tBl, tTr, tAn, tOo, tNo, eC, eV, eA, eIf, eAn, eOo, eNo, e1, e2, eIxN, FD.peek, aCons, aNil, gNm, gTp, gLs, gCo, gNi, dI, dAddI, dMulI, dAdd, dSub, dMul, dFdiv, dMod, dNeg, dGcd, dMax, dMin, dAbs, dSq, dLen, dEq_int, dNe_int, dIx, oTup, oLst, truD, List.length_cons, List.length_nil, List.map_cons, List.map_nil, List.cons_append, List.nil_append, List.replicate_succ, List.replicate_zero, List.getElem?_cons_zero, List.getElem?_cons_succ, List.set_cons_succ, List.set_cons_zero, Nat.reduceAdd, Nat.reduceSub, Nat.sub_self, if_true, decide_true, decide_false, Bool.not_true, Bool.not_false, Bool.false_eq_true, if_false, reduceCtorEq, z1, z2, c1, gcdZ_gc, z', hs1, hc0, hl]
        · have hs1 := hsg q
          rw [if_neg z] at hs1
          have z' : decide (0 < s) = false := decide_eq_false z
          have hc0 := hc q
          simp only [bodyP, bodyS, bodyR, sSeq, sIf, sNx, sRt, sRtX, sAsgX, sRs, eX, eJs, eJn, dFmt, sAsg, sDr, sPar, sAug, sSp, sOwn, sApp, lDs, eSp, eS, tBl, tTr, tAn, tOo, tNo, eC, eV, eA, eIf, eAn, eOo, eNo, e1, e2, eIxN, FD.peek, aCons, aNil, gNm, gTp, gLs, gCo, gNi, dI, dAddI, dMulI, dAdd, dSub, dMul, dFdiv, dMod, dNeg, dGcd, dMax, dMin, dAbs, dSq, dLen, dEq_int, dNe_int, dIx, oTup, oLst, truD, List.length_cons, List.length_nil, List.map_cons, List.map_nil, List.cons_append, List.nil_append, List.replicate_succ, List.replicate_zero, List.getElem?_cons_zero, List.getElem?_cons_succ, List.set_cons_succ, List.set_cons_zero, Nat.reduceAdd, Nat.reduceSub, Nat.sub_self, if_true, decide_true, decide_false, Bool.not_true, Bool.not_false, Bool.false_eq_true, if_false, reduceCtorEq, z1, z2, c1, gcdZ_gc, z', hs1, hc0, hl]
    · cases h
  · cases h
def okQ (x y : Num) : Prop := x.2.2.1.natAbs < 2 ^ 40 ∧ y.2.2.1.natAbs < 2 ^ 40 ∧ x.2.2.2 ≠ 0 ∧ y.2.2.2 ≠ 0 ∧ SzN 4000 x ∧ SzN 4000 y
instance (x y : Num) : Decidable (okQ x y) := by unfold okQ SzN; exact inferInstance
/-! ## the law's own arithmetic -/
def addL (x y : Num) : Num := lowL (x.1 * y.2.2.2 + y.1 * x.2.2.2) (x.2.1 * y.2.2.2 + y.2.1 * x.2.2.2) (rootOf x.2.2.1 y.2.2.1) (x.2.2.2 * y.2.2.2)
def mulL (x y : Num) : Num := lowL (x.1 * y.1 + x.2.1 * y.2.1 * rootOf x.2.2.1 y.2.2.1) (x.1 * y.2.1 + x.2.1 * y.1) (rootOf x.2.2.1 y.2.2.1) (x.2.2.2 * y.2.2.2)
def invL (x : Num) : Num := lowL (x.1 * x.2.2.2) (0 - x.2.1 * x.2.2.2) x.2.2.1 (x.1 * x.1 - x.2.1 * x.2.1 * x.2.2.1)
theorem low_ok {p q d s : Int} (h : s ≠ 0) (h9 : s.natAbs < 2 ^ 8999) : m_law_lowest [.int p, .int q, .int d, .int s] = some (nm (lowL p q d s)) := if_pos ⟨h, h9⟩
def b_law_add : SF :=
  sSeq (sAsg (e2 (e2 (eIxN 0 (eC (.int 0))) (eIxN 1 (eC (.int 3))) dMul) (e2 (eIxN 1 (eC (.int 0))) (eIxN 0 (eC (.int 3))) dMul) dAdd) (gNm 2))
  (sSeq (sAsg (e2 (e2 (eIxN 0 (eC (.int 1))) (eIxN 1 (eC (.int 3))) dMul) (e2 (eIxN 1 (eC (.int 1))) (eIxN 0 (eC (.int 3))) dMul) dAdd) (gNm 3))
  (sRt (eA (aCons (eV 2) (aCons (eV 3) (aCons (eA (aCons (eIxN 0 (eC (.int 2))) (aCons (eIxN 1 (eC (.int 2))) (aNil))) dMax) (aCons (e2 (eIxN 0 (eC (.int 3))) (eIxN 1 (eC (.int 3))) dMul) (aNil))))) m_law_lowest)))
def m_law_add : List DV → Option DV
  | [.tup [.int p, .int q, .int d, .int s], .tup [.int p', .int q', .int d', .int s']] => if okQ (p, q, d, s) (p', q', d', s') then some (nm (addL (p, q, d, s) (p', q', d', s'))) else none
  | _ => none
theorem t_law_add : ∀ ds d, m_law_add ds = some d → bodyP 2 4 b_law_add ds = some d := by
  intro ds d h
  unfold m_law_add at h
  split at h
  · rename_i p q e s p' q' e' s'
    split at h
    · rename_i ok
      obtain ⟨hd, hd', hs, hs', ⟨z1, z2, z3, z4⟩, z5, z6, z7, z8⟩ := ok
      cases h
      have i0 : atI [DV.int p, .int q, .int e, .int s] 0 = some (.int p) := rfl
      have i1 : atI [DV.int p, .int q, .int e, .int s] 1 = some (.int q) := rfl
      have i2 : atI [DV.int p, .int q, .int e, .int s] 2 = some (.int e) := rfl
      have i3 : atI [DV.int p, .int q, .int e, .int s] 3 = some (.int s) := rfl
      have j0 : atI [DV.int p', .int q', .int e', .int s'] 0 = some (.int p') := rfl
      have j1 : atI [DV.int p', .int q', .int e', .int s'] 1 = some (.int q') := rfl
      have j2 : atI [DV.int p', .int q', .int e', .int s'] 2 = some (.int e') := rfl
      have j3 : atI [DV.int p', .int q', .int e', .int s'] 3 = some (.int s') := rfl
      have f1 := fit_of z1 z8
      have f2 := fit_of z5 z4
      have f3 := fit_of z2 z8
      have f4 := fit_of z6 z4
      have f5 := fit_of z4 z8
      have c2 := low_ok (p := p * s' + p' * s) (q := q * s' + q' * s) (d := rootOf e e') (Int.mul_ne_zero hs hs') (lt_up (mul_lt z4 z8))
      clear hd hd' hs hs' z1 z2 z3 z4 z5 z6 z7 z8
      unfold rootOf at c2
      unfold b_law_add addL rootOf
      walk_at "fd"
    · cases h
  · cases h
def b_law_negative : SF :=
  sRt (eA (aCons (e2 (eC (.int 0)) (eIxN 0 (eC (.int 0))) dSub) (aCons (e2 (eC (.int 0)) (eIxN 0 (eC (.int 1))) dSub) (aCons (eIxN 0 (eC (.int 2))) (aCons (eIxN 0 (eC (.int 3))) (aNil))))) oTup)
def m_law_negative : List DV → Option DV
  | [.tup [.int p, .int q, .int d, .int s]] => some (nm (0 - p, 0 - q, d, s))
  | _ => none
theorem t_law_negative : ∀ ds d, m_law_negative ds = some d → bodyP 1 1 b_law_negative ds = some d := by
  intro ds d h
  unfold m_law_negative at h
  split at h
  · rename_i p q e s
    cases h
    have h4 := four_le
    have i0 : atI [DV.int p, .int q, .int e, .int s] 0 = some (.int p) := rfl
    have i1 : atI [DV.int p, .int q, .int e, .int s] 1 = some (.int q) := rfl
    have i2 : atI [DV.int p, .int q, .int e, .int s] 2 = some (.int e) := rfl
    have i3 : atI [DV.int p, .int q, .int e, .int s] 3 = some (.int s) := rfl
    unfold b_law_negative nm
    walk_at "fd"
  · cases h
end T4

set_option maxRecDepth 100000
set_option maxHeartbeats 4000000
set_option exponentiation.threshold 20000
namespace T4
open PySem L2 FD
local macro_rules | `(tactic| walk_at "fd") => `(tactic| simp only [bodyP, bodyS, bodyR, sSeq, sIf, sNx, sRt, sRtX, sAsgX, sRs, eX, eJs, eJn, dFmt, sAsg, sDr, sPar, sAug, sSp, sOwn, sApp, lDs, eSp, eS, tBl, tTr, tAn, tOo, tNo, eC, eV, eA, eIf, eAn, eOo, eNo, e1, e2, eIxN, FD.peek, aCons, aNil, gNm, gTp, gLs, gCo, gNi, dI, dAddI, dMulI, dAdd, dSub, dMul, dFdiv, dMod, dNeg, dGcd, dMax, dMin, dAbs, dSq, dLen, dEq_int, dNe_int, dIx, oTup, oLst, truD, List.length_cons, List.length_nil, List.map_cons, List.map_nil, List.cons_append, List.nil_append, List.replicate_succ, List.replicate_zero, List.getElem?_cons_zero, List.getElem?_cons_succ, List.set_cons_succ, List.set_cons_zero, Nat.reduceAdd, Nat.reduceSub, Nat.sub_self, if_true, decide_true, decide_false, Bool.not_true, Bool.not_false, Bool.false_eq_true, if_false, reduceCtorEq, *])
/-! ## the spool -/
def Md : Int := 1180591620717411303449
def stirStep (place v turn : Int) : Int := (v * v + 3 * v + 32452843 * turn + place).fmod Md
def stir0 (cell place : Int) : Int := (cell * 2685821657736338717 + place * 2891336453 + 19).fmod Md
def stirV (cell place : Int) : Int := stirStep place (stirStep place (stirStep place (stirStep place (stir0 cell place) 0) 1) 2) 3
def stir (cell place : Int) : Int := stirV cell place * Md + (stirV cell place * 1103515245 + place).fmod Md
theorem fmod_sz (a : Int) : (a.fmod Md).natAbs < 2 ^ 71 := by
  have h1 := Int.fmod_nonneg_of_pos a (show (0 : Int) < Md by decide)
  have h2 := Int.fmod_lt_of_pos a (show (0 : Int) < Md by decide)
  have h3 : Md < 2 ^ 71 := by decide
  omega
theorem md_ne : (Md ≠ 0) = True := by decide
def b_law_stirred : SF :=
  sSeq (sAsg (eC (.int 1180591620717411303449)) (gNm 2))
  (sSeq (sAsg (e2 (e2 (e2 (e2 (eV 0) (eC (.int 2685821657736338717)) dMul) (e2 (eV 1) (eC (.int 2891336453)) dMul) dAdd) (eC (.int 19)) dAdd) (eV 2) dMod) (gNm 3))
  (sSeq (sFr (iRg1 (aCons (eC (.int 4)) (aNil))) (gNm 4) (sAsg (e2 (e2 (e2 (e2 (e2 (eV 3) (eV 3) dMul) (e2 (eC (.int 3)) (eV 3) dMul) dAdd) (e2 (eC (.int 32452843)) (eV 4) dMul) dAdd) (eV 1) dAdd) (eV 2) dMod) (gNm 3)))
  (sRt (e2 (e2 (eV 3) (eV 2) dMul) (e2 (e2 (e2 (eV 3) (eC (.int 1103515245)) dMul) (eV 1) dAdd) (eV 2) dMod) dAdd))))
def m_law_stirred : List DV → Option DV
  | [.int c, .int p] => if Sz 100 c ∧ Sz 100 p then some (.int (stir c p)) else none
  | _ => none
theorem t_law_stirred : ∀ ds d, m_law_stirred ds = some d → bodyP 2 5 b_law_stirred ds = some d := by
  intro ds d h
  unfold m_law_stirred at h
  split at h
  · rename_i c p
    split at h
    · rename_i ok
      obtain ⟨z1, z2⟩ := ok
      cases h
      have f1 : fitM c 2685821657736338717 = true := fit_of z1 (show Int.natAbs 2685821657736338717 < 2 ^ 100 by decide)
      have f2 : fitM p 2891336453 = true := fit_of z2 (show Int.natAbs 2891336453 < 2 ^ 100 by decide)
      have step : ∀ v turn : Int, v.natAbs < 2 ^ 71 → turn.natAbs < 2 ^ 10 → fitM v v = true ∧ fitM 3 v = true ∧ fitM 32452843 turn = true := fun v t h1 h2 =>
        ⟨fit_of h1 h1, fit_of (show Int.natAbs 3 < 2 ^ 100 by decide) h1, fit_of (show Int.natAbs 32452843 < 2 ^ 100 by decide) h2⟩
      have g0 := fmod_sz (c * 2685821657736338717 + p * 2891336453 + 19)
      have g1 := fun v t => fmod_sz (v * v + 3 * v + 32452843 * t + p)
      obtain ⟨a0, b0, d0⟩ := step (stir0 c p) 0 g0 (by decide)
      obtain ⟨a1, b1, d1⟩ := step (stirStep p (stir0 c p) 0) 1 (g1 _ _) (by decide)
      obtain ⟨a2, b2, d2⟩ := step (stirStep p (stirStep p (stir0 c p) 0) 1) 2 (g1 _ _) (by decide)
      obtain ⟨a3, b3, d3⟩ := step (stirStep p (stirStep p (stirStep p (stir0 c p) 0) 1) 2) 3 (g1 _ _) (by decide)
      have hv : (stirV c p).natAbs < 2 ^ 71 := g1 _ _
      have f3 : fitM (stirV c p) Md = true := fit_of hv (show Int.natAbs Md < 2 ^ 100 by decide)
      have f3' : fitM (stirV c p) 1180591620717411303449 = true := f3
      have f4 : fitM (stirV c p) 1103515245 = true := fit_of hv (show Int.natAbs 1103515245 < 2 ^ 100 by decide)
      have hm : decide ((1180591620717411303449 : Int) ≠ 0) = true := rfl
      have hr : inR 4 = true := rfl
      clear z1 z2 step g0 g1 hv
      have e0 : (c * 2685821657736338717 + p * 2891336453 + 19).fmod 1180591620717411303449 = stir0 c p := rfl
      have es : ∀ v t : Int, (v * v + 3 * v + 32452843 * t + p).fmod 1180591620717411303449 = stirStep p v t := fun _ _ => rfl
      have ev : stirStep p (stirStep p (stirStep p (stirStep p (stir0 c p) 0) 1) 2) 3 = stirV c p := rfl
      have eM : (1180591620717411303449 : Int) = Md := rfl
      have rg : rngD 0 (Int.toNat 4) = [.int 0, .int 1, .int 2, .int 3] := rfl
      unfold b_law_stirred stir
      simp only [bodyP, sSeq, sAsg, sFr, sRt, iRg1, eC, eV, e2, aCons, aNil, gNm, dAdd, dMul, dMod, List.length_cons, List.length_nil, List.map_cons, List.map_nil, List.cons_append, List.nil_append, List.replicate_succ, List.replicate_zero, List.getElem?_cons_zero, List.getElem?_cons_succ, List.set_cons_succ, List.set_cons_zero, Nat.reduceAdd, Nat.reduceSub, if_true, f1, f2, hm, hr, e0, rg, frN, a0, b0, d0, es, a1, b1, d1, a2, b2, d2, a3, b3, d3, ev, f3', f4]
      rfl
    · cases h
  · cases h
def okN (ns : List Int) : Prop := True
theorem lay_ints : ∀ ns : List Int, PyData.canLayAll0 (ns.map PyData.int) = true ∧ PyData.depthAll (ns.map PyData.int) ≤ 0
  | [] => ⟨rfl, Nat.le_refl _⟩
  | n :: ns => ⟨by
      show (true && PyData.canLayAll0 (ns.map PyData.int)) = true
      rw [(lay_ints ns).1]; rfl, by
      show max (PyData.depth (.int n)) (PyData.depthAll (ns.map PyData.int)) ≤ 0
      have := (lay_ints ns).2
      have h2 : PyData.depth (.int n) = 0 := rfl
      omega⟩
theorem toPyL_ints : ∀ ns : List Int, toPyL (ns.map DV.int) = some (ns.map PyData.int)
  | [] => rfl
  | n :: ns => by
    show (match toPy (.int n) with
      | some x => match toPyL (ns.map DV.int) with
        | some r => some (x :: r)
        | none => none
      | none => none) = _
    rw [toPyL_ints ns]
    rfl
theorem shaped_ints (ns : List Int) : SeqAt.shaped (.list (ns.map PyData.int)) = true := by
  obtain ⟨h1, h2⟩ := lay_ints ns
  unfold SeqAt.shaped
  have e1 : PyData.canLay0 (.list (ns.map PyData.int)) = true := h1
  have e2 : PyData.depth (.list (ns.map PyData.int)) = PyData.depthAll (ns.map PyData.int) + 1 := rfl
  rw [e1, e2, decide_eq_true (by omega)]
  rfl
theorem dNe_nil (ns : List Int) : dNe (.lst (ns.map DV.int)) (.lst []) = some (.bl (!ns.isEmpty)) := by
  unfold dNe
  have e1 : toPy (.lst (ns.map DV.int)) = some (.list (ns.map PyData.int)) := by
    show (toPyL (ns.map DV.int)).map PyData.list = _
    rw [toPyL_ints]
    rfl
  have e2 : toPy (.lst []) = some (.list []) := rfl
  rw [e1, e2]
  dsimp only
  rw [shaped_ints]
  cases ns <;> rfl
def cell0 (s : Spl) : Int := if s.nums = [] then 0 else (s.nums[(s.place.fmod (s.nums.length : Int)).toNat]?).getD 0
def cell1 (s : Spl) : Int := if (s.nums.length : Int) ≤ s.place ∨ cell0 s < 10 ^ 15 then stir ((cell0 s).fmod 998244353) s.place else cell0 s
def turnS (s : Spl) (b : Int) : Spl := if s.size < b then ⟨s.nums, s.place + 1, cell1 s, cell1 s⟩ else s
def upV (s : Spl) (b : Int) : Int := (turnS s b).cell.fmod b
def upS (s : Spl) (b : Int) : Spl := ⟨(turnS s b).nums, (turnS s b).place, (turnS s b).cell.fdiv b, (turnS s b).size.fdiv b⟩
def okB (s : Spl) (b : Int) : Prop := 0 < b ∧ b.natAbs < 2 ^ 8999 ∧ Sz 90 s.place
instance (s : Spl) (b : Int) : Decidable (okB s b) := by unfold okB; exact inferInstance
theorem upV_lt {s : Spl} {b : Int} (h : 0 < b) : 0 ≤ upV s b ∧ upV s b < b := ⟨Int.fmod_nonneg_of_pos _ h, Int.fmod_lt_of_pos _ h⟩
theorem upS_place {s : Spl} {b : Int} : (upS s b).place = s.place ∨ (upS s b).place = s.place + 1 := by
  unfold upS turnS
  dsimp only
  split
  · exact .inr rfl
  · exact .inl rfl
def b_law_upto : SF :=
  sSeq (sIf (tBl (e2 (eSp 0 3) (eV 1) dLt)) (sSeq (sPar 2 3 (aCons (eSp 0 0) (aCons (eSp 0 1) (aNil))))
  (sSeq (sAsg (eIf (tBl (e2 (eV 2) (eA (aNil) oLst) dNe)) (eIxN 2 (e2 (eV 3) (eA (aCons (eV 2) (aNil)) dLen) dMod)) (eC (.int 0))) (gNm 4))
  (sSeq (sIf (tOo (tBl (e2 (eV 3) (eA (aCons (eV 2) (aNil)) dLen) dGe)) (tBl (e2 (eV 4) (e2 (eC (.int 10)) (eC (.int 15)) dPow) dLt))) (sAsg (eA (aCons (e2 (eV 4) (eC (.int 998244353)) dMod) (aCons (eV 3) (aNil))) m_law_stirred) (gNm 4)) (sNx))
  (sSeq (sSp 0 1 (e2 (eV 3) (eC (.int 1)) dAdd))
  (sSeq (sSp 0 2 (eV 4))
  (sSp 0 3 (eV 4))))))) (sNx))
  (sSeq (sAsg (e2 (eSp 0 2) (eV 1) dMod) (gNm 5))
  (sSeq (sSp 0 2 (e2 (eSp 0 2) (eV 1) dFdiv))
  (sSeq (sSp 0 3 (e2 (eSp 0 3) (eV 1) dFdiv))
  (sRt (eV 5)))))
def m_law_upto : List DV → Spl → Option (DV × Spl)
  | [.int b], s => if okB s b then some (.int (upV s b), upS s b) else none
  | _, _ => none
theorem t_law_upto : ∀ ds s d, m_law_upto ds s = some d → bodyS 2 6 b_law_upto ds s = some d := by
  intro ds s d h
  unfold m_law_upto at h
  split at h
  · rename_i b
    split at h
    · rename_i ok
      obtain ⟨hb, hb9, hp⟩ := ok
      cases h
      have hd : decide (b ≠ 0 ∧ b.natAbs.log2 < 9000) = true := decide_eq_true (div_ok (by omega) hb9)
      have hm : decide (b ≠ 0) = true := decide_eq_true (by omega)
      obtain ⟨nums, place, cell, size⟩ := s
      have hp' : place.natAbs < 2 ^ 90 := hp
      have hpow : decide (0 ≤ (15 : Int) ∧ (15 : Int) ≤ 1000000 ∧ (10 : Int).natAbs < 2 ^ 64) = true := rfl
      have epow : (10 : Int) ^ (Int.toNat 15) = 10 ^ 15 := rfl
      have c1 : ∀ c : Int, m_law_stirred [.int (c.fmod 998244353), .int place] = some (.int (stir (c.fmod 998244353) place)) := fun c => by
        refine if_pos ⟨?_, lt_up hp'⟩
        have h1 := Int.fmod_nonneg_of_pos c (show (0 : Int) < 998244353 by decide)
        have h2 := Int.fmod_lt_of_pos c (show (0 : Int) < 998244353 by decide)
        show (c.fmod 998244353).natAbs < 2 ^ 100
        have h3 : (998244353 : Int) < 2 ^ 100 := by decide
        omega
      have h9 : decide ((998244353 : Int) ≠ 0) = true := rfl
      clear hb9 hp hp'
      unfold upV upS turnS
      by_cases h1 : size < b
      · have hcell : ∀ sl : List (Option SV), sl[2]? = some (some (.dat (.lst (nums.map .int)))) → sl[3]? = some (some (.dat (.int place))) → ∀ sp : Spl,
            eIf (tBl (e2 (eV 2) (eA (aNil) oLst) dNe)) (eIxN 2 (e2 (eV 3) (eA (aCons (eV 2) (aNil)) dLen) dMod)) (eC (.int 0)) ⟨sl, sp⟩ = some (.int (cell0 ⟨nums, place, cell, size⟩), ⟨sl, sp⟩) := by
          intro sl h2 h3 sp
          have h0 : (0 : Nat) ≤ sizeLine := Nat.zero_le _
          cases nums with
          | nil =>
            have e := dNe_nil []
            rw [List.map_nil] at e h2
            simp only [eIf, tBl, e2, eV, h2, eA, aNil, oLst, List.length_nil, h0, if_true, e, List.isEmpty_nil, Bool.not_true, eC]
            first | done | rfl
          | cons n ns =>
            have e := dNe_nil (n :: ns)
            have hl : (0 : Int) < ((n :: ns).map DV.int).length := by simp
            have hl2 : decide ((((n :: ns).map DV.int).length : Int) ≠ 0) = true := decide_eq_true (by omega)
            have k1 := Int.fmod_nonneg_of_pos place hl
            have k2 := Int.fmod_lt_of_pos place hl
            have ex : atI ((n :: ns).map DV.int) (place.fmod (((n :: ns).map DV.int).length : Int)) = some (.int (cell0 ⟨n :: ns, place, cell, size⟩)) := by
              unfold atI ixN
              rw [if_pos k1, if_pos k2]
              show ((n :: ns).map DV.int)[_]? = _
              have k3 : (place.fmod (((n :: ns).map DV.int).length : Int)).toNat < (n :: ns).length := by
                rw [List.length_map] at k2 k1 ⊢
                omega
              have k4 : cell0 ⟨n :: ns, place, cell, size⟩ = ((n :: ns)[(place.fmod ((n :: ns).length : Int)).toNat]?).getD 0 := if_neg (fun z => nomatch z)
              rw [List.length_map] at k3 ⊢
              rw [k4, List.getElem?_map, List.getElem?_eq_getElem k3]
              rfl
            simp only [eIf, tBl, e2, eV, h2, h3, eA, aNil, aCons, oLst, List.length_nil, h0, if_true, e, List.isEmpty_cons, Bool.not_false, eIxN, FD.peek, dLen, dMod, hl2, dIx, ex]
        have hlen : ((nums.map DV.int).length : Int) = (nums.length : Int) := by rw [List.length_map]
        unfold b_law_upto
        simp only [h1, if_true]
        have hc := hcell [some .spl, some (.dat (.int b)), some (.dat (.lst (nums.map .int))), some (.dat (.int place)), none, none] rfl rfl ⟨nums, place, cell, size⟩
        clear hcell
        have hc1 : cell1 ⟨nums, place, cell, size⟩ = if (nums.length : Int) ≤ place ∨ cell0 ⟨nums, place, cell, size⟩ < 10 ^ 15 then stir ((cell0 ⟨nums, place, cell, size⟩).fmod 998244353) place else cell0 ⟨nums, place, cell, size⟩ := rfl
        generalize cell0 ⟨nums, place, cell, size⟩ = c0 at hc hc1
        generalize cell1 ⟨nums, place, cell, size⟩ = r at hc1 ⊢
        by_cases h2 : (nums.length : Int) ≤ place
        · rw [if_pos (.inl h2)] at hc1
          have h2' : decide ((nums.length : Int) ≤ place) = true := decide_eq_true h2
          clear h2
          subst hc1
          simp only [bodyS, sSeq, sIf, sNx, sRt, sAsg, tBl, tOo, eA, e2, eSp, sSp, eV, eC, dI, sPar, aCons, aNil, gNm, dGe, dLt, dPow, dMod, dFdiv, dLen, dAdd, List.length_cons, List.length_nil, List.map_cons, List.map_nil, List.cons_append, List.nil_append, List.replicate_succ, List.replicate_zero, List.getElem?_cons_zero, List.getElem?_cons_succ, List.set_cons_succ, List.set_cons_zero, Nat.reduceAdd, Nat.reduceSub, if_true, decide_true, decide_false, reduceIte, Int.reduceEq, h1, hc, hlen, h2', h9, c1, hm, hd]
        · by_cases h3 : c0 < 10 ^ 15
          · rw [if_pos (.inr h3)] at hc1
            have h2' : decide ((nums.length : Int) ≤ place) = false := decide_eq_false h2
            have h3' : decide (c0 < (10 : Int) ^ (Int.toNat 15)) = true := decide_eq_true h3
            clear h2 h3
            subst hc1
            simp only [bodyS, sSeq, sIf, sNx, sRt, sAsg, tBl, tOo, eA, e2, eSp, sSp, eV, eC, dI, sPar, aCons, aNil, gNm, dGe, dLt, dPow, dMod, dFdiv, dLen, dAdd, List.length_cons, List.length_nil, List.map_cons, List.map_nil, List.cons_append, List.nil_append, List.replicate_succ, List.replicate_zero, List.getElem?_cons_zero, List.getElem?_cons_succ, List.set_cons_succ, List.set_cons_zero, Nat.reduceAdd, Nat.reduceSub, if_true, decide_true, decide_false, reduceIte, Int.reduceEq, h1, hc, hlen, h2', h3', hpow, h9, c1, hm, hd]
          · rw [if_neg (fun z => z.elim h2 h3)] at hc1
            have h2' : decide ((nums.length : Int) ≤ place) = false := decide_eq_false h2
            have h3' : decide (c0 < (10 : Int) ^ (Int.toNat 15)) = false := decide_eq_false h3
            clear h2 h3
            subst hc1
            simp only [bodyS, sSeq, sIf, sNx, sRt, sAsg, tBl, tOo, eA, e2, eSp, sSp, eV, eC, dI, sPar, aCons, aNil, gNm, dGe, dLt, dPow, dMod, dFdiv, dLen, dAdd, List.length_cons, List.length_nil, List.map_cons, List.map_nil, List.cons_append, List.nil_append, List.replicate_succ, List.replicate_zero, List.getElem?_cons_zero, List.getElem?_cons_succ, List.set_cons_succ, List.set_cons_zero, Nat.reduceAdd, Nat.reduceSub, if_true, decide_true, decide_false, reduceIte, Int.reduceEq, h1, hc, hlen, h2', h3', hpow, h9, c1, hm, hd]
      · unfold b_law_upto
        have h1' : decide (size < b) = false := decide_eq_false h1
        simp only [h1, if_false]
        clear h1
        simp only [bodyS, sSeq, sIf, sNx, sRt, sAsg, tBl, tOo, eA, e2, eSp, sSp, eV, eC, dI, sPar, aCons, aNil, gNm, dGe, dLt, dPow, dMod, dFdiv, dLen, dAdd, List.length_cons, List.length_nil, List.map_cons, List.map_nil, List.cons_append, List.nil_append, List.replicate_succ, List.replicate_zero, List.getElem?_cons_zero, List.getElem?_cons_succ, List.set_cons_succ, List.set_cons_zero, Nat.reduceAdd, Nat.reduceSub, if_true, decide_true, decide_false, reduceIte, Int.reduceEq, h1', hm, hd]
    · cases h
  · cases h
def b_law_choice : SF :=
  sRt (eIxN 1 (eS 0 (aCons (eA (aCons (eV 1) (aNil)) dLen) (aNil)) m_law_upto))
def m_law_choice : List DV → Spl → Option (DV × Spl)
  | [.lst ds], s => if okB s (ds.length : Int) then (ds[(upV s (ds.length : Int)).toNat]?).map fun d => (d, upS s (ds.length : Int)) else none
  | _, _ => none
theorem t_law_choice : ∀ ds s d, m_law_choice ds s = some d → bodyS 2 2 b_law_choice ds s = some d := by
  intro ds s d h
  unfold m_law_choice at h
  split at h
  · rename_i ds
    split at h
    · rename_i ok
      have c1 : m_law_upto [.int (ds.length : Int)] s = some (.int (upV s (ds.length : Int)), upS s (ds.length : Int)) := if_pos ok
      have b1 := upV_lt (s := s) ok.1
      obtain ⟨e, e1', e2'⟩ := Option.map_eq_some_iff.mp h
      have c2 : atI ds (upV s (ds.length : Int)) = some e := by
        unfold atI ixN
        rw [if_pos b1.1, if_pos b1.2]
        exact e1'
      clear ok b1 h e1'
      subst e2'
      unfold b_law_choice
      walk_at "fd"
    · cases h
  · cases h
/-! ## the spool made -/
def absZ (n : Int) : Int := if n < 0 then -n else n
def addAt (l : List Int) (i : Nat) (c : Int) : List Int := l.set (i % 16) ((l[i % 16]?).getD 0 + absZ c)
def foldN : Nat → List Int → List Int → List Int
  | _, [], l => l
  | i, c :: cs, l => foldN (i + 1) cs (addAt l i c)
def sfN (ns : List Int) : List Int := foldN 0 ((ns.drop 16).take 48) ((ns.take 16).map absZ)
def sf (ns : List Int) : Option (List Int) := if ns.length ≤ 63 then some (sfN ns) else none
def b1_law_spool_of : SF :=
  sOwn 2 (lCp (iVal (eSlN 0 (oNo) (oSo (eC (.int 16))))) 1 (tY) (eA (aCons (eV 1) (aNil)) dAbs))
def b2_law_spool_of : SF :=
  sFr (iEn (eSlN 0 (oSo (eC (.int 16))) (oSo (eC (.int 64))))) (gTp 2 (gCo (gNm 3) (gCo (gNm 1) (gNi)))) (sPut 2 (e2 (eIxN 2 (e2 (eV 3) (eC (.int 16)) dMod)) (eA (aCons (eV 1) (aNil)) dAbs) dAdd) (e2 (eV 3) (eC (.int 16)) dMod))
def b3_law_spool_of : LF := lDs (aCons (eV 2) (aCons (eC (.int 0)) (aCons (eC (.int 0)) (aCons (eC (.int 0)) (aNil)))))
def mN_law_spool_of : List DV → Option (List DV)
  | [.scr ns] => (sf ns).map fun nums => [.lst (nums.map .int), .int 0, .int 0, .int 0]
  | _ => none
theorem cp_abs : ∀ (ns : List Int) (sl : List (Option SV)) (sp : Spl) (acc : List DV), 1 < sl.length → acc.length + ns.length ≤ 63 →
    cpN (ns.map DV.int) 1 tY (eA (aCons (eV 1) aNil) dAbs) ⟨sl.set 1 none, sp⟩ acc = some (acc ++ (ns.map absZ).map DV.int, ⟨sl.set 1 none, sp⟩)
  | [], sl, sp, acc, _, _ => by simp [cpN]
  | n :: ns, sl, sp, acc, h, hl => by
    have h1 : ((sl.set 1 none).set 1 (some (SV.dat (.int n))))[1]? = some (some (SV.dat (.int n))) := by
      rw [List.getElem?_set_self (by simpa using h)]
    have h2 : acc.length < sizeLine := Nat.lt_of_lt_of_le (m := 64) (by simp at hl; omega) (by decide)
    have h3 := cp_abs ns sl sp (acc ++ [.int (absZ n)]) h (by simp at hl ⊢; omega)
    have h4 : (if n < 0 then -n else n) = absZ n := rfl
    rw [List.set_set] at h1
    simp only [List.map_cons, cpN, tY, eA, aCons, aNil, eV, h1, List.set_set, dAbs, h2, if_true, h4]
    rw [h3]
    simp
theorem fr_add {it : SF} (hit : it = sPut 2 (e2 (eIxN 2 (e2 (eV 3) (eC (.int 16)) dMod)) (eA (aCons (eV 1) (aNil)) dAbs) dAdd) (e2 (eV 3) (eC (.int 16)) dMod)) : ∀ (cs : List Int) (i : Nat) (l : List Int) (x y z : Option SV) (sp : Spl), l.length = 16 →
    ∃ x' y', frN (enD i (cs.map DV.int)) (gTp 2 (gCo (gNm 3) (gCo (gNm 1) (gNi)))) it ⟨[z, x, some (.own (l.map .int)), y], sp⟩ = some (.nx ⟨[z, x', some (.own ((foldN i cs l).map .int)), y'], sp⟩)
  | [], i, l, x, y, z, sp, _ => ⟨x, y, rfl⟩
  | c :: cs, i, l, x, y, z, sp, hl => by
    obtain ⟨x', y', e⟩ := fr_add hit cs (i + 1) (addAt l i c) (some (.dat (.int c))) (some (.dat (.int (i : Int)))) z sp (by unfold addAt; rw [List.length_set]; exact hl)
    refine ⟨x', y', ?_⟩
    show frN (.tup [.int (i : Int), .int c] :: enD (i + 1) (cs.map DV.int)) _ _ _ = some (.nx ⟨[z, x', some (.own ((foldN (i + 1) cs (addAt l i c)).map .int)), y'], sp⟩)
    have hk : (i : Int).fmod 16 = ((i % 16 : Nat) : Int) := by rw [Int.fmod_eq_emod_of_nonneg _ (by decide)]; rfl
    have hd : decide ((16 : Int) ≠ 0) = true := rfl
    have hb : (0 : Int) ≤ ((i % 16 : Nat) : Int) := by omega
    have hc : ((i % 16 : Nat) : Int) < ((l.map DV.int).length : Int) := by rw [List.length_map, hl]; omega
    have hi : ixN (l.map DV.int).length ((i % 16 : Nat) : Int) = some (i % 16) := by
      unfold ixN
      rw [if_pos hb, if_pos hc]
      rfl
    have hlt : i % 16 < l.length := by omega
    have hat : atI (l.map DV.int) ((i % 16 : Nat) : Int) = some (.int ((l[i % 16]?).getD 0)) := by
      unfold atI
      rw [hi]
      show (l.map DV.int)[i % 16]? = _
      rw [List.getElem?_map, List.getElem?_eq_getElem hlt]
      rfl
    have hs : (l.map DV.int).set (i % 16) (.int ((l[i % 16]?).getD 0 + absZ c)) = (addAt l i c).map DV.int := by
      unfold addAt
      rw [List.map_set]
    have ha : (if c < 0 then -c else c) = absZ c := rfl
    simp only [frN, gTp, gCo, gNm, gNi, List.length_cons, List.length_nil, Nat.reduceAdd, if_true, List.set_cons_succ, List.set_cons_zero]
    rw [hit] at e ⊢
    simp only [sPut, e2, eIxN, FD.peek, eV, eC, eA, aCons, aNil, dAbs, dMod, dAdd, dIx, hk, hd, hat, hi, hs, ha, List.getElem?_cons_zero, List.getElem?_cons_succ, if_true, List.set_cons_succ, List.set_cons_zero, e]
theorem cut_lo (ns : List Int) : cutD (ns.map DV.int) none (some 16) = (ns.take 16).map DV.int := by
  unfold cutD
  have e1 : HT.sIx (ns.map DV.int).length 0 none = 0 := rfl
  have e2 : HT.sIx (ns.map DV.int).length (ns.map DV.int).length (some 16) = min 16 ns.length := by
    show min 16 (ns.map DV.int).length = _
    rw [List.length_map]
  rw [e1, e2, List.drop_zero, Nat.sub_zero, List.map_take]
  by_cases h : ns.length ≤ 16
  · rw [Nat.min_eq_right h, List.take_of_length_le (by simp), List.take_of_length_le (by simpa using h)]
  · rw [Nat.min_eq_left (by omega)]
theorem cut_hi (ns : List Int) : cutD (ns.map DV.int) (some 16) (some 64) = ((ns.drop 16).take 48).map DV.int := by
  unfold cutD
  have e1 : HT.sIx (ns.map DV.int).length 0 (some 16) = min 16 ns.length := by
    show min 16 (ns.map DV.int).length = _
    rw [List.length_map]
  have e2 : HT.sIx (ns.map DV.int).length (ns.map DV.int).length (some 64) = min 64 ns.length := by
    show min 64 (ns.map DV.int).length = _
    rw [List.length_map]
  rw [e1, e2, List.map_take, List.map_drop]
  by_cases h : ns.length ≤ 16
  · rw [Nat.min_eq_right h, List.drop_of_length_le (by simp), List.drop_of_length_le (by simpa using h)]
    simp
  · rw [show min 16 ns.length = 16 by omega]
    by_cases h2 : ns.length ≤ 64
    · rw [Nat.min_eq_right h2, List.take_of_length_le (by simp), List.take_of_length_le (by simp; omega)]
    · rw [show min 64 ns.length = 64 by omega]
theorem n_law_spool_of : ∀ ds es, mN_law_spool_of ds = some es → bodyN 1 4 b1_law_spool_of b2_law_spool_of b3_law_spool_of ds = some es := by
  intro ds es h
  unfold mN_law_spool_of at h
  split at h
  · rename_i ns
    unfold sf at h
    split at h
    · rename_i hl
      cases h
      have h1 := cp_abs (ns.take 16) [some (.dat (.scr ns)), none, none, none] spl0 [] (by simp) (by simp; omega)
      rw [List.nil_append] at h1
      have q1 : dSl (.scr ns) none (some 16) = some (.lst ((ns.take 16).map DV.int)) := by
        show some (DV.lst (cutD (ns.map DV.int) none (some 16))) = _
        rw [cut_lo]
      have q2 : dSl (.scr ns) (some 16) (some 64) = some (.lst (((ns.drop 16).take 48).map DV.int)) := by
        show some (DV.lst (cutD (ns.map DV.int) (some 16) (some 64))) = _
        rw [cut_hi]
      have h2 : ∃ x' y', frN (enD 0 (((ns.drop 16).take 48).map DV.int)) (gTp 2 (gCo (gNm 3) (gCo (gNm 1) (gNi)))) (sPut 2 (e2 (eIxN 2 (e2 (eV 3) (eC (.int 16)) dMod)) (eA (aCons (eV 1) (aNil)) dAbs) dAdd) (e2 (eV 3) (eC (.int 16)) dMod)) ⟨[some (.dat (.scr ns)), none, some (.own (((ns.take 16).map absZ).map .int)), none], spl0⟩ = some (.nx ⟨[some (.dat (.scr ns)), x', some (.own ((sfN ns).map .int)), y'], spl0⟩) := by
        by_cases hl2 : 16 ≤ ns.length
        · exact fr_add rfl ((ns.drop 16).take 48) 0 ((ns.take 16).map absZ) none none _ spl0 (by rw [List.length_map, List.length_take]; omega)
        · have e : (ns.drop 16).take 48 = [] := by rw [List.drop_of_length_le (by omega)]; rfl
          unfold sfN
          rw [e]
          exact ⟨none, none, rfl⟩
      obtain ⟨x', y', h2⟩ := h2
      have h4 : (4 : Nat) ≤ sizeLine := by decide
      unfold b1_law_spool_of b2_law_spool_of b3_law_spool_of bodyN
      simp only [List.length_cons, List.length_nil, List.map_cons, List.map_nil, List.cons_append, List.nil_append, List.replicate_succ, List.replicate_zero, Nat.reduceAdd, Nat.reduceSub, if_true, sOwn, lCp, iVal, eSlN, FD.peek, oNo, oSo, eC, q1, List.set_cons_succ, List.set_cons_zero, List.getElem?_cons_zero, h1, sFr, iEn, q2, List.getElem?_cons_succ] at h1 h2 ⊢
      simp only [h2, lDs, aCons, aNil, eV, eC, FD.peek, List.getElem?_cons_zero, List.getElem?_cons_succ, List.length_cons, List.length_nil, Nat.reduceAdd, h4, if_true]
    · cases h
  · cases h
theorem t_law_spool_of {K : PySem.W.Frag} : ∀ vs H Q E, spN K mN_law_spool_of vs H Q E → spN K (bodyN 1 4 b1_law_spool_of b2_law_spool_of b3_law_spool_of) vs H Q E := fun vs H Q E ⟨G, ds, es, g, r, e, q⟩ => ⟨G, ds, es, g, r, n_law_spool_of ds es e, q⟩
/-! ## drawn numbers -/
def Pl (n : Nat) (s : Spl) : Prop := s.place.natAbs ≤ n
instance (n : Nat) (s : Spl) : Decidable (Pl n s) := by unfold Pl; exact inferInstance
theorem pl_up {n : Nat} {s : Spl} {b : Int} (h : Pl n s) : Pl (n + 1) (upS s b) := by
  unfold Pl at *
  rcases upS_place (s := s) (b := b) with e | e <;> rw [e] <;> omega
theorem c_upto {n : Nat} {s : Spl} {b : Int} (h : Pl n s) (hb : 0 < b) (h9 : b.natAbs < 2 ^ 8999) (hn : n ≤ 1000000 := by decide) : m_law_upto [.int b] s = some (.int (upV s b), upS s b) := by
  refine if_pos ⟨hb, h9, ?_⟩
  unfold Pl at h
  show s.place.natAbs < 2 ^ 90
  omega
theorem choice_at (ds : List DV) (s : Spl) (n : Nat) (hp : Pl n s) (hn : n ≤ 1000000) (h0 : ds ≠ []) (h9 : ds.length ≤ 1000) : ∃ v, m_law_choice [.lst ds] s = some (v, upS s (ds.length : Int)) ∧ v ∈ ds := by
  have hpos : 0 < ds.length := List.length_pos_iff.mpr h0
  have hk : okB s (ds.length : Int) := by
    refine ⟨by omega, ?_, ?_⟩
    · have : (1000 : Nat) < 2 ^ 8999 := Nat.lt_of_lt_of_le (show 1000 < 2 ^ 10 by decide) (Nat.pow_le_pow_right (by decide) (by decide))
      omega
    · unfold Pl at hp
      show s.place.natAbs < 2 ^ 90
      omega
  have hv := upV_lt (s := s) (b := (ds.length : Int)) (by omega)
  have hi : (upV s (ds.length : Int)).toNat < ds.length := by omega
  refine ⟨ds[(upV s (ds.length : Int)).toNat], ?_, List.getElem_mem hi⟩
  unfold m_law_choice
  dsimp only
  rw [if_pos hk, List.getElem?_eq_getElem hi]
  rfl
end T4

set_option maxRecDepth 100000
set_option maxHeartbeats 4000000
set_option exponentiation.threshold 20000
namespace T4
open PySem L2 FD
local macro_rules | `(tactic| walk_at "fd") => `(tactic| simp only [bodyP, bodyS, bodyR, sSeq, sIf, sNx, sRt, sRtX, sAsgX, sRs, eX, eJs, eJn, dFmt, sAsg, sDr, sPar, sAug, sSp, sOwn, sApp, lDs, eSp, eS, tBl, tTr, tAn, tOo, tNo, eC, eV, eA, eIf, eAn, eOo, eNo, e1, e2, eIxN, FD.peek, aCons, aNil, gNm, gTp, gLs, gCo, gNi, dI, dAddI, dMulI, dAdd, dSub, dMul, dFdiv, dMod, dNeg, dGcd, dMax, dMin, dAbs, dSq, dLen, dEq_int, dNe_int, dIx, oTup, oLst, truD, List.length_cons, List.length_nil, List.map_cons, List.map_nil, List.cons_append, List.nil_append, List.replicate_succ, List.replicate_zero, List.getElem?_cons_zero, List.getElem?_cons_succ, List.set_cons_succ, List.set_cons_zero, Nat.reduceAdd, Nat.reduceSub, Nat.sub_self, if_true, decide_true, decide_false, Bool.not_true, Bool.not_false, Bool.false_eq_true, if_false, reduceCtorEq, *])
/-- a number over the root d, in lowest terms -/
structure Good (b c : Nat) (d : Int) (x : Num) : Prop where
  s0 : 0 < x.2.2.2
  dd : x.2.2.1 = if x.2.1 = 0 then 0 else d
  gc1 : gc x.1 x.2.1 x.2.2.2 = 1
  zp : x.1.natAbs < 2 ^ b
  zq : x.2.1.natAbs < 2 ^ c
  zs : x.2.2.2.natAbs < 2 ^ c
theorem gc_dvd (p q s : Int) : gc p q s ∣ p ∧ gc p q s ∣ q ∧ gc p q s ∣ s := by
  unfold gc
  refine ⟨Int.ofNat_dvd_left.mpr ?_, Int.ofNat_dvd_left.mpr ?_, Int.ofNat_dvd_left.mpr ?_⟩
  · exact Nat.dvd_trans (Nat.gcd_dvd_left _ _) (Nat.gcd_dvd_left _ _)
  · exact Nat.dvd_trans (Nat.gcd_dvd_left _ _) (Nat.gcd_dvd_right _ _)
  · exact Nat.gcd_dvd_right _ _
theorem fdiv_sz {a g : Int} {b : Nat} (hg : g ≠ 0) (hd : g ∣ a) (ha : a.natAbs < 2 ^ b) : (a.fdiv g).natAbs < 2 ^ b := by
  obtain ⟨k, rfl⟩ := hd
  rw [Int.mul_fdiv_cancel_left k hg]
  rw [Int.natAbs_mul] at ha
  have := Nat.le_mul_of_pos_left k.natAbs (show 0 < g.natAbs by omega)
  omega
theorem sgc_dvd (p q s : Int) : sgc p q s ∣ p ∧ sgc p q s ∣ q ∧ sgc p q s ∣ s := by
  obtain ⟨h1, h2, h3⟩ := gc_dvd p q s
  unfold sgc
  split
  · exact ⟨Int.neg_dvd.mpr h1, Int.neg_dvd.mpr h2, Int.neg_dvd.mpr h3⟩
  · exact ⟨h1, h2, h3⟩
theorem fdiv_pos {s : Int} (p q : Int) (h : s ≠ 0) : 0 < s.fdiv (sgc p q s) := by
  obtain ⟨_, _, k, hk⟩ := sgc_dvd p q s
  have hg := sgc_ne (p := p) (q := q) h
  have hp := gc_pos (p := p) (q := q) h
  have hsg : sgc p q s = if s < 0 then -gc p q s else gc p q s := rfl
  have e : s.fdiv (sgc p q s) = k := by
    conv => lhs; arg 1; rw [hk]
    exact Int.mul_fdiv_cancel_left k hg
  rw [e]
  generalize sgc p q s = g at *
  rcases Int.lt_trichotomy k 0 with z | z | z
  · exfalso
    by_cases w : s < 0
    · rw [if_pos w] at hsg
      have := Int.mul_pos_of_neg_of_neg (show g < 0 by omega) z
      omega
    · rw [if_neg w] at hsg
      have := Int.mul_neg_of_pos_of_neg (show 0 < g by omega) z
      omega
  · rw [z] at hk; simp at hk; exact absurd hk h
  · exact z
theorem gc_scale (g a b c : Int) : gc (g * a) (g * b) (g * c) = (g.natAbs : Int) * gc a b c := by
  unfold gc
  rw [Int.natAbs_mul, Int.natAbs_mul, Int.natAbs_mul, Nat.gcd_mul_left, Nat.gcd_mul_left]
  rfl
theorem low_form {p q e s : Int} (hs : s ≠ 0) : ∃ g a b c, g ≠ 0 ∧ p = g * a ∧ q = g * b ∧ s = g * c ∧ 0 < c ∧ gc a b c = 1 ∧ low p q e s = (a, b, (if b = 0 then 0 else e), c) := by
  have hg := sgc_ne (p := p) (q := q) hs
  have hcp := fdiv_pos p q hs
  obtain ⟨⟨a, ha⟩, ⟨b, hb⟩, ⟨c, hc⟩⟩ := sgc_dvd p q s
  have hab : (sgc p q s).natAbs = (gc p q s).natAbs := by unfold sgc; split <;> simp
  have hgp := gc_pos (p := p) (q := q) hs
  have hlow : low p q e s = if q = 0 then (p.fdiv (sgc p q s), 0, 0, s.fdiv (sgc p q s)) else (p.fdiv (sgc p q s), q.fdiv (sgc p q s), e, s.fdiv (sgc p q s)) := rfl
  generalize sgc p q s = g at *
  have hsc := gc_scale g a b c
  rw [← ha, ← hb, ← hc] at hsc
  have h1 : gc a b c = 1 := by
    have e1 : (g.natAbs : Int) = gc p q s := by omega
    rw [e1] at hsc
    have : gc p q s * 1 = gc p q s * gc a b c := by omega
    exact (Int.eq_of_mul_eq_mul_left (by omega) this).symm
  have ea : p.fdiv g = a := by rw [ha]; exact Int.mul_fdiv_cancel_left a hg
  have eb : q.fdiv g = b := by rw [hb]; exact Int.mul_fdiv_cancel_left b hg
  have ec : s.fdiv g = c := by rw [hc]; exact Int.mul_fdiv_cancel_left c hg
  rw [ec] at hcp
  refine ⟨g, a, b, c, hg, ha, hb, hc, hcp, h1, ?_⟩
  rw [hlow, ea, eb, ec]
  by_cases h : q = 0
  · have hb0 : b = 0 := (Int.mul_eq_zero.mp (hb.symm.trans h)).resolve_left hg
    rw [if_pos h, if_pos hb0, hb0]
  · have hb0 : b ≠ 0 := fun z => h (by rw [hb, z, Int.mul_zero])
    rw [if_neg h, if_neg hb0]
theorem part_sz {g a p : Int} {b : Nat} (hg : g ≠ 0) (e : p = g * a) (h : p.natAbs < 2 ^ b) : a.natAbs < 2 ^ b := by
  rw [e, Int.natAbs_mul] at h
  have := Nat.le_mul_of_pos_left a.natAbs (show 0 < g.natAbs by omega)
  omega
theorem low_good {b c : Nat} {p q d s : Int} (hs : s ≠ 0) (hd : d ≠ 0) (h1 : p.natAbs < 2 ^ b) (h2 : q.natAbs < 2 ^ c) (h3 : s.natAbs < 2 ^ c) : Good b c d (lowL p q d s) := by
  rw [lowL_eq (.inr hd)]
  obtain ⟨g, x, y, z, hg, e1, e2, e3, hz, h4, h5⟩ := low_form (p := p) (q := q) (e := d) hs
  rw [h5]
  exact ⟨hz, rfl, h4, part_sz hg e1 h1, part_sz hg e2 h2, part_sz hg e3 h3⟩
def b_law_drawn : SF :=
  sSeq (sPar 3 4 (aCons (e2 (eS 0 (aCons (e2 (e2 (eC (.int 2)) (eV 2) dMul) (eC (.int 1)) dAdd) (aNil)) m_law_upto) (eV 2) dSub) (aCons (e2 (eS 0 (aCons (e2 (e2 (eC (.int 2)) (eV 2) dMul) (eC (.int 1)) dAdd) (aNil)) m_law_upto) (eV 2) dSub) (aNil))))
  (sSeq (sAsg (e2 (eC (.int 1)) (eS 0 (aCons (eV 2) (aNil)) m_law_upto) dAdd) (gNm 5))
  (sRt (eA (aCons (eV 3) (aCons (eS 0 (aCons (eA (aCons (eC (.int 0)) (aCons (eV 4) (aCons (eV 4) (aNil)))) oLst) (aNil)) m_law_choice) (aCons (eV 1) (aCons (eV 5) (aNil))))) m_law_lowest)))
def m_law_drawn : List DV → Spl → Option (DV × Spl) := bodyS 3 6 b_law_drawn
theorem t_law_drawn : ∀ ds s d, m_law_drawn ds s = some d → bodyS 3 6 b_law_drawn ds s = some d := fun _ _ _ h => h
theorem drawn_ok {c : Nat} {d size : Int} {n : Nat} {sp : Spl} (hp : Pl n sp) (hn : n ≤ 100000) (hd : d ≠ 0) (s1 : 0 < size) (s2 : size ≤ 10 ^ 26) (s3 : size.natAbs < 2 ^ c) : ∃ x sp', m_law_drawn [.int d, .int size] sp = some (nm x, sp') ∧ Good c c d x ∧ Pl (n + 4) sp' := by
  have z1 : size.natAbs < 2 ^ 90 := by omega
  have f1 : fitM 2 size = true := fit_of (a := 2) (by decide) z1
  have c2 : m_law_upto [.int (2 * size + 1)] sp = _ := c_upto hp (by omega) (lt_up (a := 100) (by omega)) (by omega)
  have v2 := upV_lt (s := sp) (b := 2 * size + 1) (by omega)
  have p2 := pl_up (b := 2 * size + 1) hp
  generalize upS sp (2 * size + 1) = sp2 at *
  generalize upV sp (2 * size + 1) = P at *
  have c3 : m_law_upto [.int (2 * size + 1)] sp2 = _ := c_upto p2 (by omega) (lt_up (a := 100) (by omega)) (by omega)
  have v3 := upV_lt (s := sp2) (b := 2 * size + 1) (by omega)
  have p3 := pl_up (b := 2 * size + 1) p2
  generalize upS sp2 (2 * size + 1) = sp3 at *
  generalize upV sp2 (2 * size + 1) = Q at *
  have c4 : m_law_upto [.int size] sp3 = _ := c_upto p3 (by omega) (lt_up (a := 100) (by omega)) (by omega)
  have v4 := upV_lt (s := sp3) (b := size) (by omega)
  have p4 := pl_up (b := size) p3
  generalize upS sp3 size = sp4 at *
  generalize upV sp3 size = T at *
  obtain ⟨v, c5, hv⟩ := choice_at [.int 0, .int (Q - size), .int (Q - size)] sp4 _ p4 (by omega) (by simp) (by simp)
  have c5' : m_law_choice [.lst [.int 0, .int (Q - size), .int (Q - size)]] sp4 = some (v, upS sp4 3) := c5
  clear c5
  obtain ⟨q, rfl, hq⟩ : ∃ q : Int, v = .int q ∧ q.natAbs < 2 ^ c := by
    simp only [List.mem_cons, List.not_mem_nil, or_false] at hv
    rcases hv with h | h | h
    · exact ⟨0, h, Nat.two_pow_pos _⟩
    · exact ⟨_, h, by omega⟩
    · exact ⟨_, h, by omega⟩
  clear hv
  have c6 := low_ok (p := P - size) (q := q) (d := d) (s := 1 + T) (by omega) (lt_up (a := 100) (by omega))
  have three : (3 : Nat) ≤ sizeLine := by decide
  have hg : Good c c d (lowL (P - size) q d (1 + T)) := low_good (by omega) hd (by omega) hq (by omega)
  refine ⟨lowL (P - size) q d (1 + T), upS sp4 3, ?_, hg, pl_up p4⟩
  clear hg hq v2 v3 v4 p2 p3 p4 hp hn hd s1 s2 s3 z1
  unfold m_law_drawn b_law_drawn
  walk_at "fd"
/-! ## long numbers -/
def b_law_long : SF :=
  sSeq (sAsg (e2 (eC (.int 1)) (eS 0 (aCons (eC (.int 9)) (aNil)) m_law_upto) dAdd) (gNm 1))
  (sSeq (sFr (iRg1 (aCons (e2 (eC (.int 1)) (eS 0 (aCons (eC (.int 16)) (aNil)) m_law_upto) dAdd) (aNil))) (gNm 2) (sAsg (e2 (e2 (eV 1) (e2 (eC (.int 10)) (eC (.int 18)) dPow) dMul) (eS 0 (aCons (e2 (eC (.int 10)) (eC (.int 18)) dPow) (aNil)) m_law_upto) dAdd) (gNm 1)))
  (sRt (eV 1)))
def m_law_long : List DV → Spl → Option (DV × Spl) := bodyS 1 3 b_law_long
theorem t_law_long : ∀ ds s d, m_law_long ds s = some d → bodyS 1 3 b_law_long ds s = some d := fun _ _ _ h => h
theorem long_loop : ∀ (ds : List DV) (found : Int) (x2 : Option SV) (n j : Nat) (sp : Spl), Pl n sp → n + ds.length ≤ 1000000 → 0 < found → found < 2 ^ (4 + 60 * j) → j + ds.length ≤ 16 →
    ∃ v y sp', frN ds (gNm 2) (sAsg (e2 (e2 (eV 1) (e2 (eC (.int 10)) (eC (.int 18)) dPow) dMul) (eS 0 (aCons (e2 (eC (.int 10)) (eC (.int 18)) dPow) (aNil)) m_law_upto) dAdd) (gNm 1)) ⟨[some .spl, some (.dat (.int found)), x2], sp⟩ = some (.nx ⟨[some .spl, some (.dat (.int v)), y], sp'⟩) ∧ 0 < v ∧ v < 2 ^ (4 + 60 * (j + ds.length)) ∧ Pl (n + ds.length) sp'
  | [], found, x2, n, j, sp, hp, _, h0, h1, _ => ⟨found, x2, sp, rfl, h0, h1, hp⟩
  | d :: ds, found, x2, n, j, sp, hp, hn, h0, h1, hj => by
    rw [List.length_cons] at hn hj
    have hpow : decide (0 ≤ (18 : Int) ∧ (18 : Int) ≤ 1000000 ∧ (10 : Int).natAbs < 2 ^ 64) = true := rfl
    have hten : (10 : Int) ^ (Int.toNat 18) = 10 ^ 18 := rfl
    have c1 : m_law_upto [.int (10 ^ 18)] sp = some (.int (upV sp (10 ^ 18)), upS sp (10 ^ 18)) := c_upto hp (by decide) (lt_up (a := 100) (by decide)) (by omega)
    have v1 := upV_lt (s := sp) (b := 10 ^ 18) (by decide)
    have z0 : ((2 ^ (4 + 60 * j) : Nat) : Int) = (2 : Int) ^ (4 + 60 * j) := Int.natCast_pow 2 _
    have z1 : found.natAbs < 2 ^ (4 + 60 * j) := by omega
    have f1 : fitM found (10 ^ 18) = true := fit_of (b := 60) (lt_up z1 (b := 2000) (by omega)) (by decide)
    have nb : found * 10 ^ 18 + upV sp (10 ^ 18) < 2 ^ (4 + 60 * (j + 1)) := by
      have e : (2 : Int) ^ (4 + 60 * (j + 1)) = 2 ^ (4 + 60 * j) * 2 ^ 60 := by rw [← Int.pow_add]; congr 1
      rw [e]
      have h2 : found + 1 ≤ (2 : Int) ^ (4 + 60 * j) := h1
      have h3 := Int.mul_le_mul_of_nonneg_right h2 (show (0 : Int) ≤ 2 ^ 60 by decide)
      have h4 : (found + 1) * 2 ^ 60 = found * 2 ^ 60 + 2 ^ 60 := by rw [Int.add_mul, Int.one_mul]
      have h5 := Int.mul_le_mul_of_nonneg_left (show (10 : Int) ^ 18 ≤ 2 ^ 60 by decide) (show 0 ≤ found by omega)
      have h6 : (10 : Int) ^ 18 ≤ 2 ^ 60 := by decide
      omega
    have pos : 0 < found * 10 ^ 18 + upV sp (10 ^ 18) := by
      have := Int.mul_pos h0 (show (0 : Int) < 10 ^ 18 by decide)
      omega
    obtain ⟨v, y, sp', e, r1, r2, r3⟩ := long_loop ds (found * 10 ^ 18 + upV sp (10 ^ 18)) (some (.dat d)) (n + 1) (j + 1) (upS sp (10 ^ 18)) (pl_up hp) (by omega) pos nb (by omega)
    refine ⟨v, y, sp', ?_, r1, ?_, ?_⟩
    · simp only [frN, gNm, sAsg, e2, eV, eC, eS, aCons, aNil, dPow, hpow, if_true, hten, dMul, f1, c1, dAdd, List.getElem?_cons_zero, List.getElem?_cons_succ, List.set_cons_zero, List.set_cons_succ, e]
    · rw [List.length_cons, show j + (ds.length + 1) = j + 1 + ds.length by omega]; exact r2
    · rw [List.length_cons, show n + (ds.length + 1) = n + 1 + ds.length by omega]; exact r3
theorem pow_int (k : Nat) : ((2 ^ k : Nat) : Int) = (2 : Int) ^ k := Int.natCast_pow 2 _
theorem long_ok {n : Nat} {sp : Spl} (hp : Pl n sp) (hn : n ≤ 100000) : ∃ v sp', m_law_long [] sp = some (.int v, sp') ∧ 0 < v ∧ v.natAbs < 2 ^ 964 ∧ Pl (n + 18) sp' := by
  have c1 : m_law_upto [.int 9] sp = _ := c_upto hp (by decide) (lt_up (a := 10) (by decide)) (by omega)
  have v1 := upV_lt (s := sp) (b := 9) (by decide)
  have p1 := pl_up (b := 9) hp
  generalize upS sp 9 = sp1 at *
  generalize upV sp 9 = A at *
  have c2 : m_law_upto [.int 16] sp1 = _ := c_upto p1 (by decide) (lt_up (a := 10) (by decide)) (by omega)
  have v2 := upV_lt (s := sp1) (b := 16) (by decide)
  have p2 := pl_up (b := 16) p1
  generalize upS sp1 16 = sp2 at *
  generalize upV sp1 16 = B at *
  have hl : (rngD 0 (Int.toNat (1 + B))).length = (1 + B).toNat := by unfold rngD; simp
  have hB : (1 + B).toNat ≤ 16 := by omega
  have hr : inR (1 + B) = true := decide_eq_true (by omega)
  obtain ⟨v, y, sp3, e, r1, r2, r3⟩ := long_loop (rngD 0 (Int.toNat (1 + B))) (1 + A) none (n + 2) 0 sp2 p2 (by omega) (by omega) (by have : (2 : Int) ^ (4 + 60 * 0) = 16 := rfl; omega) (by omega)
  refine ⟨v, sp3, ?_, r1, ?_, ?_⟩
  · clear hp hn v1 v2 p1 p2 hl hB r1 r2 r3
    unfold m_law_long b_law_long
    simp only [bodyP, bodyS, bodyR, sSeq, sIf, sNx, sRt, sRtX, sAsgX, sRs, eX, eJs, eJn, dFmt, sAsg, sDr, sPar, sAug, sSp, sOwn, sApp, lDs, eSp, eS, tBl, tTr, tAn, tOo, tNo, eC, eV, eA, eIf, eAn, eOo, eNo, e1, e2, eIxN, FD.peek, aCons, aNil, gNm, gTp, gLs, gCo, gNi, dI, dAddI, dMulI, dAdd, dSub, dMul, dFdiv, dMod, dNeg, dGcd, dMax, dMin, dAbs, dSq, dLen, dEq_int, dNe_int, dIx, oTup, oLst, truD, List.length_cons, List.length_nil, List.map_cons, List.map_nil, List.cons_append, List.nil_append, List.replicate_succ, List.replicate_zero, List.getElem?_cons_zero, List.getElem?_cons_succ, List.set_cons_succ, List.set_cons_zero, Nat.reduceAdd, Nat.reduceSub, Nat.sub_self, if_true, decide_true, decide_false, Bool.not_true, Bool.not_false, Bool.false_eq_true, if_false, reduceCtorEq, sFr, iRg1, c1, c2, hr, e]
  · have h1 : (2 : Int) ^ (4 + 60 * (0 + (rngD 0 (Int.toNat (1 + B))).length)) ≤ 2 ^ 964 := by
      rw [← pow_int, ← pow_int]
      exact Int.ofNat_le.mpr (Nat.pow_le_pow_right (by decide) (by omega))
    have h2 := pow_int 964
    have h3 : v < ((2 ^ 964 : Nat) : Int) := by rw [h2]; exact Int.lt_of_lt_of_le r2 h1
    omega
  · unfold Pl at *
    omega
def b_law_long_number : SF :=
  sSeq (sAsg (eL (lCp (iRg1 (aCons (eC (.int 2)) (aNil))) 4 (tY) (e2 (eS 0 (aCons (eA (aCons (eC (.int 1)) (aCons (e2 (eC (.int 0)) (eC (.int 1)) dSub) (aNil))) oLst) (aNil)) m_law_choice) (eS 0 (aNil) m_law_long) dMul))) (gLs 2 (gCo (gNm 2) (gCo (gNm 3) (gNi)))))
  (sRt (eA (aCons (eV 2) (aCons (eV 3) (aCons (eV 1) (aCons (eS 0 (aCons (eA (aCons (eC (.int 1)) (aCons (eS 0 (aNil) m_law_long) (aNil))) oLst) (aNil)) m_law_choice) (aNil))))) m_law_lowest))
def m_law_long_number : List DV → Spl → Option (DV × Spl) := bodyS 2 5 b_law_long_number
theorem t_law_long_number : ∀ ds s d, m_law_long_number ds s = some d → bodyS 2 5 b_law_long_number ds s = some d := fun _ _ _ h => h
theorem long_number_ok {d : Int} {n : Nat} {sp : Spl} (hp : Pl n sp) (hn : n ≤ 10000) (hd : d ≠ 0) : ∃ x sp', m_law_long_number [.int d] sp = some (nm x, sp') ∧ Good 1000 1000 d x ∧ Pl (n + 60) sp' := by
  have two : (2 : Nat) ≤ sizeLine := by decide
  have pm : ∀ (m : Nat) (t : Spl), Pl m t → m ≤ 100000 → ∃ w : Int, m_law_choice [.lst [.int 1, .int (0 - 1)]] t = some (.int w, upS t 2) ∧ w.natAbs < 2 ^ 2 := by
    intro m t ht hm
    obtain ⟨v, c, hv⟩ := choice_at [.int 1, .int (0 - 1)] t m ht (by omega) (by simp) (by simp)
    simp only [List.mem_cons, List.not_mem_nil, or_false] at hv
    rcases hv with h | h
    · subst h; exact ⟨1, c, by decide⟩
    · subst h; exact ⟨0 - 1, c, by decide⟩
  obtain ⟨w1, c1, g1⟩ := pm n sp hp (by omega)
  have p1 := pl_up (b := 2) hp
  generalize upS sp 2 = sp1 at *
  obtain ⟨l1, sp2, c2, _, g2, p2⟩ := long_ok p1 (by omega)
  obtain ⟨w2, c3, g3⟩ := pm _ sp2 p2 (by omega)
  have p3 := pl_up (b := 2) p2
  generalize upS sp2 2 = sp3 at *
  obtain ⟨l2, sp4, c4, _, g4, p4⟩ := long_ok p3 (by omega)
  obtain ⟨l3, sp5, c5, pos5, g5, p5⟩ := long_ok p4 (by omega)
  obtain ⟨v, c6, hv⟩ := choice_at [.int 1, .int l3] sp5 _ p5 (by omega) (by simp) (by simp)
  have c6' : m_law_choice [.lst [.int 1, .int l3]] sp5 = some (v, upS sp5 2) := c6
  clear c6
  obtain ⟨s, rfl, hs, hs0⟩ : ∃ s : Int, v = .int s ∧ s.natAbs < 2 ^ 1000 ∧ s ≠ 0 := by
    simp only [List.mem_cons, List.not_mem_nil, or_false] at hv
    rcases hv with h | h
    · exact ⟨1, h, Nat.one_lt_two_pow (by decide), by decide⟩
    · exact ⟨_, h, lt_up g5, by omega⟩
  clear hv
  have f1 := fit_of g1 g2
  have f2 := fit_of g3 g4
  have c7 := low_ok (p := w1 * l1) (q := w2 * l2) (d := d) hs0 (lt_up hs)
  have hg : Good 1000 1000 d (lowL (w1 * l1) (w2 * l2) d s) := low_good hs0 hd (lt_up (mul_lt g1 g2)) (lt_up (mul_lt g3 g4)) hs
  have hr : inR 2 = true := rfl
  have rg : rngD 0 (Int.toNat 2) = [.int 0, .int 1] := rfl
  have z0 : (0 : Nat) < sizeLine := by decide
  have z1 : (1 : Nat) < sizeLine := by decide
  refine ⟨lowL (w1 * l1) (w2 * l2) d s, upS sp5 2, ?_, hg, by have := pl_up (b := 2) p5; unfold Pl at *; omega⟩
  clear hg hs hs0 hp hn hd p1 p2 p3 p4 p5 g1 g2 g3 g4 g5 pm pos5
  unfold m_law_long_number b_law_long_number
  simp only [bodyP, bodyS, bodyR, sSeq, sIf, sNx, sRt, sRtX, sAsgX, sRs, eX, eJs, eJn, dFmt, sAsg, sDr, sPar, sAug, sSp, sOwn, sApp, lDs, eSp, eS, tBl, tTr, tAn, tOo, tNo, eC, eV, eA, eIf, eAn, eOo, eNo, e1, e2, eIxN, FD.peek, aCons, aNil, gNm, gTp, gLs, gCo, gNi, dI, dAddI, dMulI, dAdd, dSub, dMul, dFdiv, dMod, dNeg, dGcd, dMax, dMin, dAbs, dSq, dLen, dEq_int, dNe_int, dIx, oTup, oLst, truD, List.length_cons, List.length_nil, List.map_cons, List.map_nil, List.cons_append, List.nil_append, List.replicate_succ, List.replicate_zero, List.getElem?_cons_zero, List.getElem?_cons_succ, List.set_cons_succ, List.set_cons_zero, Nat.reduceAdd, Nat.reduceSub, Nat.sub_self, if_true, decide_true, decide_false, Bool.not_true, Bool.not_false, Bool.false_eq_true, if_false, reduceCtorEq, eL, lCp, iRg1, hr, rg, cpN, tY, c1, c2, c3, c4, c5, c6', c7, f1, f2, two, z0, z1]
end T4

set_option maxRecDepth 100000
set_option maxHeartbeats 4000000
set_option exponentiation.threshold 10000
namespace T4
open PySem L2 FD
local macro_rules | `(tactic| walk_at "fd") => `(tactic| simp only [bodyP, bodyS, bodyR, sSeq, sIf, sNx, sRt, sRtX, sAsgX, sRs, eX, eJs, eJn, dFmt, sAsg, sDr, sPar, sAug, sSp, sOwn, sApp, lDs, eSp, eS, tBl, tTr, tAn, tOo, tNo, eC, eV, eA, eIf, eAn, eOo, eNo, e1, e2, eIxN, FD.peek, aCons, aNil, gNm, gTp, gLs, gCo, gNi, dI, dAddI, dMulI, dAdd, dSub, dMul, dFdiv, dMod, dNeg, dGcd, dMax, dMin, dAbs, dSq, dLen, dEq_int, dNe_int, dIx, oTup, oLst, truD, List.length_cons, List.length_nil, List.map_cons, List.map_nil, List.cons_append, List.nil_append, List.replicate_succ, List.replicate_zero, List.getElem?_cons_zero, List.getElem?_cons_succ, List.set_cons_succ, List.set_cons_zero, Nat.reduceAdd, Nat.reduceSub, Nat.sub_self, if_true, decide_true, decide_false, Bool.not_true, Bool.not_false, Bool.false_eq_true, if_false, reduceCtorEq, *])
def b_integer_sign : SF :=
  sSeq (sIf (tBl (e2 (eV 0) (eC (.int 0)) dGt)) (sRt (eC (.int 1))) (sNx))
  (sSeq (sIf (tBl (e2 (eV 0) (eC (.int 0)) dLt)) (sRt (e1 (eC (.int 1)) dNeg)) (sNx))
  (sRt (eC (.int 0))))
def m_integer_sign : List DV → Option DV
  | [.int n] => some (.int (isg n))
  | _ => none
theorem t_integer_sign : ∀ ds d, m_integer_sign ds = some d → bodyP 1 1 b_integer_sign ds = some d := by
  intro ds d h
  unfold m_integer_sign at h
  split at h
  · rename_i n
    cases h
    unfold isg
    by_cases h1 : 0 < n
    · simp [bodyP, b_integer_sign, sSeq, sIf, tBl, e2, eV, eC, dI, sRt, sNx, h1, e1, dNeg]
    · by_cases h2 : n < 0
      · simp [bodyP, b_integer_sign, sSeq, sIf, tBl, e2, eV, eC, dI, sRt, sNx, h1, h2, e1, dNeg]
      · simp [bodyP, b_integer_sign, sSeq, sIf, tBl, e2, eV, eC, dI, sRt, sNx, h1, h2, e1, dNeg]
  · cases h
def b_surd_sign : SF :=
  sSeq (sIf (tBl (e2 (e2 (eV 0) (eV 0) dMul) (e2 (e2 (eV 1) (eV 1) dMul) (eV 2) dMul) dGt)) (sRt (eA (aCons (eV 0) (aNil)) m_integer_sign)) (sNx))
  (sRt (eA (aCons (eV 1) (aNil)) m_integer_sign))
def m_surd_sign : List DV → Option DV
  | [.int p, .int q, .int d] => if Sz 1000000 p ∧ Sz 1000000 q ∧ Sz 1000000 d then some (.int (sgS p q d)) else none
  | _ => none
theorem t_surd_sign : ∀ ds d, m_surd_sign ds = some d → bodyP 3 3 b_surd_sign ds = some d := by
  intro ds d h
  unfold m_surd_sign at h
  split at h
  · rename_i p q e
    split at h
    · rename_i hs
      obtain ⟨h1, h2, h3⟩ := hs
      cases h
      have f1 := fit_of h1 h1
      have f2 := fit_of h2 h2
      have f3 := fit_of (mul_lt h2 h2) h3
      unfold sgS
      by_cases h4 : q * q * e < p * p
      · simp [bodyP, b_surd_sign, sSeq, sIf, tBl, e2, eV, eC, dI, sRt, sNx, dMul, eA, aCons, aNil, f1, f2, f3, h4, m_integer_sign]
      · simp [bodyP, b_surd_sign, sSeq, sIf, tBl, e2, eV, eC, dI, sRt, sNx, dMul, eA, aCons, aNil, f1, f2, f3, h4, m_integer_sign]
    · cases h
  · cases h
def b_sign : SF :=
  sRt (eA (aCons (eIxN 0 (eC (.int 0))) (aCons (eIxN 0 (eC (.int 1))) (aCons (eIxN 0 (eC (.int 2))) (aNil)))) m_surd_sign)
def m_sign : List DV → Option DV
  | [.tup [.int p, .int q, .int d, .int s]] => if Sz 1000000 p ∧ Sz 1000000 q ∧ Sz 1000000 d then some (.int (sgS p q d)) else none
  | _ => none
theorem t_sign : ∀ ds d, m_sign ds = some d → bodyP 1 1 b_sign ds = some d := by
  intro ds d h
  unfold m_sign at h
  split at h
  · rename_i p q e s
    have h1 : m_surd_sign [.int p, .int q, .int e] = some d := h
    clear h
    have i0 : atI [DV.int p, .int q, .int e, .int s] 0 = some (.int p) := rfl
    have i1 : atI [DV.int p, .int q, .int e, .int s] 1 = some (.int q) := rfl
    have i2 : atI [DV.int p, .int q, .int e, .int s] 2 = some (.int e) := rfl
    unfold b_sign
    walk_at "fd"
  · cases h
def flo (p q d s : Int) : Int := if q < 0 then (p - sq (q * q * d) - 1).fdiv s else (p + sq (q * q * d)).fdiv s
def okFl (p q d s : Int) : Prop := s ≠ 0 ∧ 0 ≤ q * q * d ∧ Sz 4000 p ∧ Sz 4000 q ∧ Sz 4000 d ∧ Sz 4000 s
instance (p q d s : Int) : Decidable (okFl p q d s) := by unfold okFl; exact inferInstance
def b_floor : SF :=
  sSeq (sAsg (eV 0) (gTp 4 (gCo (gNm 1) (gCo (gNm 2) (gCo (gNm 3) (gCo (gNm 4) (gNi)))))))
  (sSeq (sAsg (eA (aCons (e2 (e2 (eV 2) (eV 2) dMul) (eV 3) dMul) (aNil)) dSq) (gNm 5))
  (sSeq (sIf (tBl (e2 (eV 2) (eC (.int 0)) dLt)) (sRt (e2 (e2 (e2 (eV 1) (eV 5) dSub) (eC (.int 1)) dSub) (eV 4) dFdiv)) (sNx))
  (sRt (e2 (e2 (eV 1) (eV 5) dAdd) (eV 4) dFdiv))))
def m_floor : List DV → Option DV
  | [.tup [.int p, .int q, .int d, .int s]] => if okFl p q d s then some (.int (flo p q d s)) else none
  | _ => none
theorem t_floor : ∀ ds d, m_floor ds = some d → bodyP 1 6 b_floor ds = some d := by
  intro ds d h
  unfold m_floor at h
  split at h
  · rename_i p q e s
    split at h
    · rename_i ok
      obtain ⟨hs, h0, z1, z2, z3, z4⟩ := ok
      cases h
      have f1 := fit_of z2 z2
      have f2 := fit_of (mul_lt z2 z2) z3
      have hq : okSq (q * q * e) = true := by
        have := log2_lt_of (mul_lt (mul_lt z2 z2) z3)
        refine decide_eq_true ⟨h0, ?_⟩
        have e : (q * q * e).toNat = (q * q * e).natAbs := by omega
        rw [e]; omega
      have hc : decide (s ≠ 0 ∧ s.natAbs.log2 < 9000) = true := decide_eq_true (div_ok hs (lt_up z4))
      have e1' : ((Float64.isqrt (q * q * e).toNat : Nat) : Int) = sq (q * q * e) := rfl
      unfold b_floor flo
      clear hs h0 z1 z2 z3 z4
      by_cases h1 : q < 0
      · walk_at "fd"
      · walk_at "fd"
    · cases h
  · cases h
theorem surd_ok {p q d : Int} (h1 : Sz 1000000 p) (h2 : Sz 1000000 q) (h3 : Sz 1000000 d) : m_surd_sign [.int p, .int q, .int d] = some (.int (sgS p q d)) := by
  unfold m_surd_sign
  simp only [h1, h2, h3, and_self, if_true]
def cmpN (x y : Num) : Int :=
  let whole := x.1 * y.2.2.2 - y.1 * x.2.2.2
  let left := x.2.1 * y.2.2.2
  let right := -y.2.1 * x.2.2.2
  if x.2.2.1 = y.2.2.1 then sgS whole (left + right) x.2.2.1 else
  if sgS whole left x.2.2.1 = isg right ∨ isg right = 0 then sgS whole left x.2.2.1 else
  if sgS whole left x.2.2.1 = 0 then isg right else
  sgS whole left x.2.2.1 * sgS (whole * whole + left * left * x.2.2.1 - right * right * y.2.2.1) (2 * whole * left) x.2.2.1
theorem isg_sz (n : Int) : (isg n).natAbs < 2 ^ 2 := by unfold isg; split <;> (try split) <;> decide
theorem sgS_sz (p q d : Int) : (sgS p q d).natAbs < 2 ^ 2 := by unfold sgS; split <;> exact isg_sz _
def b_compare : SF :=
  sSeq (sAsg (eV 0) (gTp 4 (gCo (gNm 2) (gCo (gNm 3) (gCo (gNm 4) (gCo (gNm 5) (gNi)))))))
  (sSeq (sAsg (eV 1) (gTp 4 (gCo (gNm 6) (gCo (gNm 7) (gCo (gNm 8) (gCo (gNm 9) (gNi)))))))
  (sSeq (sAsg (e2 (e2 (eV 2) (eV 9) dMul) (e2 (eV 6) (eV 5) dMul) dSub) (gNm 10))
  (sSeq (sAsg (e2 (eV 3) (eV 9) dMul) (gNm 11))
  (sSeq (sAsg (e2 (e1 (eV 7) dNeg) (eV 5) dMul) (gNm 12))
  (sSeq (sIf (tBl (e2 (eV 4) (eV 8) dEq)) (sRt (eA (aCons (eV 10) (aCons (e2 (eV 11) (eV 12) dAdd) (aCons (eV 4) (aNil)))) m_surd_sign)) (sNx))
  (sSeq (sAsg (eA (aCons (eV 10) (aCons (eV 11) (aCons (eV 4) (aNil)))) m_surd_sign) (gNm 13))
  (sSeq (sAsg (eA (aCons (eV 12) (aNil)) m_integer_sign) (gNm 14))
  (sSeq (sIf (tOo (tBl (e2 (eV 13) (eV 14) dEq)) (tBl (e2 (eV 14) (eC (.int 0)) dEq))) (sRt (eV 13)) (sNx))
  (sSeq (sIf (tBl (e2 (eV 13) (eC (.int 0)) dEq)) (sRt (eV 14)) (sNx))
  (sSeq (sAsg (e2 (e2 (e2 (eV 10) (eV 10) dMul) (e2 (e2 (eV 11) (eV 11) dMul) (eV 4) dMul) dAdd) (e2 (e2 (eV 12) (eV 12) dMul) (eV 8) dMul) dSub) (gNm 15))
  (sRt (e2 (eV 13) (eA (aCons (eV 15) (aCons (e2 (e2 (eC (.int 2)) (eV 10) dMul) (eV 11) dMul) (aCons (eV 4) (aNil)))) m_surd_sign) dMul))))))))))))
def m_compare : List DV → Option DV
  | [.tup [.int p, .int q, .int d, .int s], .tup [.int p', .int q', .int d', .int s']] => if SzN 4000 (p, q, d, s) ∧ SzN 4000 (p', q', d', s') then some (.int (cmpN (p, q, d, s) (p', q', d', s'))) else none
  | _ => none
theorem t_compare : ∀ ds d, m_compare ds = some d → bodyP 2 16 b_compare ds = some d := by
  intro ds d h
  unfold m_compare at h
  split at h
  · rename_i p q e s p' q' e' s'
    split at h
    · rename_i ok
      obtain ⟨⟨z1, z2, z3, z4⟩, z5, z6, z7, z8⟩ := ok
      cases h
      have f1 := fit_of z1 z8
      have f2 := fit_of z5 z4
      have f3 := fit_of z2 z8
      have f4 := fit_of (neg_lt z6) z4
      have w1 := sub_lt (mul_lt z1 z8) (mul_lt z5 z4)
      have w2 := mul_lt z2 z8
      have w3 := mul_lt (neg_lt z6) z4
      unfold cmpN
      dsimp only
      generalize hW : p * s' - p' * s = W at *
      generalize hL : q * s' = L at *
      generalize hR : -q' * s = R at *
      have c1 : m_surd_sign [.int W, .int (L + R), .int e] = some (.int (sgS W (L + R) e)) := surd_ok (lt_up w1) (lt_up (add_lt w2 w3)) (lt_up z3)
      have c2 : m_surd_sign [.int W, .int L, .int e] = some (.int (sgS W L e)) := surd_ok (lt_up w1) (lt_up w2) (lt_up z3)
      have c3 : m_integer_sign [.int R] = some (.int (isg R)) := rfl
      have f5 := fit_of w1 w1
      have f6 := fit_of w2 w2
      have f7 := fit_of (mul_lt w2 w2) z3
      have f8 := fit_of w3 w3
      have f9 := fit_of (mul_lt w3 w3) z7
      have f10 : fitM 2 W = true := fit_of (a := 2) (by decide) w1
      have w4 : (2 * W).natAbs < 2 ^ (2 + (4000 + 4000 + 1)) := mul_lt (by decide) w1
      have f11 := fit_of w4 w2
      have f12 := fit_of (sgS_sz W L e) (sgS_sz (W * W + L * L * e - R * R * e') (2 * W * L) e)
      have w5 : (W * W).natAbs < 2 ^ 30000 := lt_up (mul_lt w1 w1)
      have w6 : (L * L * e).natAbs < 2 ^ 30000 := lt_up (mul_lt (mul_lt w2 w2) z3)
      have w7 : (R * R * e').natAbs < 2 ^ 30001 := lt_up (mul_lt (mul_lt w3 w3) z7)
      have w9 : (W * W + L * L * e - R * R * e').natAbs < 2 ^ 30002 := sub_lt (add_lt w5 w6) w7
      have w10 : (2 * W * L).natAbs < 2 ^ 30000 := lt_up (mul_lt w4 w2)
      have c4 : m_surd_sign [.int (W * W + L * L * e - R * R * e'), .int (2 * W * L), .int e] = some (.int (sgS (W * W + L * L * e - R * R * e') (2 * W * L) e)) :=
        surd_ok (lt_up w9) (lt_up w10) (lt_up z3)
      clear z1 z2 z3 z4 z5 z6 z7 z8 w1 w2 w3 w4 w5 w6 w7 w9 w10
      unfold b_compare
      by_cases h1 : e = e'
      · have h1' := beq_t h1
        rw [if_pos h1]
        clear h1
        walk_at "fd"
      · have h1' := beq_f h1
        rw [if_neg h1]
        clear h1
        by_cases h2 : sgS W L e = isg R
        · have h2' := beq_t h2
          rw [if_pos (.inl h2)]
          clear h2
          walk_at "fd"
        · have h2' := beq_f h2
          by_cases h3 : isg R = 0
          · have h3' := beq_t h3
            rw [if_pos (.inr h3)]
            clear h2 h3
            walk_at "fd"
          · have h3' := beq_f h3
            rw [if_neg (fun z => z.elim h2 h3)]
            by_cases h4 : sgS W L e = 0
            · have h4' := beq_t h4
              rw [if_pos h4]
              clear h2 h3 h4
              walk_at "fd"
            · have h4' := beq_f h4
              rw [if_neg h4]
              clear h2 h3 h4
              walk_at "fd"
    · cases h
  · cases h
end T4

set_option maxRecDepth 100000
set_option maxHeartbeats 4000000
set_option exponentiation.threshold 10000
namespace T4
open PySem L2 FD
theorem isg_zero : isg 0 = 0 := rfl
theorem pos_mul {k n : Int} (hk : 0 < k) : 0 < n * k ↔ 0 < n := by
  constructor
  · intro h
    rcases Int.lt_trichotomy n 0 with z | z | z
    · have := Int.mul_neg_of_neg_of_pos z hk; omega
    · rw [z] at h; simp at h
    · exact z
  · exact fun h => Int.mul_pos h hk
theorem neg_mul {k n : Int} (hk : 0 < k) : n * k < 0 ↔ n < 0 := by
  have := pos_mul (n := -n) hk
  rw [Int.neg_mul] at this
  omega
theorem isg_scale {P P' k m : Int} (hk : 0 < k) (hm : 0 < m) (h : P * k = P' * m) : isg P = isg P' := by
  have a1 := pos_mul (n := P) hk
  have a2 := pos_mul (n := P') hm
  have b1 := neg_mul (n := P) hk
  have b2 := neg_mul (n := P') hm
  rw [h] at a1 b1
  unfold isg
  by_cases z : 0 < P
  · rw [if_pos z, if_pos (a2.mp (a1.mpr z))]
  · rw [if_neg z, if_neg (fun w => z (a1.mp (a2.mpr w)))]
    by_cases z2 : P < 0
    · rw [if_pos z2, if_pos (b2.mp (b1.mpr z2))]
    · rw [if_neg z2, if_neg (fun w => z2 (b1.mp (b2.mpr w)))]
theorem sg_scale {P Q P' Q' e k m : Int} (hk : 0 < k) (hm : 0 < m) (h1 : P * k = P' * m) (h2 : Q * k = Q' * m) : sgS P Q e = sgS P' Q' e := by
  have kk : 0 < k * k := Int.mul_pos hk hk
  have mm : 0 < m * m := Int.mul_pos hm hm
  have e1 : (P * P - Q * Q * e) * (k * k) = (P' * P' - Q' * Q' * e) * (m * m) := by grind
  have a1 := pos_mul (n := P * P - Q * Q * e) kk
  have a2 := pos_mul (n := P' * P' - Q' * Q' * e) mm
  rw [e1] at a1
  have i1 := isg_scale hk hm h1
  have i2 := isg_scale hk hm h2
  unfold sgS
  by_cases z : Q * Q * e < P * P
  · have z' : Q' * Q' * e < P' * P' := by have := a2.mp (a1.mpr (by omega)); omega
    rw [if_pos z, if_pos z', i1]
  · have z' : ¬ Q' * Q' * e < P' * P' := fun w => z (by have := a1.mp (a2.mpr (by omega)); omega)
    rw [if_neg z, if_neg z', i2]
theorem isg_le {n : Int} (h : n ≤ 0) : isg n ≤ 0 := by
  unfold isg
  rw [if_neg (by omega)]
  split <;> decide
theorem isg_negs (n : Int) : isg (-n) = -isg n := by
  unfold isg
  by_cases a : 0 < n
  · rw [if_pos a, if_neg (by omega), if_pos (by omega)]
  · rw [if_neg a]
    by_cases b : n < 0
    · rw [if_pos b, if_pos (by omega)]; rfl
    · rw [if_neg b, if_neg (by omega), if_neg (by omega)]; rfl
theorem sg_negs (p q d : Int) : sgS (-p) (-q) d = -sgS p q d := by
  unfold sgS
  rw [Int.neg_mul_neg, Int.neg_mul_neg, isg_negs, isg_negs]
  split <;> rfl
/-- more is not below -/
theorem sg_mono {p p' q d : Int} (h : p ≤ p') (hs : 0 < sgS p q d) : 0 < sgS p' q d := by
  unfold sgS at *
  have e1 : ∀ n : Int, 0 < isg n → 0 < n := fun n hn => by
    unfold isg at hn
    by_cases a : 0 < n
    · exact a
    · rw [if_neg a] at hn
      split at hn <;> omega
  by_cases a : q * q * d < p * p
  · rw [if_pos a] at hs
    have p0 := e1 p hs
    have h2 : p * p ≤ p' * p' := Int.mul_le_mul h h (by omega) (by omega)
    rw [if_pos (by omega), isg_pos (by omega)]
    decide
  · rw [if_neg a] at hs
    have q0 := e1 q hs
    by_cases b : q * q * d < p' * p'
    · rw [if_pos b]
      have : 0 < p' := by
        refine Int.lt_of_not_ge fun z => ?_
        have h3 : (-p') * (-p') ≤ (-p) * (-p) := Int.mul_le_mul (by omega) (by omega) (by omega) (by omega)
        rw [Int.neg_mul_neg, Int.neg_mul_neg] at h3
        omega
      rw [isg_pos this]
      decide
    · rw [if_neg b, isg_pos q0]
      decide
/-- the floor, by the signs of what is left -/
theorem flo_at {p q d s : Int} (hs : 0 < s) (hd : 0 ≤ d) : sgS (flo p q d s * s - p) (-q) d ≤ 0 ∧ sgS ((flo p q d s + 1) * s - p) (-q) d = 1 := by
  have hn : 0 ≤ q * q * d := Int.mul_nonneg (sq_nn q) hd
  have hq : -q * -q * d = q * q * d := by grind
  obtain ⟨r0, r1, r2⟩ := sq_spec hn
  unfold flo sgS
  rw [hq]
  generalize sq (q * q * d) = r at *
  generalize q * q * d = n at *
  by_cases z : q < 0
  · rw [if_pos z]
    obtain ⟨f1, f2⟩ := fdiv_spec (a := p - r - 1) hs
    generalize hA : (p - r - 1).fdiv s * s - p = A
    generalize hB : ((p - r - 1).fdiv s + 1) * s - p = B
    have a1 : A ≤ -(r + 1) := by omega
    have a2 : -r ≤ B := by omega
    constructor
    · have : n < A * A := by
        have := Int.mul_nonneg (show 0 ≤ -(r + 1) - A by omega) (show 0 ≤ (r + 1) - A by omega)
        grind
      rw [if_pos this]
      exact isg_le (by omega)
    · by_cases w : n < B * B
      · rw [if_pos w]
        refine isg_pos ?_
        by_cases w2 : 0 < B
        · exact w2
        · have := Int.mul_nonneg (show 0 ≤ B + r by omega) (show 0 ≤ r - B by omega)
          exfalso
          grind
      · rw [if_neg w]
        exact isg_pos (by omega)
  · rw [if_neg z]
    obtain ⟨f1, f2⟩ := fdiv_spec (a := p + r) hs
    generalize hA : (p + r).fdiv s * s - p = A
    generalize hB : ((p + r).fdiv s + 1) * s - p = B
    have a1 : A ≤ r := by omega
    have a2 : r + 1 ≤ B := by omega
    constructor
    · by_cases w : n < A * A
      · rw [if_pos w]
        refine isg_le ?_
        by_cases w2 : A ≤ 0
        · exact w2
        · have := Int.mul_nonneg (show 0 ≤ r - A by omega) (show 0 ≤ r + A by omega)
          exfalso
          grind
      · rw [if_neg w]
        exact isg_le (by omega)
    · have : n < B * B := by
        have := Int.mul_nonneg (show 0 ≤ B - (r + 1) by omega) (show 0 ≤ B + (r + 1) by omega)
        grind
      rw [if_pos this]
      exact isg_pos (by omega)
/-- what the law asks of a whole number f: below 0 just where f is above the floor -/
theorem sg_flo {p q d s f : Int} (hs : 0 < s) (hd : 0 ≤ d) : sgS (p - f * s) q d < 0 ↔ flo p q d s < f := by
  obtain ⟨h1, h2⟩ := flo_at (p := p) (q := q) hs hd
  have e : ∀ g : Int, sgS (p - g * s) q d = -sgS (g * s - p) (-q) d := fun g => by
    rw [← sg_negs, Int.neg_neg, show -(g * s - p) = p - g * s by omega]
  rw [e]
  constructor
  · intro h
    refine Int.lt_of_not_ge fun z => ?_
    have h3 := Int.mul_le_mul_of_nonneg_right z (show 0 ≤ s by omega)
    have h4 := sg_mono (p := f * s - p) (p' := flo p q d s * s - p) (q := -q) (d := d) (by omega) (by omega)
    omega
  · intro h
    have h3 := Int.mul_le_mul_of_nonneg_right (show flo p q d s + 1 ≤ f by omega) (show 0 ≤ s by omega)
    have h4 := sg_mono (p := (flo p q d s + 1) * s - p) (p' := f * s - p) (q := -q) (d := d) (by omega) (by omega)
    omega
/-- the first value: the floor, or one more -/
theorem scl0 {p q d s : Int} (hs : 0 < s) (hd : 0 ≤ d) : scl p q d s 0 = flo p q d s ∨ scl p q d s 0 = flo p q d s + 1 := by
  have e : scl p q d s 0 = (p + (if 0 < q then sq (q * q * d) else 0 - sq (q * q * d))).fdiv s := by
    unfold scl
    simp only [Int.pow_zero, Int.mul_one]
  have hn : 0 ≤ q * q * d := Int.mul_nonneg (sq_nn q) hd
  rw [e]
  unfold flo
  by_cases a : q < 0
  · rw [if_pos a, if_neg (by omega)]
    obtain ⟨f1, f2⟩ := fdiv_spec (a := p + (0 - sq (q * q * d))) hs
    obtain ⟨g1, g2⟩ := fdiv_spec (a := p - sq (q * q * d) - 1) hs
    generalize (p + (0 - sq (q * q * d))).fdiv s = v at *
    generalize (p - sq (q * q * d) - 1).fdiv s = w at *
    have k1 : w ≤ v := by
      refine Int.le_of_lt_add_one (Int.lt_of_not_ge fun z => ?_)
      have := Int.mul_le_mul_of_nonneg_right z (show 0 ≤ s by omega)
      omega
    have k2 : v < w + 2 := by
      refine Int.lt_of_not_ge fun z => ?_
      have := Int.mul_le_mul_of_nonneg_right z (show 0 ≤ s by omega)
      rw [Int.add_mul] at this
      rw [Int.add_mul] at g2
      omega
    omega
  · rw [if_neg a]
    left
    by_cases b : 0 < q
    · rw [if_pos b]
    · rw [if_neg b]
      have z : q = 0 := by omega
      have r0 : sq (q * q * d) = 0 := by rw [z]; simp; rfl
      rw [r0]
      simp
end T4

set_option maxRecDepth 100000
set_option maxHeartbeats 4000000
set_option exponentiation.threshold 20000
namespace T4
open PySem L2 FD
/-- a number that the law's whole part is asked of -/
structure WpOk (p q d s : Int) : Prop where
  s0 : 0 < s
  d0 : 0 ≤ d
  qd : q ≠ 0 → 0 < d
  irr : 0 < d → ∀ a b : Int, a * a = b * b * d → b = 0
  zp : p.natAbs < 2 ^ 1000
  zq : q.natAbs < 2 ^ 1000
  zd : d.natAbs < 2 ^ 40
  zs : s.natAbs < 2 ^ 1000
theorem scale_low {P q d s : Int} (hs : 0 < s) : ∃ g a b c, 0 < g ∧ P = g * a ∧ q = g * b ∧ s = g * c ∧ lowL P q d s = (a, b, (if q = 0 ∨ d = 0 then 0 else d), c) ∨ d = 0 ∧ q ≠ 0 := by
  by_cases z : d = 0 ∧ q ≠ 0
  · exact ⟨1, 0, 0, 0, .inr z⟩
  · have hne : s ≠ 0 := by omega
    obtain ⟨⟨a, ha⟩, ⟨b, hb⟩, ⟨c, hc⟩⟩ := sgc_dvd P q s
    have hg := sgc_ne (p := P) (q := q) hne
    have hgp : 0 < sgc P q s := by
      have := gc_pos (p := P) (q := q) hne
      unfold sgc
      rw [if_neg (by omega)]
      exact this
    have ea : P.fdiv (sgc P q s) = a := by conv => lhs; arg 1; rw [ha]
                                           exact Int.mul_fdiv_cancel_left a hg
    have eb : q.fdiv (sgc P q s) = b := by conv => lhs; arg 1; rw [hb]
                                           exact Int.mul_fdiv_cancel_left b hg
    have ec : s.fdiv (sgc P q s) = c := by conv => lhs; arg 1; rw [hc]
                                           exact Int.mul_fdiv_cancel_left c hg
    refine ⟨sgc P q s, a, b, c, .inl ⟨hgp, ha, hb, hc, ?_⟩⟩
    by_cases hq : q = 0
    · have hb0 : b = 0 := by
        rw [hq] at eb
        rw [Int.zero_fdiv] at eb
        exact eb.symm
      rw [lowL_eq (.inl hq)]
      unfold low
      rw [if_pos hq, if_pos (.inl hq), ea, ec, hb0]
    · have hd : d ≠ 0 := fun w => z ⟨w, hq⟩
      rw [lowL_eq (.inr hd)]
      unfold low
      rw [if_neg hq, if_neg (fun w => w.elim hq hd), ea, eb, ec]
section
variable {p q d s : Int}
theorem add_at (h : WpOk p q d s) {g : Int} (hg : g.natAbs < 2 ^ 1100) : m_law_add [(.tup [.int p, .int q, .int d, .int s]), .tup [.int g, .int 0, .int 0, .int 1]] = some (nm (lowL (p + g * s) q d s)) := by
  have s0 := h.s0
  have e : addL (p, q, d, s) (g, 0, 0, 1) = lowL (p + g * s) q d s := by
    unfold addL rootOf
    dsimp only
    rw [if_neg (by have := h.d0; omega), Int.mul_one, Int.mul_one, Int.mul_one, Int.zero_mul, Int.add_zero]
  have hk : okQ (p, q, d, s) (g, 0, 0, 1) := ⟨h.zd, Nat.two_pow_pos _, by show s ≠ 0; omega, Int.one_ne_zero, ⟨lt_up h.zp, lt_up h.zq, lt_up h.zd, lt_up h.zs⟩, lt_up hg, Nat.two_pow_pos _, Nat.two_pow_pos _, Nat.one_lt_two_pow (by decide)⟩
  rw [← e]
  exact if_pos hk
theorem sign_at (h : WpOk p q d s) {P : Int} (hP : P.natAbs < 2 ^ 2200) : m_law_sign_of [nm (lowL P q d s)] = some (.int (sgS P q d)) := by
  have s0 := h.s0
  have d0 := h.d0
  obtain ⟨g, a, b, c, k | k⟩ := scale_low (P := P) (q := q) (d := d) s0
  · obtain ⟨g0, e1, e2, e3, e4⟩ := k
    rw [e4]
    have part : ∀ {u v : Int} {n : Nat}, u = g * v → u.natAbs < 2 ^ n → v.natAbs < 2 ^ n := fun {u v n} e hu => by
      rw [e, Int.natAbs_mul] at hu
      have := Nat.le_mul_of_pos_left v.natAbs (show 0 < g.natAbs by omega)
      omega
    have c0 : 0 < c := by
      rcases Int.lt_trichotomy c 0 with z | z | z
      · have := Int.mul_neg_of_pos_of_neg g0 z; omega
      · rw [z] at e3; simp at e3; omega
      · exact z
    have ok : SgOk a b (if q = 0 ∨ d = 0 then 0 else d) c := by
      refine ⟨c0, by split <;> omega, fun z => ?_, fun z => ?_, part e1 hP, lt_up (part e2 h.zq), ?_, lt_up (part e3 h.zs)⟩
      · have hq : q ≠ 0 := fun w => z (by rw [w] at e2; exact (Int.mul_eq_zero.mp e2.symm).resolve_left (by omega))
        have := h.qd hq
        rw [if_neg (by omega)]; omega
      · by_cases hq : q = 0
        · have hb : b = 0 := by rw [hq] at e2; exact (Int.mul_eq_zero.mp e2.symm).resolve_left (by omega)
          rw [hb]
          intro w
          simp at w
          exact z ⟨(Int.mul_eq_zero.mp (by simpa using w)).elim id id, hb⟩
        · have hd := h.qd hq
          rw [if_neg (by omega)]
          intro w
          have hb := h.irr hd a b (by omega)
          rw [hb] at e2
          simp at e2
          exact hq e2
      · split
        · exact Nat.two_pow_pos _
        · exact h.zd
    have es : sgS a b (if q = 0 ∨ d = 0 then 0 else d) = sgS P q d := by
      by_cases hq : q = 0
      · have hb : b = 0 := by rw [hq] at e2; exact (Int.mul_eq_zero.mp e2.symm).resolve_left (by omega)
        have e0 : sgS a b (if q = 0 ∨ d = 0 then 0 else d) = sgS a b d := by unfold sgS; rw [hb]; simp
        rw [e0]
        exact sg_scale g0 Int.one_pos (by rw [e1]; grind) (by rw [e2]; grind)
      · have hd := h.qd hq
        rw [if_neg (by omega)]
        exact sg_scale g0 Int.one_pos (by rw [e1]; grind) (by rw [e2]; grind)
    rw [← es]
    exact sign_of_ok ok
  · have := h.qd k.2
    omega
def b_law_whole_part : SF :=
  sSeq (sAsg (eA (aCons (eV 0) (aCons (eC (.int 0)) (aNil))) m_law_scaled) (gNm 1))
  (sSeq (sWh (fun _ => 2) (tBl (e2 (eA (aCons (eA (aCons (eV 0) (aCons (eA (aCons (e2 (eC (.int 0)) (eV 1) dSub) (aCons (eC (.int 0)) (aCons (eC (.int 0)) (aCons (eC (.int 1)) (aNil))))) oTup) (aNil))) m_law_add) (aNil)) m_law_sign_of) (eC (.int 0)) dLt)) (sAsg (e2 (eV 1) (eC (.int 1)) dSub) (gNm 1)))
  (sSeq (sWh (fun _ => 2) (tBl (e2 (eA (aCons (eA (aCons (eV 0) (aCons (eA (aCons (e2 (e2 (eC (.int 0)) (eV 1) dSub) (eC (.int 1)) dSub) (aCons (eC (.int 0)) (aCons (eC (.int 0)) (aCons (eC (.int 1)) (aNil))))) oTup) (aNil))) m_law_add) (aNil)) m_law_sign_of) (eC (.int 0)) dGe)) (sAsg (e2 (eV 1) (eC (.int 1)) dAdd) (gNm 1)))
  (sRt (eV 1))))
def m_law_whole_part : List DV → Option DV := bodyP 1 2 b_law_whole_part
theorem t_law_whole_part : ∀ ds d, m_law_whole_part ds = some d → bodyP 1 2 b_law_whole_part ds = some d := fun _ _ h => h
theorem sz_whole (h : WpOk p q d s) {f g : Int} (hf : f.natAbs < 2 ^ 1050) (hg : g.natAbs < 2 ^ 1100) : (p + g * s).natAbs < 2 ^ 2200 := lt_up (add_lt (a := 2100) (lt_up h.zp) (mul_lt hg h.zs))
theorem c1_ok (h : WpOk p q d s) {f : Int} (hf : f.natAbs < 2 ^ 1090) (sp : Spl) : (tBl (e2 (eA (aCons (eA (aCons (eV 0) (aCons (eA (aCons (e2 (eC (.int 0)) (eV 1) dSub) (aCons (eC (.int 0)) (aCons (eC (.int 0)) (aCons (eC (.int 1)) (aNil))))) oTup) (aNil))) m_law_add) (aNil)) m_law_sign_of) (eC (.int 0)) dLt)) ⟨[some (.dat (.tup [.int p, .int q, .int d, .int s])), some (.dat (.int f))], sp⟩ = some (decide (flo p q d s < f), ⟨[some (.dat (.tup [.int p, .int q, .int d, .int s])), some (.dat (.int f))], sp⟩) := by
  have hg : (0 - f).natAbs < 2 ^ 1100 := lt_up (a := 1090) (by omega)
  have a := add_at h hg
  have b := sign_at h (sz_whole h (f := 0) (by decide) hg)
  have four := four_le
  have e : decide (sgS (p + (0 - f) * s) q d < 0) = decide (flo p q d s < f) := by
    rw [show p + (0 - f) * s = p - f * s by grind]
    exact decide_eq_decide.mpr (sg_flo h.s0 h.d0)
  rw [← e]
  simp only [tBl, e2, eA, aCons, aNil, eV, eC, dSub, oTup, List.length_cons, List.length_nil, Nat.reduceAdd, four, if_true, a, b, dI, List.getElem?_cons_zero, List.getElem?_cons_succ]
theorem c2_ok (h : WpOk p q d s) {f : Int} (hf : f.natAbs < 2 ^ 1090) (sp : Spl) : (tBl (e2 (eA (aCons (eA (aCons (eV 0) (aCons (eA (aCons (e2 (e2 (eC (.int 0)) (eV 1) dSub) (eC (.int 1)) dSub) (aCons (eC (.int 0)) (aCons (eC (.int 0)) (aCons (eC (.int 1)) (aNil))))) oTup) (aNil))) m_law_add) (aNil)) m_law_sign_of) (eC (.int 0)) dGe)) ⟨[some (.dat (.tup [.int p, .int q, .int d, .int s])), some (.dat (.int f))], sp⟩ = some (decide (f + 1 ≤ flo p q d s), ⟨[some (.dat (.tup [.int p, .int q, .int d, .int s])), some (.dat (.int f))], sp⟩) := by
  have hg : (0 - f - 1).natAbs < 2 ^ 1100 := lt_up (sub_lt (a := 1090) (by omega) (show Int.natAbs 1 < 2 ^ 1090 from Nat.one_lt_two_pow (by decide)))
  have a := add_at h hg
  have b := sign_at h (sz_whole h (f := 0) (by decide) hg)
  have four := four_le
  have e : decide (0 ≤ sgS (p + (0 - f - 1) * s) q d) = decide (f + 1 ≤ flo p q d s) := by
    rw [show p + (0 - f - 1) * s = p - (f + 1) * s by grind]
    have := sg_flo (p := p) (q := q) (f := f + 1) h.s0 h.d0
    exact decide_eq_decide.mpr (by omega)
  rw [← e]
  simp only [tBl, e2, eA, aCons, aNil, eV, eC, dSub, oTup, List.length_cons, List.length_nil, Nat.reduceAdd, four, if_true, a, b, dI, List.getElem?_cons_zero, List.getElem?_cons_succ]
theorem whole_ok (h : WpOk p q d s) (hz : (flo p q d s).natAbs < 2 ^ 1080) : m_law_whole_part [(.tup [.int p, .int q, .int d, .int s])] = some (.int (flo p q d s)) := by
  have hz2 : (flo p q d s).natAbs < 2 ^ 1090 := lt_up hz
  have hz3 : (flo p q d s + 1).natAbs < 2 ^ 1090 := lt_up (add_lt (a := 1080) hz (show Int.natAbs 1 < 2 ^ 1080 from Nat.one_lt_two_pow (by decide)))
  have ks : okS p q d s (0 : Int) := by
    have := h.s0
    refine ⟨by decide, by decide, by omega, lt_up h.zs, h.d0, lt_up h.zp, lt_up h.zq, lt_up h.zd, ?_, ?_⟩
    · show ((10 : Int) ^ 0).natAbs < _
      exact Nat.one_lt_two_pow (by decide)
    · show (q * q * d * 10 ^ 0 * 10 ^ 0).natAbs < _
      rw [Int.pow_zero, Int.mul_one, Int.mul_one]
      exact lt_up (mul_lt (mul_lt h.zq h.zq) h.zd)
  have c0 : m_law_scaled [(.tup [.int p, .int q, .int d, .int s]), .int 0] = some (.int (scl p q d s 0)) := by
    unfold m_law_scaled
    dsimp only
    rw [if_pos ks]
    rfl
  have f2 := c2_ok h hz2 spl0
  have g2 : decide (flo p q d s + 1 ≤ flo p q d s) = false := decide_eq_false (by omega)
  rw [g2] at f2
  have f1 := c1_ok h hz2 spl0
  have g1 : decide (flo p q d s < flo p q d s) = false := decide_eq_false (by omega)
  rw [g1] at f1
  unfold m_law_whole_part b_law_whole_part
  rcases scl0 (p := p) (q := q) h.s0 h.d0 with e | e
  · rw [e] at c0
    simp only [bodyP, sSeq, sAsg, eA, aCons, aNil, eV, eC, c0, gNm, sWh, List.length_cons, List.length_nil, Nat.reduceAdd, Nat.reduceSub, if_true, List.map_cons, List.map_nil, List.cons_append, List.nil_append, List.replicate_succ, List.replicate_zero, List.getElem?_cons_zero, List.set_cons_zero, List.set_cons_succ]
    unfold whN
    rw [f1]
    dsimp only
    unfold whN
    rw [f2]
    simp only [sRt, eV, List.getElem?_cons_zero, List.getElem?_cons_succ]
  · rw [e] at c0
    have k1 := c1_ok h hz3 spl0
    have g3 : decide (flo p q d s < flo p q d s + 1) = true := decide_eq_true (by omega)
    rw [g3] at k1
    have e5 : flo p q d s + 1 - 1 = flo p q d s := by omega
    simp only [bodyP, sSeq, sAsg, eA, aCons, aNil, eV, eC, c0, gNm, sWh, List.length_cons, List.length_nil, Nat.reduceAdd, Nat.reduceSub, if_true, List.map_cons, List.map_nil, List.cons_append, List.nil_append, List.replicate_succ, List.replicate_zero, List.getElem?_cons_zero, List.set_cons_zero, List.set_cons_succ]
    unfold whN
    rw [k1]
    simp only [sAsg, e2, eV, eC, dSub, e5, gNm, List.getElem?_cons_zero, List.getElem?_cons_succ, List.set_cons_zero, List.set_cons_succ]
    unfold whN
    rw [f1]
    dsimp only
    unfold whN
    rw [f2]
    simp only [sRt, eV, List.getElem?_cons_zero, List.getElem?_cons_succ]
end
end T4

set_option maxRecDepth 100000
set_option maxHeartbeats 4000000
set_option exponentiation.threshold 20000
namespace T4
open PySem L2 FD
/-! ## two numbers: a fraction between them shows the order -/
/-- no root of d is a fraction -/
def Irr (d : Int) : Prop := ∀ a b : Int, a * a = b * b * d → b = 0
theorem isg_mul (a b : Int) : isg (a * b) = isg a * isg b := by
  rcases Int.lt_trichotomy a 0 with h | h | h <;> rcases Int.lt_trichotomy b 0 with h' | h' | h'
  · rw [isg_neg h, isg_neg h', isg_pos (Int.mul_pos_of_neg_of_neg h h')]; rfl
  · rw [h']; simp [isg_zero]
  · rw [isg_neg h, isg_pos h', isg_neg (Int.mul_neg_of_neg_of_pos h h')]; rfl
  · rw [h]; simp [isg_zero]
  · rw [h]; simp [isg_zero]
  · rw [h]; simp [isg_zero]
  · rw [isg_pos h, isg_neg h', isg_neg (Int.mul_neg_of_pos_of_neg h h')]; rfl
  · rw [h']; simp [isg_zero]
  · rw [isg_pos h, isg_pos h', isg_pos (Int.mul_pos h h')]; rfl
theorem isg_dom {a b : Int} (h : b * b < a * a) : isg (a + b) = isg a := by
  have key : b < a ∧ -b < a ∧ 0 < a ∨ a < b ∧ a < -b ∧ a < 0 := by
    rcases Int.lt_trichotomy a 0 with z | z | z
    · refine .inr ⟨?_, ?_, z⟩
      · by_cases w : a < b
        · exact w
        · have h1 : 0 ≤ (a - b) * (-(a + b)) := Int.mul_nonneg (by omega) (by omega)
          exfalso
          grind
      · by_cases w : a < -b
        · exact w
        · have h1 : 0 ≤ (a + b) * (b - a) := Int.mul_nonneg (by omega) (by omega)
          exfalso
          grind
    · rw [z] at h
      have := sq_nn b
      omega
    · refine .inl ⟨?_, ?_, z⟩
      · by_cases w : b < a
        · exact w
        · have h1 : 0 ≤ (b - a) * (b + a) := Int.mul_nonneg (by omega) (by omega)
          exfalso
          grind
      · by_cases w : -b < a
        · exact w
        · have h1 : 0 ≤ (-b - a) * (a - b) := Int.mul_nonneg (by omega) (by omega)
          exfalso
          grind
  rcases key with ⟨k1, k2, k3⟩ | ⟨k1, k2, k3⟩
  · rw [isg_pos k3, isg_pos (by omega)]
  · rw [isg_neg k3, isg_neg (by omega)]
theorem sq_pos {a : Int} (h : a ≠ 0) : 0 < a * a := by
  have := sq_nn a
  rcases Int.lt_or_eq_of_le this with w | w
  · exact w
  · exact absurd (Int.mul_eq_zero.mp w.symm) (by simp [h])
theorem sg_mul {e P Q P' Q' : Int} (he : 0 < e ∧ Irr e) : sgS (P * P' + Q * Q' * e) (P * Q' + Q * P') e = sgS P Q e * sgS P' Q' e := by
  obtain ⟨e0, irr⟩ := he
  have norm : (P * P' + Q * Q' * e) * (P * P' + Q * Q' * e) - (P * Q' + Q * P') * (P * Q' + Q * P') * e = (P * P - Q * Q * e) * (P' * P' - Q' * Q' * e) := by grind
  by_cases z : P * P = Q * Q * e
  · have q0 := irr _ _ z
    have p0 : P = 0 := by
      rw [q0] at z
      simp at z
      exact (Int.mul_eq_zero.mp z).elim id id
    rw [q0, p0]
    simp [sgS, isg]
  by_cases z' : P' * P' = Q' * Q' * e
  · have q0 := irr _ _ z'
    have p0 : P' = 0 := by
      rw [q0] at z'
      simp at z'
      exact (Int.mul_eq_zero.mp z').elim id id
    rw [q0, p0]
    simp [sgS, isg]
  have nonz : ∀ {A B : Int}, A * A < B * B → B ≠ 0 := by
    intro A B h hb
    have := sq_nn A
    rw [hb] at h
    omega
  unfold sgS
  by_cases h1 : Q * Q * e < P * P <;> by_cases h2 : Q' * Q' * e < P' * P'
  · have := Int.mul_pos (show 0 < P * P - Q * Q * e by omega) (show 0 < P' * P' - Q' * Q' * e by omega)
    rw [if_pos (by omega), if_pos h1, if_pos h2, ← isg_mul]
    refine isg_dom ?_
    have a1 := Int.mul_pos (show 0 < P * P - Q * Q * e by omega) (show 0 < P' * P' by have := sq_nn Q'; have := Int.mul_nonneg this (show 0 ≤ e by omega); omega)
    have a2 := Int.mul_nonneg (show 0 ≤ Q * Q * e by exact Int.mul_nonneg (sq_nn Q) (by omega)) (show 0 ≤ P' * P' - Q' * Q' * e by omega)
    grind
  · have hn := Int.mul_neg_of_pos_of_neg (show 0 < P * P - Q * Q * e by omega) (show P' * P' - Q' * Q' * e < 0 by omega)
    rw [if_neg (by omega), if_pos h1, if_neg h2, ← isg_mul]
    refine isg_dom ?_
    have hQ : 0 < Q' * Q' := by
      refine sq_pos fun w => ?_
      rw [w] at h2 z'
      simp at h2 z'
      have := sq_pos z'
      omega
    have a1 := Int.mul_pos (show 0 < P * P - Q * Q * e by omega) hQ
    have a2 := Int.mul_nonneg (sq_nn Q) (show 0 ≤ Q' * Q' * e - P' * P' by omega)
    grind
  · have hn := Int.mul_neg_of_neg_of_pos (show P * P - Q * Q * e < 0 by omega) (show 0 < P' * P' - Q' * Q' * e by omega)
    rw [if_neg (by omega), if_neg h1, if_pos h2, ← isg_mul, Int.add_comm]
    refine isg_dom ?_
    have hQ : 0 < Q * Q := by
      refine sq_pos fun w => ?_
      rw [w] at h1 z
      simp at h1 z
      have := sq_pos z
      omega
    have a1 := Int.mul_pos hQ (show 0 < P' * P' - Q' * Q' * e by omega)
    have a2 := Int.mul_nonneg (sq_nn Q') (show 0 ≤ Q * Q * e - P * P by omega)
    grind
  · have hn := Int.mul_pos_of_neg_of_neg (show P * P - Q * Q * e < 0 by omega) (show P' * P' - Q' * Q' * e < 0 by omega)
    have e1 : isg (Q * Q' * e) = isg Q * isg Q' := by rw [isg_mul, isg_mul, isg_pos e0, Int.mul_one]
    rw [if_pos (by omega), if_neg h1, if_neg h2, Int.add_comm, ← e1]
    refine isg_dom ?_
    have hQ : 0 < Q * Q * e := by
      have := sq_nn P
      omega
    have a1 := Int.mul_pos hQ (show 0 < Q' * Q' * e - P' * P' by omega)
    have a2 := Int.mul_nonneg (sq_nn P') (show 0 ≤ Q * Q * e - P * P by omega)
    grind
/-! ## comparing -/
theorem isg_tri (n : Int) : isg n = 1 ∨ isg n = 0 ∨ isg n = -1 := by
  unfold isg
  split
  · exact .inl rfl
  · split
    · exact .inr (.inr rfl)
    · exact .inr (.inl rfl)
theorem sg_tri (p q d : Int) : sgS p q d = 1 ∨ sgS p q d = 0 ∨ sgS p q d = -1 := by
  unfold sgS
  split <;> exact isg_tri _
theorem isg_0 {n : Int} (h : isg n = 0) : n = 0 := by
  rcases Int.lt_trichotomy n 0 with z | z | z
  · rw [isg_neg z] at h; omega
  · exact z
  · rw [isg_pos z] at h; omega
theorem isg_1 {n : Int} (h : 0 < isg n) : 0 < n := by
  rcases Int.lt_trichotomy n 0 with z | z | z
  · rw [isg_neg z] at h; omega
  · rw [z] at h; exact absurd h (by decide)
  · exact z
theorem sg_rat (p d : Int) : sgS p 0 d = isg p := by
  unfold sgS
  rw [Int.zero_mul, Int.zero_mul]
  by_cases z : p = 0
  · rw [z]; rfl
  · rw [if_pos (sq_pos z)]
/-- a part of a number: its root is a fraction's only if there is none -/
def Sr (q d : Int) : Prop := 0 ≤ d ∧ (q = 0 ∨ (0 < d ∧ Irr d))
theorem sg_0 {p q d : Int} (h : Sr q d) (hs : sgS p q d = 0) : p = 0 ∧ q = 0 := by
  rcases h.2 with z | ⟨d0, z⟩
  · rw [z, sg_rat] at hs
    exact ⟨isg_0 hs, z⟩
  · unfold sgS at hs
    by_cases w : q * q * d < p * p
    · rw [if_pos w] at hs
      have := isg_0 hs
      rw [this] at w
      have := Int.mul_nonneg (sq_nn q) h.1
      omega
    · rw [if_neg w] at hs
      have q0 := isg_0 hs
      rw [q0] at w
      have := sq_nn p
      have p0 : p * p = 0 := by simp at w; omega
      exact ⟨(Int.mul_eq_zero.mp p0).elim id id, q0⟩
theorem sg_add {P Q P' Q' d : Int} (h1 : Sr Q d) (h2 : Sr Q' d) (a : 0 ≤ sgS P Q d) (b : 0 < sgS P' Q' d) : 0 < sgS (P + P') (Q + Q') d := by
  by_cases hq : Q = 0 ∧ Q' = 0
  · obtain ⟨z1, z2⟩ := hq
    subst z1 z2
    rw [sg_rat] at a b
    rw [Int.add_zero, sg_rat]
    have b1 := isg_1 b
    have a1 : 0 ≤ P := by
      rcases Int.lt_trichotomy P 0 with z | z | z
      · rw [isg_neg z] at a; omega
      · omega
      · omega
    rw [isg_pos (by omega)]
    decide
  · have irr : 0 < d ∧ Irr d := by
      rcases h1.2 with z | z
      · rcases h2.2 with w | w
        · exact absurd ⟨z, w⟩ hq
        · exact w
      · exact z
    by_cases z : sgS P Q d = 0
    · obtain ⟨p0, q0⟩ := sg_0 h1 z
      rw [p0, q0, Int.zero_add, Int.zero_add]
      exact b
    · have u1 : sgS P Q d = 1 := by rcases sg_tri P Q d with w | w | w <;> omega
      have v1 : sgS P' Q' d = 1 := by rcases sg_tri P' Q' d with w | w | w <;> omega
      have N0 : P * P - Q * Q * d ≠ 0 := fun w => by
        have q0 := irr.2 P Q (by omega)
        rw [q0] at w
        have p0 : P = 0 := (Int.mul_eq_zero.mp (by simpa using w)).elim id id
        rw [p0, q0, sg_zero] at u1
        omega
      generalize hN : P * P - Q * Q * d = N at N0
      have NN : 0 < N * N := sq_pos N0
      -- N times the second times the first's conjugate
      have e1 := sg_mul (P := P) (Q := Q) (P' := N * (P' * P - Q' * Q * d)) (Q' := N * (Q' * P - P' * Q)) irr
      have e2 : sgS (P * (N * (P' * P - Q' * Q * d)) + Q * (N * (Q' * P - P' * Q)) * d) (P * (N * (Q' * P - P' * Q)) + Q * (N * (P' * P - Q' * Q * d))) d = sgS P' Q' d :=
        sg_scale (k := 1) (m := N * N) Int.one_pos NN (by rw [← hN]; grind) (by rw [← hN]; grind)
      rw [e2, u1, v1] at e1
      have e3 : sgS (N * (P' * P - Q' * Q * d)) (N * (Q' * P - P' * Q)) d = 1 := by omega
      have e4 : 0 < sgS (N * N + N * (P' * P - Q' * Q * d)) (N * (Q' * P - P' * Q)) d := sg_mono (p := N * (P' * P - Q' * Q * d)) (by omega) (by rw [e3]; decide)
      have e5 : sgS (N * N + N * (P' * P - Q' * Q * d)) (N * (Q' * P - P' * Q)) d = 1 := by
        rcases sg_tri (N * N + N * (P' * P - Q' * Q * d)) (N * (Q' * P - P' * Q)) d with w | w | w <;> omega
      have e6 := sg_mul (P := P) (Q := Q) (P' := N * N + N * (P' * P - Q' * Q * d)) (Q' := N * (Q' * P - P' * Q)) irr
      rw [u1, e5] at e6
      have e7 : sgS (P * (N * N + N * (P' * P - Q' * Q * d)) + Q * (N * (Q' * P - P' * Q)) * d) (P * (N * (Q' * P - P' * Q)) + Q * (N * N + N * (P' * P - Q' * Q * d))) d = sgS (P + P') (Q + Q') d :=
        sg_scale (k := 1) (m := N * N) Int.one_pos NN (by rw [← hN]; grind) (by rw [← hN]; grind)
      rw [← e7, e6]
      decide
theorem sg_more {p p' q d : Int} (h : Sr q d) (hp : p < p') (hs : 0 ≤ sgS p q d) : 0 < sgS p' q d := by
  have := sg_add (P' := p' - p) (Q' := 0) h ⟨h.1, .inl rfl⟩ hs (by rw [sg_rat, isg_pos (by omega)]; decide)
  rw [Int.add_zero, show p + (p' - p) = p' by omega] at this
  exact this
theorem sg_one {p q d : Int} (h : 0 < sgS p q d) : sgS p q d = 1 := by rcases sg_tri p q d with w | w | w <;> omega
theorem sg_neg1 {p q d : Int} (h : sgS p q d < 0) : sgS p q d = -1 := by rcases sg_tri p q d with w | w | w <;> omega
/-- the order where the roots differ -/
def F2 (W L d R e : Int) : Int :=
  if sgS W L d = isg R ∨ isg R = 0 then sgS W L d else
  if sgS W L d = 0 then isg R else
  sgS W L d * sgS (W * W + L * L * d - R * R * e) (2 * W * L) d
theorem F2_neg (W L d R e : Int) : F2 (-W) (-L) d (-R) e = -F2 W L d R e := by
  unfold F2
  rw [sg_negs, isg_negs, Int.neg_mul_neg, Int.neg_mul_neg, Int.neg_mul_neg, show 2 * -W * -L = 2 * W * L by grind]
  by_cases a : sgS W L d = isg R ∨ isg R = 0
  · rw [if_pos a, if_pos (by omega)]
  · rw [if_neg a, if_neg (by omega)]
    by_cases b : sgS W L d = 0
    · rw [if_pos b, if_pos (by omega)]
    · rw [if_neg b, if_neg (by omega), Int.neg_mul]
theorem F2_pos {W L d R e c : Int} (hd : Sr L d) (he : Sr R e) (h1 : 0 < sgS (W + c) L d) (h2 : 0 < sgS (-c) R e) : F2 W L d R e = 1 := by
  -- W + L root d is above -c, and R root e above c
  have up : ∀ w : Int, W + c ≤ w → sgS w L d = 1 := fun w hw => sg_one (sg_mono hw h1)
  have ce : 0 ≤ c → 0 < R ∧ c * c < R * R * e := fun hc => by
    unfold sgS at h2
    rw [Int.neg_mul_neg] at h2
    by_cases w : R * R * e < c * c
    · rw [if_pos w] at h2
      have := isg_1 h2
      omega
    · rw [if_neg w] at h2
      have r0 := isg_1 h2
      refine ⟨r0, ?_⟩
      rcases he.2 with z | ⟨_, z⟩
      · omega
      · have : c * c ≠ R * R * e := fun y => by have := z _ _ y; omega
        omega
  have cn : R < 0 → c < 0 ∧ R * R * e < c * c := fun hr => by
    unfold sgS at h2
    rw [Int.neg_mul_neg] at h2
    by_cases w : R * R * e < c * c
    · rw [if_pos w] at h2
      have := isg_1 h2
      exact ⟨by omega, w⟩
    · rw [if_neg w, isg_neg hr] at h2
      omega
  unfold F2
  rcases Int.lt_trichotomy R 0 with r | r | r
  · obtain ⟨c0, cc⟩ := cn r
    have n1 := up W (by omega)
    rw [isg_neg r, n1, if_neg (by omega), if_neg (by omega), Int.one_mul]
    -- (A + c) (A - c) = A A - c c
    have a1 : sgS (W - c) L d = 1 := up _ (by omega)
    have sr : Sr (2 * W * L) d := ⟨hd.1, hd.2.elim (fun z => .inl (by rw [z]; simp)) .inr⟩
    have a3 : 0 ≤ sgS ((W + c) * (W - c) + L * L * d) ((W + c) * L + L * (W - c)) d := by
      rcases hd.2 with z | z
      · subst z
        rw [show (W + c) * 0 + 0 * (W - c) = 0 by simp, sg_rat]
        have : 0 < (W + c) * (W - c) + 0 * 0 * d := by
          rw [sg_rat] at h1 a1
          have k1 := isg_1 h1
          have k2 : 0 < W - c := isg_1 (by rw [a1]; decide)
          have := Int.mul_pos k1 k2
          simp
          exact this
        rw [isg_pos this]
        decide
      · rw [sg_mul z, a1, sg_one h1]
        decide
    rw [show (W + c) * L + L * (W - c) = 2 * W * L by grind] at a3
    exact sg_one (sg_more sr (by grind) a3)
  · rw [r, isg_zero, if_pos (.inr rfl)]
    refine up W ?_
    have : ¬ 0 < c := fun z => by have := (ce (by omega)).1; omega
    omega
  · rw [isg_pos r]
    by_cases n : sgS W L d = 1
    · rw [if_pos (.inl n), n]
    · rw [if_neg (by omega)]
      by_cases n0 : sgS W L d = 0
      · rw [if_pos n0]
      · rw [if_neg n0]
        have n1 : sgS W L d = -1 := by rcases sg_tri W L d with w | w | w <;> omega
        have c0 : 0 < c := Int.lt_of_not_ge fun z => n (up W (by omega))
        obtain ⟨_, cc⟩ := ce (by omega)
        rw [n1]
        have b1 : 0 < sgS (c - W) (-L) d := by
          have hl : Sr (-L) d := ⟨hd.1, hd.2.elim (fun z => .inl (by rw [z]; rfl)) .inr⟩
          refine sg_more (p := -W) hl (by omega) ?_
          rw [sg_negs, n1]
          decide
        have sr : Sr (-(2 * W * L)) d := ⟨hd.1, hd.2.elim (fun z => .inl (by rw [z]; simp)) .inr⟩
        have a3 : 0 ≤ sgS ((W + c) * (c - W) + L * -L * d) ((W + c) * -L + L * (c - W)) d := by
          rcases hd.2 with z | z
          · subst z
            rw [show (W + c) * -0 + 0 * (c - W) = 0 by simp, sg_rat]
            have : 0 < (W + c) * (c - W) + 0 * -0 * d := by
              rw [sg_rat] at h1
              rw [Int.neg_zero, sg_rat] at b1
              have := Int.mul_pos (isg_1 h1) (isg_1 b1)
              simp
              exact this
            rw [isg_pos this]
            decide
          · rw [sg_mul z, sg_one b1, sg_one h1]
            decide
        rw [show (W + c) * -L + L * (c - W) = -(2 * W * L) by grind] at a3
        have a4 := sg_one (sg_more (p' := -(W * W + L * L * d - R * R * e)) sr (by grind) a3)
        rw [sg_negs] at a4
        omega
theorem cmp_eq (x y : Num) : cmpN x y = if x.2.2.1 = y.2.2.1 then sgS (x.1 * y.2.2.2 - y.1 * x.2.2.2) (x.2.1 * y.2.2.2 + -y.2.1 * x.2.2.2) x.2.2.1
    else F2 (x.1 * y.2.2.2 - y.1 * x.2.2.2) (x.2.1 * y.2.2.2) x.2.2.1 (-y.2.1 * x.2.2.2) y.2.2.1 := rfl
theorem F2_scale {W L d R e T : Int} (hT : 0 < T) : F2 (W * T) (L * T) d (R * T) e = F2 W L d R e := by
  have TT := Int.mul_pos hT hT
  unfold F2
  rw [sg_scale (P := W * T) (Q := L * T) (P' := W) (Q' := L) (k := 1) (m := T) Int.one_pos hT (by grind) (by grind),
    isg_scale (P := R * T) (P' := R) (k := 1) (m := T) Int.one_pos hT (by grind),
    sg_scale (P := W * T * (W * T) + L * T * (L * T) * d - R * T * (R * T) * e) (Q := 2 * (W * T) * (L * T)) (P' := W * W + L * L * d - R * R * e) (Q' := 2 * W * L) (k := 1) (m := T * T) Int.one_pos TT (by grind) (by grind)]
/-- a number of the law's -/
structure Cn1 (x : Num) : Prop where
  s0 : 0 < x.2.2.2
  sr : Sr x.2.1 x.2.2.1
theorem cmp_by {x y : Num} (hx : Cn1 x) (hy : Cn1 y) {T f : Int} (hT : 0 < T) (h1 : 0 < sgS (x.1 * T - f * x.2.2.2) (x.2.1 * T) x.2.2.1) (h2 : sgS (y.1 * T - f * y.2.2.2) (y.2.1 * T) y.2.2.1 < 0) : cmpN x y = 1 ∧ cmpN y x = -1 := by
  obtain ⟨p, q, d, s⟩ := x
  obtain ⟨p', q', d', s'⟩ := y
  obtain ⟨s0, sr⟩ := hx
  obtain ⟨s0', sr'⟩ := hy
  rw [cmp_eq, cmp_eq]
  dsimp only at *
  have mz : ∀ {a b d : Int}, Sr a d → Sr (a * b) d := fun h => ⟨h.1, h.2.elim (fun z => .inl (by rw [z]; simp)) .inr⟩
  have ng : ∀ {a d : Int}, Sr a d → Sr (-a) d := fun h => ⟨h.1, h.2.elim (fun z => .inl (by rw [z]; rfl)) .inr⟩
  have k1 : 0 < sgS ((p * T - f * s) * s') (q * T * s') d := by rw [sg_scale (k := 1) (m := s') (P' := p * T - f * s) (Q' := q * T) Int.one_pos s0' (by grind) (by grind)]; exact h1
  have k2 : 0 < sgS (-((p' * T - f * s') * s)) (-(q' * T * s)) d' := by
    rw [sg_negs, sg_scale (k := 1) (m := s) Int.one_pos s0 (P' := p' * T - f * s') (Q' := q' * T) (by grind) (by grind)]
    omega
  by_cases hd : d = d'
  · subst hd
    rw [if_pos rfl, if_pos rfl]
    have k3 := sg_add (mz (mz sr)) (ng (mz (mz sr'))) (Int.le_of_lt k1) k2
    have k4 : sgS (p * s' - p' * s) (q * s' + -q' * s) d = 1 := by
      rw [← sg_one k3]
      exact sg_scale (k := T) (m := 1) hT Int.one_pos (by grind) (by grind)
    refine ⟨k4, ?_⟩
    rw [show p' * s - p * s' = -(p * s' - p' * s) by omega, show q' * s + -q * s' = -(q * s' + -q' * s) by grind, sg_negs, k4]
  · rw [if_neg hd, if_neg (fun z => hd z.symm)]
    constructor
    · rw [← F2_scale hT]
      refine F2_pos (c := (p' * T - f * s') * s) (mz (mz sr)) (mz (mz (ng sr'))) ?_ ?_
      · rw [show (p * s' - p' * s) * T + (p' * T - f * s') * s = (p * T - f * s) * s' by grind, show q * s' * T = q * T * s' by grind]
        exact k1
      · rw [show -q' * s * T = -(q' * T * s) by grind]
        exact k2
    · have := F2_pos (W := (p * s' - p' * s) * T) (L := -(q' * s) * T) (d := d') (R := q * s' * T) (e := d) (c := -((p * T - f * s) * s')) (mz (ng (mz sr'))) (mz (mz sr)) (by
        rw [show (p * s' - p' * s) * T + -((p * T - f * s) * s') = -((p' * T - f * s') * s) by grind, show -(q' * s) * T = -(q' * T * s) by grind]
        exact k2) (by
        rw [Int.neg_neg, show q * s' * T = q * T * s' by grind]
        exact k1)
      rw [F2_scale hT] at this
      rw [← this, ← F2_neg]
      rw [show -(p * s' - p' * s) = p' * s - p * s' by omega, Int.neg_neg, show -(q * s') = -q * s' by grind]
theorem cmp_self (x : Num) : cmpN x x = 0 := by
  rw [cmp_eq, if_pos rfl, Int.sub_self, show x.2.1 * x.2.2.2 + -x.2.1 * x.2.2.2 = 0 by grind, sg_zero]
/-- what the scaled values tell -/
theorem scl_flo {p q d s : Int} (n : Nat) (hs : 0 < s) (hd : 0 ≤ d) : scl p q d s n = flo (p * 10 ^ n) (q * 10 ^ n) d s ∨ scl p q d s n = flo (p * 10 ^ n) (q * 10 ^ n) d s + 1 := by
  have hT := ten_pos n
  have e : scl p q d s n = scl (p * 10 ^ n) (q * 10 ^ n) d s 0 := by
    unfold scl
    generalize (10 : Int) ^ n = T at *
    simp only [Int.pow_zero, Int.mul_one]
    rw [show q * T * (q * T) * d = q * q * d * T * T by grind]
    have : (0 < q * T) = (0 < q) := propext (pos_mul hT)
    simp only [this]
  rw [e]
  exact scl0 hs hd
theorem scl_tells {x y : Num} (hx : Cn1 x) (hy : Cn1 y) (n : Nat) (h : scl y.1 y.2.1 y.2.2.1 y.2.2.2 n + 4 < scl x.1 x.2.1 x.2.2.1 x.2.2.2 n) : cmpN x y = 1 ∧ cmpN y x = -1 := by
  have hT := ten_pos n
  have fx := scl_flo (p := x.1) (q := x.2.1) n hx.s0 hx.sr.1
  have fy := scl_flo (p := y.1) (q := y.2.1) n hy.s0 hy.sr.1
  have gy := (sg_flo (p := y.1 * 10 ^ n) (q := y.2.1 * 10 ^ n) (f := flo (y.1 * 10 ^ n) (y.2.1 * 10 ^ n) y.2.2.1 y.2.2.2 + 1) hy.s0 hy.sr.1).mpr (by omega)
  have gx := (sg_flo (p := x.1 * 10 ^ n) (q := x.2.1 * 10 ^ n) (f := flo (y.1 * 10 ^ n) (y.2.1 * 10 ^ n) y.2.2.1 y.2.2.2 + 2) hx.s0 hx.sr.1)
  refine cmp_by hx hy hT (sg_more (p := x.1 * 10 ^ n - (flo (y.1 * 10 ^ n) (y.2.1 * 10 ^ n) y.2.2.1 y.2.2.2 + 2) * x.2.2.2) ⟨hx.sr.1, hx.sr.2.elim (fun z => .inl (by rw [z]; simp)) .inr⟩ ?_ ?_) gy
  · have := hx.s0
    grind
  · refine Int.not_lt.mp fun w => ?_
    have := gx.mp w
    omega
end T4

set_option maxRecDepth 100000
set_option maxHeartbeats 4000000
set_option exponentiation.threshold 30000
namespace T4
open PySem L2 FD
/-! ## two numbers that differ are told apart at 2048 places -/
structure Nu (i : Nat) (x : Num) : Prop where
  s0 : 0 < x.2.2.2
  sr : Sr x.2.1 x.2.2.1
  q0 : x.2.1 = 0 → x.2.2.1 = 0
  gc1 : gc x.1 x.2.1 x.2.2.2 = 1
  zp : x.1.natAbs < 2 ^ 1100
  zq : x.2.1.natAbs < 2 ^ i
  zd : x.2.2.1.natAbs < 2 ^ 40
  zs : x.2.2.2.natAbs < 2 ^ i
theorem Nu.cn {i : Nat} {x : Num} (h : Nu i x) : Cn1 x := ⟨h.s0, h.sr⟩
theorem sq_of {a : Int} {b : Nat} (h0 : 0 ≤ a) (h : (a * a).natAbs < 2 ^ (b + b)) : a.natAbs < 2 ^ b := by
  refine Nat.lt_of_not_ge fun w => ?_
  have := Nat.mul_le_mul w w
  rw [← Nat.pow_add, ← Int.natAbs_mul] at this
  omega
theorem nle {a b : Int} {c : Nat} (h0 : 0 ≤ a) (h : a ≤ b) (hb : b.natAbs < 2 ^ c) : a.natAbs < 2 ^ c := by omega
theorem pow_ge {T : Int} {k : Nat} (h : 2 ^ k ≤ T.natAbs) : 2 ^ (k + k) ≤ (T * T).natAbs := by
  rw [Int.natAbs_mul, Nat.pow_add]
  exact Nat.mul_le_mul h h
theorem tooBig {N X : Int} {U : Int} {m n : Nat} (hN : N ≠ 0) (hU : 2 ^ m ≤ U.natAbs) (e : N * U = X) (hX : X.natAbs < 2 ^ n) (h : n ≤ m := by decide) : False := by
  have h1 : U.natAbs ≤ (N * U).natAbs := by
    rw [Int.natAbs_mul]
    exact Nat.le_mul_of_pos_left _ (by omega)
  rw [e] at h1
  have := Nat.pow_le_pow_right (show 0 < 2 by decide) h
  omega
theorem far4 {w a b ea eb N T : Int} (hN : N ≠ 0) (hT : 2 ^ 6800 ≤ T.natAbs) (e : N * ((T * T) * (T * T)) = (w * w + (a * a + ea) - (b * b + eb)) * (w * w + (a * a + ea) - (b * b + eb)) - 4 * (w * w) * (a * a + ea))
    (hE : (w + a + b).natAbs < 2 ^ 1206) (hw : w.natAbs < 2 ^ 8052) (ha : a.natAbs < 2 ^ 8050) (hb : b.natAbs < 2 ^ 8050) (za : ea.natAbs < 2 ^ 9300) (zb : eb.natAbs < 2 ^ 9300) : False := by
  have e' : N * ((T * T) * (T * T)) = (w + a + b) * (w + a - b) * ((w - a + b) * (w - a - b)) + (2 * (w * w + a * a - b * b) * (ea - eb) + ((ea - eb) * (ea - eb) - 4 * (w * w) * ea)) := by
    rw [e]; grind
  have a1 : a.natAbs < 2 ^ 8052 := lt_up ha
  have b1 : b.natAbs < 2 ^ 8053 := lt_up hb
  have f1 : (w + a - b).natAbs < 2 ^ 8054 := sub_lt (add_lt hw a1) b1
  have f2 : (w - a + b).natAbs < 2 ^ 8054 := add_lt (sub_lt hw a1) b1
  have f3 : (w - a - b).natAbs < 2 ^ 8054 := sub_lt (sub_lt hw a1) b1
  have g1 := mul_lt (mul_lt hE f1) (mul_lt f2 f3)
  have g2 : (w * w + a * a - b * b).natAbs < 2 ^ 16106 := sub_lt (a := 16105) (add_lt (a := 16104) (mul_lt hw hw) (mul_lt a1 a1)) (lt_up (mul_lt hb hb))
  have g3 : (ea - eb).natAbs < 2 ^ 9301 := sub_lt za zb
  have g4 : (2 * (w * w + a * a - b * b) * (ea - eb)).natAbs < 2 ^ (2 + 16106 + 9301) := mul_lt (mul_lt (by decide) g2) g3
  have g5 := mul_lt g3 g3
  have g6 : (4 * (w * w) * ea).natAbs < 2 ^ (3 + (8052 + 8052) + 9300) := mul_lt (mul_lt (by decide) (mul_lt hw hw)) za
  have g7 : ((ea - eb) * (ea - eb) - 4 * (w * w) * ea).natAbs < 2 ^ 25501 := sub_lt (a := 25500) (lt_up g5) (lt_up g6)
  have g8 : (2 * (w * w + a * a - b * b) * (ea - eb) + ((ea - eb) * (ea - eb) - 4 * (w * w) * ea)).natAbs < 2 ^ 25502 := add_lt (lt_up g4) g7
  have g9 := add_lt (a := 25600) (lt_up g1) (lt_up g8)
  exact tooBig hN (pow_ge (pow_ge hT)) e' g9
/-- the root of a part, at T -/
structure Ro (q d T r : Int) : Prop where
  r0 : 0 ≤ r
  lo : r * r ≤ q * q * d * T * T
  hi : q * q * d * T * T < (r + 1) * (r + 1)
theorem ro_at {q d T : Int} (hd : 0 ≤ d) (hT : 0 ≤ T) : Ro q d T (sq (q * q * d * T * T)) := by
  obtain ⟨a, b, c⟩ := sq_spec (Int.mul_nonneg (Int.mul_nonneg (Int.mul_nonneg (sq_nn q) hd) hT) hT)
  exact ⟨a, b, c⟩
theorem ro_sz {q d T r : Int} {i : Nat} (h : Ro q d T r) (hq : q.natAbs < 2 ^ i) (hd : d.natAbs < 2 ^ 40) (hT : T.natAbs < 2 ^ 6804) : r.natAbs < 2 ^ (i + 6824) := by
  refine sq_of h.r0 (nle (sq_nn r) h.lo ?_)
  have := mul_lt (mul_lt (mul_lt (mul_lt hq hq) hd) hT) hT
  rw [show i + 6824 + (i + 6824) = i + i + 40 + 6804 + 6804 by omega]
  exact this
def sgd (q r : Int) : Int := if 0 < q then r else 0 - r
theorem sgd_sq (q r : Int) : sgd q r * sgd q r = r * r := by
  unfold sgd
  split
  · rfl
  · grind
theorem sgd_sz {q r : Int} {b : Nat} (h : r.natAbs < 2 ^ b) : (sgd q r).natAbs < 2 ^ b := by
  unfold sgd
  split <;> omega
/-- what is left of two scaled values that are near -/
theorem near_E {p q s p' q' s' T r r' : Int} {i j : Nat} (s0 : 0 < s) (s0' : 0 < s') (zs : s.natAbs < 2 ^ i) (zs' : s'.natAbs < 2 ^ j)
    (h : ((p * T + sgd q r).fdiv s - (p' * T + sgd q' r').fdiv s').natAbs ≤ 4) :
    ((p * s' - p' * s) * T + s' * sgd q r + -(s * sgd q' r')).natAbs < 2 ^ (i + j + 5) := by
  obtain ⟨f1, f2⟩ := fdiv_spec (a := p * T + sgd q r) s0
  obtain ⟨g1, g2⟩ := fdiv_spec (a := p' * T + sgd q' r') s0'
  generalize hA : p * T + sgd q r = A at *
  generalize hB : p' * T + sgd q' r' = B at *
  generalize A.fdiv s = v at *
  generalize B.fdiv s' = v' at *
  have e : (p * s' - p' * s) * T + s' * sgd q r + -(s * sgd q' r') = s * s' * (v - v') + (s' * (A - v * s) - s * (B - v' * s')) := by
    rw [← hA, ← hB]; grind
  rw [e]
  have f3 : A < v * s + s := by rw [Int.add_mul] at f2; omega
  have g3 : B < v' * s' + s' := by rw [Int.add_mul] at g2; omega
  have h1 : (A - v * s).natAbs < 2 ^ i := by omega
  have h2 : (B - v' * s').natAbs < 2 ^ j := by omega
  have h3 : (v - v').natAbs < 2 ^ 3 := by omega
  have k1 := mul_lt (mul_lt zs zs') h3
  have k2 := mul_lt zs' h1
  have k3 := mul_lt zs h2
  have k4 := sub_lt (a := i + j) (lt_up k2 (by omega)) (lt_up k3 (by omega))
  exact lt_up (add_lt k1 (lt_up k4 (by omega))) (by omega)
theorem big10 : 2 ^ 6800 ≤ ((10 : Int) ^ 2048).natAbs := by
  rw [Int.natAbs_pow]
  decide +kernel
theorem big10' : ((10 : Int) ^ 2048).natAbs < 2 ^ 6804 := by
  rw [Int.natAbs_pow]
  decide +kernel
theorem apart4 {i j : Nat} {x y : Num} (hx : Nu i x) (hy : Nu j y) (hij : i + j ≤ 1200) (hd : x.2.2.1 ≠ y.2.2.1) (hirr : x.2.1 ≠ 0 → y.2.1 ≠ 0 → Irr (x.2.2.1 * y.2.2.1)) :
    4 < (scl x.1 x.2.1 x.2.2.1 x.2.2.2 2048 - scl y.1 y.2.1 y.2.2.1 y.2.2.2 2048).natAbs := by
  refine Nat.lt_of_not_ge fun h => ?_
  obtain ⟨p, q, d, s⟩ := x
  obtain ⟨p', q', d', s'⟩ := y
  obtain ⟨s0, sr, q0, -, -, zq, zd, zs⟩ := hx
  obtain ⟨s0', sr', q0', -, -, zq', zd', zs'⟩ := hy
  dsimp only at *
  have T0 := ten_pos 2048
  have R1 := ro_at (q := q) sr.1 (Int.le_of_lt T0)
  have R2 := ro_at (q := q') sr'.1 (Int.le_of_lt T0)
  have hT := big10
  have hT' := big10'
  unfold scl at h
  generalize (10 : Int) ^ 2048 = T at *
  generalize sq (q * q * d * T * T) = r at *
  generalize sq (q' * q' * d' * T * T) = r' at *
  have hE := near_E (q := q) (q' := q') s0 s0' zs zs' h
  have z1 := ro_sz R1 zq zd hT'
  have z2 := ro_sz R2 zq' zd' hT'
  have za := mul_lt zs' (sgd_sz (q := q) z1)
  have zb := mul_lt zs (sgd_sz (q := q') z2)
  have za' : (s' * sgd q r).natAbs < 2 ^ 8050 := lt_up za (by omega)
  have zb' : (-(s * sgd q' r')).natAbs < 2 ^ 8050 := neg_lt (lt_up zb (by omega))
  have hE' : ((p * s' - p' * s) * T + s' * sgd q r + -(s * sgd q' r')).natAbs < 2 ^ 1206 := lt_up hE (by omega)
  have zw : ((p * s' - p' * s) * T).natAbs < 2 ^ 8052 := by
    have := sub_lt (sub_lt (a := 8050) (lt_up hE') za') (lt_up zb')
    rw [show (p * s' - p' * s) * T + s' * sgd q r + -(s * sgd q' r') - s' * sgd q r - -(s * sgd q' r') = (p * s' - p' * s) * T by omega] at this
    exact this
  have ze : ∀ {u v z : Int} {k l : Nat}, z.natAbs < 2 ^ k → v.natAbs < 2 ^ l → 0 ≤ v → v * v ≤ u → u < (v + 1) * (v + 1) → (z * z * (u - v * v)).natAbs < 2 ^ (k + k + (l + 2)) := fun {u v z k l} hz hv v0 h1 h2 => by
    refine mul_lt (mul_lt hz hz) ?_
    have e : (v + 1) * (v + 1) = v * v + 2 * v + 1 := by grind
    have : (2 * v).natAbs < 2 ^ (2 + l) := mul_lt (by decide) hv
    rw [Nat.add_comm 2 l] at this
    omega
  have y1 := ze zs' z1 R1.r0 R1.lo R1.hi
  have y2 := ze zs z2 R2.r0 R2.lo R2.hi
  refine far4 (w := (p * s' - p' * s) * T) (a := s' * sgd q r) (b := -(s * sgd q' r')) (ea := s' * s' * (q * q * d * T * T - r * r)) (eb := s * s * (q' * q' * d' * T * T - r' * r'))
    (N := ((p * s' - p' * s) * (p * s' - p' * s) + (q * s') * (q * s') * d - (q' * s) * (q' * s) * d') * ((p * s' - p' * s) * (p * s' - p' * s) + (q * s') * (q * s') * d - (q' * s) * (q' * s) * d') - 4 * ((p * s' - p' * s) * (p * s' - p' * s)) * ((q * s') * (q * s') * d)) ?_ hT ?_ hE' zw za' zb' (lt_up y1 (by omega)) (lt_up y2 (by omega))
  · generalize p * s' - p' * s = W
    intro hN
    have l0 : q ≠ 0 → q * s' ≠ 0 := fun w z => (Int.mul_eq_zero.mp z).elim w (by omega)
    have l0' : q' ≠ 0 → q' * s ≠ 0 := fun w z => (Int.mul_eq_zero.mp z).elim w (by omega)
    generalize q * s' = L at *
    generalize hR : q' * s = R at *
    rcases sr.2 with z | ⟨d0, irr⟩
    · have d00 := q0 z
      rw [d00] at hd hN
      simp only [Int.mul_zero, Int.add_zero, Int.sub_zero] at hN
      have m0 : W * W - R * R * d' = 0 := (Int.mul_eq_zero.mp hN).elim id id
      have hq' : q' ≠ 0 := fun w => hd (q0' w).symm
      rcases sr'.2 with w | ⟨_, w⟩
      · exact hq' w
      · exact l0' hq' (w W R (by omega))
    · have hq : q ≠ 0 := fun w => by have := q0 w; omega
      have n0 := irr (W * W + L * L * d - R * R * d') (2 * W * L) (by grind)
      have w0 : W = 0 := by
        rcases Int.mul_eq_zero.mp n0 with u | u
        · omega
        · exact absurd u (l0 hq)
      subst w0
      have m0 : 0 * 0 + L * L * d - R * R * d' = 0 := by
        have : (0 * 0 + L * L * d - R * R * d') * (0 * 0 + L * L * d - R * R * d') = 0 := by
          simp only [Int.mul_zero, Int.zero_mul, Int.sub_zero, Int.zero_add] at hN ⊢
          exact hN
        exact (Int.mul_eq_zero.mp this).elim id id
      by_cases z : q' = 0
      · have d00 := q0' z
        rw [d00] at m0
        have : 0 < L * L * d := Int.mul_pos (sq_pos (l0 hq)) d0
        omega
      · exact l0' z (hirr hq z (L * d) R (by grind))
  · have k1 : s' * sgd q r * (s' * sgd q r) = s' * s' * (r * r) := by rw [← sgd_sq q r]; grind
    have k2 : -(s * sgd q' r') * -(s * sgd q' r') = s * s * (r' * r') := by rw [← sgd_sq q' r']; grind
    rw [k1, k2]
    grind
theorem near_tau {q d T r t : Int} (R : Ro q d T r) (R1 : Ro 1 d T t) : (sgd q r - q * t).natAbs ≤ q.natAbs := by
  obtain ⟨r0, lo, hi⟩ := R
  obtain ⟨t0, lo1, hi1⟩ := R1
  rw [show 1 * 1 * d * T * T = d * T * T by simp] at lo1 hi1
  have key : ∀ m : Int, 0 ≤ m → m * m = q * q → m * t ≤ r ∧ r ≤ m * t + m := fun m m0 e => by
    have e1 : q * q * d * T * T = m * m * (d * T * T) := by rw [e]; grind
    rw [e1] at lo hi
    have mm := Int.mul_nonneg m0 m0
    constructor
    · refine Int.le_of_lt_add_one (lt_of_sq (by omega) ?_)
      have := Int.mul_le_mul_of_nonneg_left lo1 mm
      have e2 : m * t * (m * t) = m * m * (t * t) := by grind
      omega
    · have e2 : (m * t + m) * (m * t + m) = m * m * ((t + 1) * (t + 1)) := by grind
      have := Int.mul_le_mul_of_nonneg_left (Int.le_of_lt hi1) mm
      have z := Int.mul_nonneg m0 t0
      refine Int.le_of_lt_add_one (lt_of_sq (by omega) ?_)
      have e3 : (m * t + m + 1) * (m * t + m + 1) = (m * t + m) * (m * t + m) + 2 * (m * t + m) + 1 := by grind
      omega
  unfold sgd
  by_cases a : 0 < q
  · rw [if_pos a]
    obtain ⟨k1, k2⟩ := key q (by omega) rfl
    omega
  · rw [if_neg a]
    obtain ⟨k1, k2⟩ := key (-q) (by omega) (Int.neg_mul_neg q q)
    rw [Int.neg_mul] at k1 k2
    omega
theorem gc_same {a b c a' b' c' : Int} (hg : gc a b c = 1) (e1 : a * c' = a' * c) (e2 : b * c' = b' * c) : c ∣ c' := by
  have d1 : c.natAbs ∣ c'.natAbs * a.natAbs := by
    rw [← Int.natAbs_mul, Int.natAbs_dvd_natAbs]
    exact ⟨a', by rw [Int.mul_comm c' a, e1, Int.mul_comm]⟩
  have d2 : c.natAbs ∣ c'.natAbs * b.natAbs := by
    rw [← Int.natAbs_mul, Int.natAbs_dvd_natAbs]
    exact ⟨b', by rw [Int.mul_comm c' b, e2, Int.mul_comm]⟩
  have d3 : c.natAbs ∣ c'.natAbs * c.natAbs := Nat.dvd_mul_left _ _
  have d4 := Nat.dvd_gcd (Nat.dvd_gcd d1 d2) d3
  rw [Nat.gcd_mul_left, Nat.gcd_mul_left] at d4
  have d5 : (a.natAbs.gcd b.natAbs).gcd c.natAbs = 1 := by unfold gc at hg; omega
  rw [d5, Nat.mul_one] at d4
  exact Int.natAbs_dvd_natAbs.mp d4
theorem same_of {i j : Nat} {x y : Num} (hx : Nu i x) (hy : Nu j y) (hd : x.2.2.1 = y.2.2.1) (h1 : x.1 * y.2.2.2 = y.1 * x.2.2.2) (h2 : x.2.1 * y.2.2.2 = y.2.1 * x.2.2.2) : x = y := by
  obtain ⟨a, b, d, c⟩ := x
  obtain ⟨a', b', d', c'⟩ := y
  have p1 := hx.s0
  have q1 := hy.s0
  have k1 := gc_same hx.gc1 h1 h2
  have k2 := gc_same hy.gc1 h1.symm h2.symm
  dsimp only at *
  have hc : c = c' := by
    have := Int.le_of_dvd q1 k1
    have := Int.le_of_dvd p1 k2
    omega
  subst hc
  have ha : a = a' := Int.eq_of_mul_eq_mul_right (by omega) h1
  have hb : b = b' := Int.eq_of_mul_eq_mul_right (by omega) h2
  rw [ha, hb, hd]
theorem apart1 {x y : Num} (hx : Nu 1100 x) (hy : Nu 1100 y) (hd : x.2.2.1 = y.2.2.1) (hne : x ≠ y) : 4 < (scl x.1 x.2.1 x.2.2.1 x.2.2.2 2048 - scl y.1 y.2.1 y.2.2.1 y.2.2.2 2048).natAbs := by
  refine Nat.lt_of_not_ge fun h => ?_
  have hsame := same_of hx hy hd
  obtain ⟨p, q, d, s⟩ := x
  obtain ⟨p', q', d', s'⟩ := y
  obtain ⟨s0, sr, q0, -, -, zq, zd, zs⟩ := hx
  obtain ⟨s0', sr', q0', -, -, zq', zd', zs'⟩ := hy
  dsimp only at *
  subst hd
  have T0 := ten_pos 2048
  have R1 := ro_at (q := q) sr.1 (Int.le_of_lt T0)
  have R2 := ro_at (q := q') sr'.1 (Int.le_of_lt T0)
  have Rt := ro_at (q := 1) sr.1 (Int.le_of_lt T0)
  have hT := big10
  have hT' := big10'
  unfold scl at h
  generalize (10 : Int) ^ 2048 = T at *
  generalize sq (q * q * d * T * T) = r at *
  generalize sq (q' * q' * d * T * T) = r' at *
  generalize sq (1 * 1 * d * T * T) = t at *
  have hE := near_E (q := q) (q' := q') s0 s0' zs zs' h
  have n1 := near_tau R1 Rt
  have n2 := near_tau R2 Rt
  have zt := ro_sz (i := 1) Rt (by decide) zd hT'
  have zM : (q * s' - q' * s).natAbs < 2 ^ 2201 := sub_lt (mul_lt zq zs') (mul_lt zq' zs)
  have x1 : (s' * (sgd q r - q * t)).natAbs < 2 ^ 2200 := mul_lt zs' (show (sgd q r - q * t).natAbs < 2 ^ 1100 by omega)
  have x2 : (s * (sgd q' r' - q' * t)).natAbs < 2 ^ 2201 := lt_up (mul_lt zs (show (sgd q' r' - q' * t).natAbs < 2 ^ 1100 by omega))
  have zE : ((p * s' - p' * s) * T + (q * s' - q' * s) * t).natAbs < 2 ^ 2207 := by
    have := add_lt (sub_lt (a := 2205) (lt_up hE) (lt_up x1)) (lt_up x2)
    rw [show (p * s' - p' * s) * T + s' * sgd q r + -(s * sgd q' r') - s' * (sgd q r - q * t) + s * (sgd q' r' - q' * t) = (p * s' - p' * s) * T + (q * s' - q' * s) * t by grind] at this
    exact this
  have hN : (p * s' - p' * s) * (p * s' - p' * s) - (q * s' - q' * s) * (q * s' - q' * s) * d ≠ 0 := fun w => by
    have m0 : q * s' - q' * s = 0 := by
      rcases sr.2 with z | ⟨_, z⟩
      · rcases sr'.2 with u | ⟨_, u⟩
        · rw [z, u]; simp
        · exact u _ _ (Int.eq_of_sub_eq_zero w)
      · exact z _ _ (Int.eq_of_sub_eq_zero w)
    rw [m0] at w
    simp only [Int.mul_zero, Int.zero_mul, Int.sub_zero] at w
    have w0 : p * s' - p' * s = 0 := (Int.mul_eq_zero.mp w).elim id id
    exact hne (hsame (Int.eq_of_sub_eq_zero w0) (Int.eq_of_sub_eq_zero m0))
  generalize p * s' - p' * s = W at *
  generalize q * s' - q' * s = M at *
  obtain ⟨t0, lo, hi⟩ := Rt
  rw [show 1 * 1 * d * T * T = d * T * T by simp] at lo hi
  have e3 : (t + 1) * (t + 1) = t * t + 2 * t + 1 := by grind
  have zMt : (2 * (M * t)).natAbs < 2 ^ (2 + (2201 + (1 + 6824))) := mul_lt (by decide) (mul_lt zM zt)
  have ze : (d * T * T - t * t).natAbs < 2 ^ 6828 := by
    have : (2 * t).natAbs < 2 ^ (2 + (1 + 6824)) := mul_lt (by decide) zt
    have := lt_up this (b := 6828)
    omega
  have e4 : (W * W - M * M * d) * (T * T) = (W * T + M * t) * (W * T + M * t - 2 * (M * t)) - M * M * (d * T * T - t * t) := by grind
  have g1 : (W * T + M * t - 2 * (M * t)).natAbs < 2 ^ 9031 := sub_lt (a := 9030) (lt_up zE) (lt_up zMt)
  have g2 := mul_lt zE g1
  have g3 := mul_lt (mul_lt zM zM) ze
  have g4 := sub_lt (a := 12000) (lt_up g2) (lt_up g3)
  exact tooBig hN (pow_ge hT) e4 g4
end T4

set_option maxRecDepth 100000
set_option maxHeartbeats 4000000
set_option exponentiation.threshold 13000
namespace FD
open PySem PySem.Spec PyProof.Rows L2
/-! ## the text of data: its size, its code points -/
mutual
def wid : PyData → Nat
  | .none => 4
  | .bool _ => 5
  | .int _ => 4302
  | .str x => (reprText x).length
  | .list xs => wids xs + 3
  | .tuple xs => wids xs + 3
  | .dict _ => 0
def wids : List PyData → Nat
  | [] => 0
  | x :: xs => wid x + 2 + wids xs
end
mutual
def okStr : PyData → Bool
  | .str x => PyData.strOk (reprText x)
  | .list xs => okStrs xs
  | .tuple xs => okStrs xs
  | .dict _ => false
  | _ => true
def okStrs : List PyData → Bool
  | [] => true
  | x :: xs => okStr x && okStrs xs
end
theorem ok_of (x : String) : PyData.strOk (Str.ofString x) = true := by
  unfold PyData.strOk
  rw [Str.ofString_eq_toList]
  simp only [List.all_toArray, List.all_map, List.all_eq_true, Function.comp_apply, decide_eq_true_eq]
  intro c _
  have := c.valid
  have h2 : c.val.toNat < 0x110000 := by
    rcases this with h | ⟨_, h⟩ <;> omega
  exact h2
theorem ok_app {x y : Str} (hx : PyData.strOk x = true) (hy : PyData.strOk y = true) : PyData.strOk (x ++ y) = true := by
  unfold PyData.strOk at *
  show (x.cps ++ y.cps).all _ = true
  rw [Array.all_append, hx, hy]
  rfl
theorem ok_join (sep : Str) (hs : PyData.strOk sep = true) : ∀ ts : List Str, (∀ t ∈ ts, PyData.strOk t = true) → PyData.strOk (Str.join sep ts) = true
  | [], _ => by show PyData.strOk Str.empty = true; simp [PyData.strOk, Str.empty]
  | [x], h => h x List.mem_cons_self
  | x :: y :: r, h => by
    show PyData.strOk (x ++ sep ++ Str.join sep (y :: r)) = true
    exact ok_app (ok_app (h x List.mem_cons_self) hs) (ok_join sep hs (y :: r) fun t ht => h t (List.mem_cons_of_mem _ ht))
mutual
theorem wid_le : ∀ (p : PyData), okW p = true → p.shown.length ≤ wid p
  | .none, _ => by rw [PyData.shown]; decide
  | .bool true, _ => by rw [PyData.shown]; decide
  | .bool false, _ => by rw [PyData.shown]; decide
  | .int i, h => by
    rw [PyData.shown, PySem.ofString_length]
    have h1 : i.natAbs.log2 < 12900 := by simpa [okW] using h
    have e := int_text_length_le10 (k := 4300) (by decide) (lt_pow h1)
    unfold wid
    omega
  | .str x, _ => by rw [PyData.shown]; unfold wid; exact Nat.le_refl _
  | .list xs, h => by
    rw [PyData.shown]
    have h1 := wids_le xs (by simpa [okW] using h)
    have h2 := listText_len_le (PyData.shownAll xs)
    unfold wid
    omega
  | .tuple xs, h => by
    rw [PyData.shown]
    have h1 := wids_le xs (by simpa [okW] using h)
    have h2 := tupleText_len_le (PyData.shownAll xs)
    unfold wid
    omega
  | .dict _, h => by simp [okW] at h
theorem wids_le : ∀ (xs : List PyData), okWs xs = true → ((PyData.shownAll xs).map (·.length)).sum + 2 * (PyData.shownAll xs).length ≤ wids xs
  | [], _ => by simp [PyData.shownAll, wids]
  | x :: xs, h => by
    have hs2 : okW x = true ∧ okWs xs = true := by simpa [okWs] using h
    have h1 := wid_le x hs2.1
    have h2 := wids_le xs hs2.2
    rw [PyData.shownAll, List.map_cons, List.sum_cons, List.length_cons]
    unfold wids
    omega
end
mutual
theorem shown_ok : ∀ (p : PyData), okStr p = true → PyData.strOk p.shown = true
  | .none, _ => by rw [PyData.shown]; exact ok_of _
  | .bool true, _ => by rw [PyData.shown]; exact ok_of _
  | .bool false, _ => by rw [PyData.shown]; exact ok_of _
  | .int i, h => by rw [PyData.shown]; exact ok_of _
  | .str x, h => by rw [PyData.shown]; exact h
  | .list xs, h => by
    rw [PyData.shown, listText_eq_join]
    exact ok_app (ok_app (ok_of _) (ok_join _ (ok_of _) _ (showns_ok xs (by simpa [okStr] using h)))) (ok_of _)
  | .tuple xs, h => by
    rw [PyData.shown]
    unfold tupleText
    exact ok_app (ok_app (ok_of _) (ok_join _ (ok_of _) _ (showns_ok xs (by simpa [okStr] using h)))) (ok_of _)
  | .dict _, h => by simp [okStr] at h
theorem showns_ok : ∀ (xs : List PyData), okStrs xs = true → ∀ t ∈ PyData.shownAll xs, PyData.strOk t = true
  | [], _, t, ht => by simp [PyData.shownAll] at ht
  | x :: xs, h, t, ht => by
    have hs2 : okStr x = true ∧ okStrs xs = true := by simpa [okStrs] using h
    rw [PyData.shownAll, List.mem_cons] at ht
    rcases ht with e | e
    · rw [e]; exact shown_ok x hs2.1
    · exact showns_ok xs hs2.2 t e
end
/-- the same data on both sides have the same text -/
theorem dEq_str {t : Str} (ht : PyData.strOk t = true) : dEq (.str t) (.str t) = some (.bl true) := by
  have h : toPy (.str t) = some (.str t) := rfl
  unfold dEq
  rw [h]
  have h2 : SeqAt.shaped (.str t) = true := by simp [SeqAt.shaped, PyData.canLay0, PyData.depth, ht]
  have h3 : PyData.eqv (.str t) (.str t) = true := by simp [PyData.eqv]
  simp only [h2, h3, Bool.and_self, if_true]
theorem reprD {d : DV} {p : PyData} (hp : toPy d = some p) (h1 : okW p = true) (h2 : okStr p = true) (h3 : p.depth ≤ 64) (h4 : wid p ≤ 16777216) : ∃ t, dReprW [d] = some (.str t) ∧ dEq (.str t) (.str t) = some (.bl true) := by
  have hw : okShowW p = true := by
    unfold okShowW
    have := wid_le p h1
    rw [h1, decide_eq_true h3, decide_eq_true (show p.shown.length ≤ sizeLine by rw [sizeLine_eq]; omega)]
    rfl
  refine ⟨p.shown, ?_, dEq_str (shown_ok p h2)⟩
  unfold dReprW
  simp only [hp, hw, if_true]
end FD

set_option maxRecDepth 100000
set_option maxHeartbeats 4000000
set_option exponentiation.threshold 30000
namespace T4
open PySem L2 FD
local macro_rules | `(tactic| walk_at "fd") => `(tactic| simp only [bodyP, bodyS, bodyR, sSeq, sIf, sNx, sRt, sRtX, sAsgX, sRs, eX, eJs, eJn, dFmt, sAsg, sDr, sPar, sAug, sSp, sOwn, sApp, lDs, eSp, eS, tBl, tTr, tAn, tOo, tNo, eC, eV, eA, eIf, eAn, eOo, eNo, e1, e2, eIxN, FD.peek, aCons, aNil, gNm, gTp, gLs, gCo, gNi, dI, dAddI, dMulI, dAdd, dSub, dMul, dFdiv, dMod, dNeg, dGcd, dMax, dMin, dAbs, dSq, dLen, dEq_int, dNe_int, dIx, oTup, oLst, truD, List.length_cons, List.length_nil, List.map_cons, List.map_nil, List.cons_append, List.nil_append, List.replicate_succ, List.replicate_zero, List.getElem?_cons_zero, List.getElem?_cons_succ, List.set_cons_succ, List.set_cons_zero, Nat.reduceAdd, Nat.reduceSub, Nat.sub_self, if_true, decide_true, decide_false, Bool.not_true, Bool.not_false, Bool.false_eq_true, if_false, reduceCtorEq, *])
/-! ## the law's roots -/
theorem irr_between {n k : Nat} (h1 : k * k < n) (h2 : n < (k + 1) * (k + 1)) : Irr (n : Int) := by
  intro p q e
  have e1 : p.natAbs * p.natAbs = q.natAbs * q.natAbs * n := by
    have := congrArg Int.natAbs e
    rw [Int.natAbs_mul, Int.natAbs_mul, Int.natAbs_mul] at this
    simpa using this
  have d1 : q.natAbs ^ 2 ∣ p.natAbs ^ 2 := ⟨n, by rw [Nat.pow_two, Nat.pow_two]; exact e1⟩
  have d2 : q.natAbs ∣ p.natAbs := (Nat.pow_dvd_pow_iff (by decide)).mp d1
  obtain ⟨m, hm⟩ := d2
  by_cases z : q = 0
  · exact z
  · exfalso
    have zp : 0 < q.natAbs * q.natAbs := Nat.mul_pos (by omega) (by omega)
    have e2 : m * m = n := by
      refine Nat.eq_of_mul_eq_mul_left zp ?_
      rw [hm] at e1
      rw [← e1]
      exact (Nat.mul_mul_mul_comm _ _ _ _).symm
    rcases Nat.lt_or_ge k m with w | w
    · have := Nat.mul_le_mul (show k + 1 ≤ m from w) (show k + 1 ≤ m from w)
      omega
    · have := Nat.mul_le_mul w w
      omega
def Rt (d : Int) : Prop := d = 2 ∨ d = 3 ∨ d = 5 ∨ d = 6 ∨ d = 7 ∨ d = 11 ∨ d = 13 ∨ d = 21 ∨ d = 9999999967
theorem Rt.pos {d : Int} (h : Rt d) : 0 < d := by unfold Rt at h; omega
theorem Rt.sz {d : Int} (h : Rt d) : d.natAbs < 2 ^ 40 := by unfold Rt at h; omega
theorem Rt.irr {d : Int} (h : Rt d) : Irr d := by
  unfold Rt at h
  rcases h with h | h | h | h | h | h | h | h | h <;> subst h
  · exact irr_between (n := 2) (k := 1) (by decide) (by decide)
  · exact irr_between (n := 3) (k := 1) (by decide) (by decide)
  · exact irr_between (n := 5) (k := 2) (by decide) (by decide)
  · exact irr_between (n := 6) (k := 2) (by decide) (by decide)
  · exact irr_between (n := 7) (k := 2) (by decide) (by decide)
  · exact irr_between (n := 11) (k := 3) (by decide) (by decide)
  · exact irr_between (n := 13) (k := 3) (by decide) (by decide)
  · exact irr_between (n := 21) (k := 4) (by decide) (by decide)
  · exact irr_between (n := 9999999967) (k := 99999) (by decide) (by decide)
theorem Rt.irr2 {d e : Int} (h : Rt d) (k : Rt e) (ne : d ≠ e) : Irr (d * e) := by
  unfold Rt at h k
  rcases h with h | h | h | h | h | h | h | h | h <;> subst h <;> rcases k with k | k | k | k | k | k | k | k | k <;> subst k
  · exact absurd rfl ne
  · exact irr_between (n := 6) (k := 2) (by decide) (by decide)
  · exact irr_between (n := 10) (k := 3) (by decide) (by decide)
  · exact irr_between (n := 12) (k := 3) (by decide) (by decide)
  · exact irr_between (n := 14) (k := 3) (by decide) (by decide)
  · exact irr_between (n := 22) (k := 4) (by decide) (by decide)
  · exact irr_between (n := 26) (k := 5) (by decide) (by decide)
  · exact irr_between (n := 42) (k := 6) (by decide) (by decide)
  · exact irr_between (n := 19999999934) (k := 141421) (by decide) (by decide)
  · exact irr_between (n := 6) (k := 2) (by decide) (by decide)
  · exact absurd rfl ne
  · exact irr_between (n := 15) (k := 3) (by decide) (by decide)
  · exact irr_between (n := 18) (k := 4) (by decide) (by decide)
  · exact irr_between (n := 21) (k := 4) (by decide) (by decide)
  · exact irr_between (n := 33) (k := 5) (by decide) (by decide)
  · exact irr_between (n := 39) (k := 6) (by decide) (by decide)
  · exact irr_between (n := 63) (k := 7) (by decide) (by decide)
  · exact irr_between (n := 29999999901) (k := 173205) (by decide) (by decide)
  · exact irr_between (n := 10) (k := 3) (by decide) (by decide)
  · exact irr_between (n := 15) (k := 3) (by decide) (by decide)
  · exact absurd rfl ne
  · exact irr_between (n := 30) (k := 5) (by decide) (by decide)
  · exact irr_between (n := 35) (k := 5) (by decide) (by decide)
  · exact irr_between (n := 55) (k := 7) (by decide) (by decide)
  · exact irr_between (n := 65) (k := 8) (by decide) (by decide)
  · exact irr_between (n := 105) (k := 10) (by decide) (by decide)
  · exact irr_between (n := 49999999835) (k := 223606) (by decide) (by decide)
  · exact irr_between (n := 12) (k := 3) (by decide) (by decide)
  · exact irr_between (n := 18) (k := 4) (by decide) (by decide)
  · exact irr_between (n := 30) (k := 5) (by decide) (by decide)
  · exact absurd rfl ne
  · exact irr_between (n := 42) (k := 6) (by decide) (by decide)
  · exact irr_between (n := 66) (k := 8) (by decide) (by decide)
  · exact irr_between (n := 78) (k := 8) (by decide) (by decide)
  · exact irr_between (n := 126) (k := 11) (by decide) (by decide)
  · exact irr_between (n := 59999999802) (k := 244948) (by decide) (by decide)
  · exact irr_between (n := 14) (k := 3) (by decide) (by decide)
  · exact irr_between (n := 21) (k := 4) (by decide) (by decide)
  · exact irr_between (n := 35) (k := 5) (by decide) (by decide)
  · exact irr_between (n := 42) (k := 6) (by decide) (by decide)
  · exact absurd rfl ne
  · exact irr_between (n := 77) (k := 8) (by decide) (by decide)
  · exact irr_between (n := 91) (k := 9) (by decide) (by decide)
  · exact irr_between (n := 147) (k := 12) (by decide) (by decide)
  · exact irr_between (n := 69999999769) (k := 264575) (by decide) (by decide)
  · exact irr_between (n := 22) (k := 4) (by decide) (by decide)
  · exact irr_between (n := 33) (k := 5) (by decide) (by decide)
  · exact irr_between (n := 55) (k := 7) (by decide) (by decide)
  · exact irr_between (n := 66) (k := 8) (by decide) (by decide)
  · exact irr_between (n := 77) (k := 8) (by decide) (by decide)
  · exact absurd rfl ne
  · exact irr_between (n := 143) (k := 11) (by decide) (by decide)
  · exact irr_between (n := 231) (k := 15) (by decide) (by decide)
  · exact irr_between (n := 109999999637) (k := 331662) (by decide) (by decide)
  · exact irr_between (n := 26) (k := 5) (by decide) (by decide)
  · exact irr_between (n := 39) (k := 6) (by decide) (by decide)
  · exact irr_between (n := 65) (k := 8) (by decide) (by decide)
  · exact irr_between (n := 78) (k := 8) (by decide) (by decide)
  · exact irr_between (n := 91) (k := 9) (by decide) (by decide)
  · exact irr_between (n := 143) (k := 11) (by decide) (by decide)
  · exact absurd rfl ne
  · exact irr_between (n := 273) (k := 16) (by decide) (by decide)
  · exact irr_between (n := 129999999571) (k := 360555) (by decide) (by decide)
  · exact irr_between (n := 42) (k := 6) (by decide) (by decide)
  · exact irr_between (n := 63) (k := 7) (by decide) (by decide)
  · exact irr_between (n := 105) (k := 10) (by decide) (by decide)
  · exact irr_between (n := 126) (k := 11) (by decide) (by decide)
  · exact irr_between (n := 147) (k := 12) (by decide) (by decide)
  · exact irr_between (n := 231) (k := 15) (by decide) (by decide)
  · exact irr_between (n := 273) (k := 16) (by decide) (by decide)
  · exact absurd rfl ne
  · exact irr_between (n := 209999999307) (k := 458257) (by decide) (by decide)
  · exact irr_between (n := 19999999934) (k := 141421) (by decide) (by decide)
  · exact irr_between (n := 29999999901) (k := 173205) (by decide) (by decide)
  · exact irr_between (n := 49999999835) (k := 223606) (by decide) (by decide)
  · exact irr_between (n := 59999999802) (k := 244948) (by decide) (by decide)
  · exact irr_between (n := 69999999769) (k := 264575) (by decide) (by decide)
  · exact irr_between (n := 109999999637) (k := 331662) (by decide) (by decide)
  · exact irr_between (n := 129999999571) (k := 360555) (by decide) (by decide)
  · exact irr_between (n := 209999999307) (k := 458257) (by decide) (by decide)
  · exact absurd rfl ne
theorem Good.nu {b c : Nat} {d : Int} {x : Num} (h : Good b c d x) (r : Rt d) (hb : b ≤ 1100) : Nu c x := by
  obtain ⟨s0, dd, g, zp, zq, zs⟩ := h
  refine ⟨s0, ?_, fun z => by rw [dd, if_pos z], g, lt_up zp hb, zq, ?_, zs⟩
  · rw [dd]
    by_cases z : x.2.1 = 0
    · rw [if_pos z]
      exact ⟨Int.le_refl 0, .inl z⟩
    · rw [if_neg z]
      exact ⟨Int.le_of_lt r.pos, .inr ⟨r.pos, r.irr⟩⟩
  · rw [dd]
    split
    · exact Nat.two_pow_pos _
    · exact r.sz
theorem Good.up {b c b' c' : Nat} {d : Int} {x : Num} (h : Good b c d x) (hb : b ≤ b') (hc : c ≤ c') : Good b' c' d x :=
  ⟨h.s0, h.dd, h.gc1, lt_up h.zp hb, lt_up h.zq hc, lt_up h.zs hc⟩
/-- two numbers that the law holds against each other -/
structure Pair (x y : Num) : Prop where
  nx : Nu 1100 x
  ny : Nu 1100 y
  far : x ≠ y → 4 < (scl x.1 x.2.1 x.2.2.1 x.2.2.2 2048 - scl y.1 y.2.1 y.2.2.1 y.2.2.2 2048).natAbs
theorem Nu.up {i j : Nat} {x : Num} (h : Nu i x) (hij : i ≤ j) : Nu j x := ⟨h.s0, h.sr, h.q0, h.gc1, h.zp, lt_up h.zq hij, h.zd, lt_up h.zs hij⟩
theorem Pair.symm {x y : Num} (h : Pair x y) : Pair y x := ⟨h.ny, h.nx, fun w => by have := h.far (fun z => w z.symm); omega⟩
theorem pair_of {i j : Nat} {b b' : Nat} {d e : Int} {x y : Num} (hx : Good b i d x) (hy : Good b' j e y) (rd : Rt d) (re : Rt e) (hb : b ≤ 1100) (hb' : b' ≤ 1100) (hi : i ≤ 1100) (hj : j ≤ 1100) (h : d = e ∨ i + j ≤ 1200) (hz : x.2.2.1 = y.2.2.1 ∨ i + j ≤ 1200) : Pair x y := by
  refine ⟨(hx.nu rd hb).up hi, (hy.nu re hb').up hj, fun ne => ?_⟩
  by_cases z : x.2.2.1 = y.2.2.1
  · exact apart1 ((hx.nu rd hb).up hi) ((hy.nu re hb').up hj) z ne
  · refine apart4 (hx.nu rd hb) (hy.nu re hb') (hz.resolve_left z) z fun q q' => ?_
    have e1 := hx.dd
    have e2 := hy.dd
    rw [if_neg q] at e1
    rw [if_neg q'] at e2
    rw [e1, e2] at z ⊢
    exact rd.irr2 re z
/-! ## the law's order is the order -/
theorem dNe_nm (x y : Num) : dNe (nm x) (nm y) = some (.bl (!decide (x = y))) := by
  obtain ⟨a, b, c, d⟩ := x
  obtain ⟨a', b', c', d'⟩ := y
  have h : toPy (nm (a, b, c, d)) = some (.tuple [.int a, .int b, .int c, .int d]) := rfl
  have h0 : toPy (nm (a', b', c', d')) = some (.tuple [.int a', .int b', .int c', .int d']) := rfl
  have h2 : SeqAt.shaped (.tuple [.int a, .int b, .int c, .int d]) = true := rfl
  have h3 : SeqAt.shaped (.tuple [.int a', .int b', .int c', .int d']) = true := rfl
  unfold dNe
  simp only [h, h0, h2, h3, Bool.and_self, if_true]
  congr 2
  simp only [PyData.eqv, PyData.eqvAll, Bool.and_true]
  by_cases z1 : a = a' <;> by_cases z2 : b = b' <;> by_cases z3 : c = c' <;> by_cases z4 : d = d' <;> simp [z1, z2, z3, z4]
theorem ten_small2 {n : Nat} (h : n ≤ 2048) : ((10 : Int) ^ n).natAbs < 2 ^ 6804 := by
  rw [Int.natAbs_pow]
  have h4 : (10 : Nat) ^ 2048 < 2 ^ 6804 := by decide +kernel
  have h5 : (10 : Nat) ^ n ≤ 10 ^ 2048 := Nat.pow_le_pow_right (by decide) h
  exact Nat.lt_of_le_of_lt h5 h4
theorem Nu.okS {x : Num} (h : Nu 1100 x) {n : Nat} (hn : n ≤ 2048) : okS x.1 x.2.1 x.2.2.1 x.2.2.2 (n : Int) := by
  have zt := ten_small2 hn
  have s0 := h.s0
  refine ⟨Int.natCast_nonneg _, by omega, Int.ne_of_gt s0, lt_up h.zs, h.sr.1, lt_up h.zp, lt_up h.zq, lt_up h.zd, ?_, ?_⟩
  · rw [Int.toNat_natCast]; exact lt_up zt
  · rw [Int.toNat_natCast]; exact lt_up (mul_lt (mul_lt (mul_lt (mul_lt h.zq h.zq) h.zd) zt) zt)
def sclN (x : Num) (n : Nat) : Int := scl x.1 x.2.1 x.2.2.1 x.2.2.2 n
theorem scaled_ok {x : Num} (h : Nu 1100 x) {n : Nat} (hn : n ≤ 2048) : m_law_scaled [nm x, .int (n : Int)] = some (.int (sclN x n)) := by
  unfold m_law_scaled nm
  dsimp only
  rw [if_pos (h.okS hn), Int.toNat_natCast]
  rfl
def cBody : SF := (sSeq (sPar 3 4 (aCons (eA (aCons (eV 0) (aCons (eV 2) (aNil))) m_law_scaled) (aCons (eA (aCons (eV 1) (aCons (eV 2) (aNil))) m_law_scaled) (aNil))))
  (sSeq (sIf (tBl (e2 (eA (aCons (e2 (eV 3) (eV 4) dSub) (aNil)) dAbs) (eC (.int 4)) dGt)) (sRt (eIf (tBl (e2 (eV 3) (eV 4) dGt)) (eC (.int 1)) (e2 (eC (.int 0)) (eC (.int 1)) dSub))) (sNx))
  (sAsg (e2 (eC (.int 2)) (eV 2) dMul) (gNm 2))))
theorem cmp_loop {x y : Num} (h : Pair x y) (ne : x ≠ y) : ∀ (m k : Nat) (x3 x4 : Option SV) (sp : Spl), 1 ≤ k → k ≤ 11 → 12 ≤ m + k →
    ∃ s', whN m (tBl (e2 (eV 0) (eV 1) dNe)) cBody ⟨[some (.dat (nm x)), some (.dat (nm y)), some (.dat (.int ((2 ^ k : Nat) : Int))), x3, x4], sp⟩ = some (.rt (.int (cmpN x y)) s') := by
  intro m
  induction m with
  | zero =>
    intro k x3 x4 sp k1 k2 k3
    omega
  | succ m ih =>
    intro k x3 x4 sp k1 k2 k3
    have hk : 2 ^ k ≤ 2048 := by
      have := Nat.pow_le_pow_right (show 0 < 2 by decide) k2
      exact this
    have c1 := scaled_ok h.nx hk
    have c2 := scaled_ok h.ny hk
    have cd : (tBl (e2 (eV 0) (eV 1) dNe)) ⟨[some (.dat (nm x)), some (.dat (nm y)), some (.dat (.int ((2 ^ k : Nat) : Int))), x3, x4], sp⟩ = some (true, ⟨[some (.dat (nm x)), some (.dat (nm y)), some (.dat (.int ((2 ^ k : Nat) : Int))), x3, x4], sp⟩) := by
      have e := dNe_nm x y
      rw [decide_eq_false ne, Bool.not_false] at e
      simp only [tBl, e2, eV, List.getElem?_cons_zero, List.getElem?_cons_succ, e]
    have t1 : sclN y (2 ^ k) + 4 < sclN x (2 ^ k) → cmpN x y = 1 := fun w => (scl_tells h.nx.cn h.ny.cn _ w).1
    have t2 : sclN x (2 ^ k) + 4 < sclN y (2 ^ k) → cmpN x y = -1 := fun w => (scl_tells h.ny.cn h.nx.cn _ w).2
    have far : k = 11 → 4 < (sclN x (2 ^ k) - sclN y (2 ^ k)).natAbs := fun z => by subst z; exact h.far ne
    clear h
    generalize sclN x (2 ^ k) = u at *
    generalize sclN y (2 ^ k) = v at *
    have pnt : ∀ {i j : Nat}, True := trivial
    unfold whN
    rw [cd]
    clear cd
    unfold cBody
    by_cases v1 : v + 4 < u
    · have a1 : (if u - v < 0 then -(u - v) else u - v) = u - v := if_neg (by omega)
      have a2 : decide (4 < u - v) = true := decide_eq_true (by omega)
      have a3 : decide (v < u) = true := decide_eq_true (by omega)
      rw [t1 v1]
      clear t1 t2 far ih v1
      exact ⟨_, by
        simp only [sSeq, sPar, sAsg, eA, aCons, aNil, eV, c1, c2, gNm, sIf, tBl, e2, eC, dAbs, a1, dI, a2, sRt, eIf, a3, dSub, List.getElem?_cons_zero, List.getElem?_cons_succ, List.set_cons_zero, List.set_cons_succ]
        rfl⟩
    · by_cases v2 : u + 4 < v
      · have a1 : (if u - v < 0 then -(u - v) else u - v) = -(u - v) := if_pos (by omega)
        have a2 : decide (4 < -(u - v)) = true := decide_eq_true (by omega)
        have a3 : decide (v < u) = false := decide_eq_false (by omega)
        rw [t2 v2]
        clear t1 t2 far ih v1 v2
        exact ⟨_, by
          simp only [sSeq, sPar, sAsg, eA, aCons, aNil, eV, c1, c2, gNm, sIf, tBl, e2, eC, dAbs, a1, dI, a2, sRt, eIf, a3, dSub, List.getElem?_cons_zero, List.getElem?_cons_succ, List.set_cons_zero, List.set_cons_succ]
          rfl⟩
      · have k10 : k ≠ 11 := fun z => by have := far z; omega
        have a2 : decide (4 < (if u - v < 0 then -(u - v) else u - v)) = false := decide_eq_false (by split <;> omega)
        have f1 : fitM 2 ((2 ^ k : Nat) : Int) = true := fit_of (a := 2) (b := 20) (by decide) (by rw [Int.natAbs_natCast]; exact Nat.lt_of_le_of_lt hk (by decide))
        have e2k : (2 : Int) * ((2 ^ k : Nat) : Int) = ((2 ^ (k + 1) : Nat) : Int) := by rw [Nat.pow_succ]; omega
        obtain ⟨s', e⟩ := ih (k + 1) (some (.dat (.int u))) (some (.dat (.int v))) sp (by omega) (by omega) (by omega)
        refine ⟨s', ?_⟩
        clear t1 t2 far ih v1 v2
        unfold cBody at e
        simp only [sSeq, sPar, sAsg, eA, aCons, aNil, eV, c1, c2, gNm, sIf, tBl, e2, eC, dAbs, dI, a2, sNx, dSub, dMul, f1, if_true, e2k, List.getElem?_cons_zero, List.getElem?_cons_succ, List.set_cons_zero, List.set_cons_succ]
        exact e
def b_law_compared : SF :=
  sSeq (sAsg (eC (.int 2)) (gNm 2))
  (sSeq (sWh (fun _ => 12) (tBl (e2 (eV 0) (eV 1) dNe)) (sSeq (sPar 3 4 (aCons (eA (aCons (eV 0) (aCons (eV 2) (aNil))) m_law_scaled) (aCons (eA (aCons (eV 1) (aCons (eV 2) (aNil))) m_law_scaled) (aNil))))
  (sSeq (sIf (tBl (e2 (eA (aCons (e2 (eV 3) (eV 4) dSub) (aNil)) dAbs) (eC (.int 4)) dGt)) (sRt (eIf (tBl (e2 (eV 3) (eV 4) dGt)) (eC (.int 1)) (e2 (eC (.int 0)) (eC (.int 1)) dSub))) (sNx))
  (sAsg (e2 (eC (.int 2)) (eV 2) dMul) (gNm 2)))))
  (sRt (eC (.int 0))))
def m_law_compared : List DV → Option DV := bodyP 2 5 b_law_compared
theorem t_law_compared : ∀ ds d, m_law_compared ds = some d → bodyP 2 5 b_law_compared ds = some d := fun _ _ h => h
theorem compared_ok {x y : Num} (h : Pair x y) : m_law_compared [nm x, nm y] = some (.int (cmpN x y)) := by
  have eb : b_law_compared = sSeq (sAsg (eC (.int 2)) (gNm 2)) (sSeq (sWh (fun _ => 12) (tBl (e2 (eV 0) (eV 1) dNe)) cBody) (sRt (eC (.int 0)))) := rfl
  unfold m_law_compared
  rw [eb]
  by_cases ne : x = y
  · subst ne
    have hw : whN 12 (tBl (e2 (eV 0) (eV 1) dNe)) cBody ⟨[some (.dat (nm x)), some (.dat (nm x)), some (.dat (.int 2)), none, none], spl0⟩ = some (.nx ⟨[some (.dat (nm x)), some (.dat (nm x)), some (.dat (.int 2)), none, none], spl0⟩) := by
      have e := dNe_nm x x
      rw [decide_eq_true rfl, Bool.not_true] at e
      unfold whN
      simp only [tBl, e2, eV, List.getElem?_cons_zero, List.getElem?_cons_succ, e]
    rw [cmp_self]
    simp only [bodyP, sSeq, sAsg, eC, gNm, sWh, hw, sRt, List.length_cons, List.length_nil, List.map_cons, List.map_nil, List.cons_append, List.nil_append, List.replicate_succ, List.replicate_zero, List.set_cons_zero, List.set_cons_succ, Nat.reduceAdd, Nat.reduceSub, if_true]
  · obtain ⟨s', hw⟩ := cmp_loop h ne 12 1 none none spl0 (by decide) (by decide) (by decide)
    have e2' : ((2 ^ 1 : Nat) : Int) = 2 := rfl
    rw [e2'] at hw
    simp only [bodyP, sSeq, sAsg, eC, gNm, sWh, List.length_cons, List.length_nil, List.map_cons, List.map_nil, List.cons_append, List.nil_append, List.replicate_succ, List.replicate_zero, List.set_cons_zero, List.set_cons_succ, Nat.reduceAdd, Nat.reduceSub, if_true]
    rw [hw]
theorem compare_ok {x y : Num} (h : Pair x y) : m_compare [nm x, nm y] = some (.int (cmpN x y)) :=
  if_pos ⟨⟨lt_up h.nx.zp, lt_up h.nx.zq, lt_up h.nx.zd, lt_up h.nx.zs⟩, ⟨lt_up h.ny.zp, lt_up h.ny.zq, lt_up h.ny.zd, lt_up h.ny.zs⟩⟩
/-! ## alike -/
def b_law_alike : SF :=
  sRt (e2 (eA (aCons (eV 0) (aNil)) dReprW) (eA (aCons (eV 1) (aNil)) dReprW) dEq)
def m_law_alike : List DV → Option DV := bodyP 2 2 b_law_alike
theorem t_law_alike : ∀ ds d, m_law_alike ds = some d → bodyP 2 2 b_law_alike ds = some d := fun _ _ h => h
theorem alike_of {d : DV} {p : PyData} (hp : toPy d = some p) (h1 : okW p = true) (h2 : okStr p = true) (h3 : p.depth ≤ 64) (h4 : wid p ≤ 16777216) : m_law_alike [d, d] = some (.bl true) := by
  obtain ⟨t, e, ht⟩ := reprD hp h1 h2 h3 h4
  clear hp h1 h2 h3 h4
  unfold m_law_alike b_law_alike
  walk_at "fd"
theorem log_sz {n : Int} {b : Nat} (h : n.natAbs < 2 ^ b) (hb : b < 12900 := by decide) : decide (n.natAbs.log2 < 12900) = true := decide_eq_true (by have := log2_lt_of h; omega)
theorem alike_int {n : Int} (h : n.natAbs < 2 ^ 2) : m_law_alike [.int n, .int n] = some (.bl true) := by
  refine alike_of (p := .int n) rfl ?_ rfl (by simp [PyData.depth]) (by simp [wid])
  simp only [okW, log_sz h]
theorem alike_two {m n : Int} (h : m.natAbs < 2 ^ 2) (k : n.natAbs < 2 ^ 1200) : m_law_alike [.lst [.int m, .int n], .lst [.int m, .int n]] = some (.bl true) := by
  refine alike_of (p := .list [.int m, .int n]) rfl ?_ rfl (by simp [PyData.depth, PyData.depthAll]) (by simp [wid, wids])
  simp only [okW, okWs, log_sz h, log_sz k, Bool.and_self]
end T4

set_option maxRecDepth 100000
set_option maxHeartbeats 4000000
set_option exponentiation.threshold 30000
namespace T4
open PySem L2 FD
/-! ## a number near another -/
theorem fdiv_le {A s : Int} (hs : 0 < s) : (A.fdiv s).natAbs ≤ A.natAbs := by
  obtain ⟨h1, h2⟩ := fdiv_spec (a := A) hs
  generalize A.fdiv s = v at *
  rcases Int.le_total 0 v with w | w
  · have := Int.mul_le_mul_of_nonneg_left (show (1 : Int) ≤ s by omega) w
    omega
  · by_cases z : v = 0
    · omega
    · have := Int.mul_le_mul_of_nonneg_left (show (1 : Int) ≤ s by omega) (show 0 ≤ -(v + 1) by omega)
      have e : -(v + 1) * s = -((v + 1) * s) := Int.neg_mul _ _
      omega
theorem sq_sz {n : Int} {b : Nat} (h0 : 0 ≤ n) (h : n.natAbs < 2 ^ (b + b)) : (sq n).natAbs < 2 ^ b := by
  obtain ⟨r0, r1, _⟩ := sq_spec h0
  exact sq_of r0 (nle (sq_nn _) r1 h)
theorem ten_11 {n : Nat} (h : n ≤ 11) : ((10 : Int) ^ n).natAbs < 2 ^ 40 := by
  rw [Int.natAbs_pow]
  have h5 : (10 : Nat) ^ n ≤ 10 ^ 11 := Nat.pow_le_pow_right (by decide) h
  exact Nat.lt_of_le_of_lt h5 (by decide)
theorem rr_sz {q d T : Int} (hq : q.natAbs < 2 ^ 1000) (hd : d.natAbs < 2 ^ 40) (d0 : 0 ≤ d) (hT : T.natAbs < 2 ^ 40) (T0 : 0 ≤ T) : (sq (q * q * d * T * T)).natAbs < 2 ^ 1060 :=
  sq_sz (Int.mul_nonneg (Int.mul_nonneg (Int.mul_nonneg (sq_nn q) d0) T0) T0) (lt_up (mul_lt (mul_lt (mul_lt (mul_lt hq hq) hd) hT) hT))
section
variable {x : Num} {d : Int}
theorem Good.d0 (h : Good 1000 1000 d x) (rd : Rt d) : 0 ≤ x.2.2.1 ∧ x.2.2.1.natAbs < 2 ^ 40 := by
  rw [h.dd]
  split
  · exact ⟨Int.le_refl 0, Nat.two_pow_pos _⟩
  · exact ⟨Int.le_of_lt rd.pos, rd.sz⟩
theorem scl_sz (h : Good 1000 1000 d x) (rd : Rt d) {n : Nat} (hn : n ≤ 11) : (sclN x n).natAbs < 2 ^ 1062 := by
  obtain ⟨d0, zd⟩ := h.d0 rd
  have zt := ten_11 hn
  have T0 := ten_pos n
  have zr := rr_sz h.zq zd d0 zt (Int.le_of_lt T0)
  unfold sclN scl
  refine Nat.lt_of_le_of_lt (fdiv_le h.s0) (add_lt (a := 1061) (lt_up (mul_lt h.zp zt)) ?_)
  have := sgd_sz (q := x.2.1) zr
  exact lt_up this
theorem flo_sz (h : Good 1000 1000 d x) (rd : Rt d) : (flo x.1 x.2.1 x.2.2.1 x.2.2.2).natAbs < 2 ^ 1070 := by
  obtain ⟨d0, zd⟩ := h.d0 rd
  have zr := rr_sz (T := 1) h.zq zd d0 (by decide) (by decide)
  rw [Int.mul_one, Int.mul_one] at zr
  have zp := h.zp
  have z1 : x.1.natAbs < 2 ^ 1060 := lt_up zp
  unfold flo
  have hs := h.s0
  split
  · refine Nat.lt_of_le_of_lt (fdiv_le hs) (lt_up (sub_lt (sub_lt z1 zr) (Nat.one_lt_two_pow (by decide))))
  · exact Nat.lt_of_le_of_lt (fdiv_le hs) (lt_up (add_lt z1 zr))
theorem Good.wp (h : Good 1000 1000 d x) (rd : Rt d) : WpOk x.1 x.2.1 x.2.2.1 x.2.2.2 := by
  obtain ⟨d0, zd⟩ := h.d0 rd
  refine ⟨h.s0, d0, fun w => ?_, fun w => ?_, h.zp, h.zq, zd, h.zs⟩
  · rw [h.dd, if_neg w]; exact rd.pos
  · have e := h.dd
    by_cases z : x.2.1 = 0
    · rw [if_pos z] at e; omega
    · rw [if_neg z] at e; rw [e]; exact rd.irr
theorem Good.sg (h : Good 1000 1000 d x) (rd : Rt d) : SgOk x.1 x.2.1 x.2.2.1 x.2.2.2 := by
  obtain ⟨d0, zd⟩ := h.d0 rd
  have wp := h.wp rd
  refine ⟨h.s0, d0, wp.qd, fun w z => ?_, lt_up h.zp, lt_up h.zq, zd, lt_up h.zs⟩
  by_cases q0 : x.2.1 = 0
  · rw [q0] at z
    simp only [Int.mul_zero, Int.zero_mul, Int.sub_zero] at z
    exact w ⟨(Int.mul_eq_zero.mp z).elim id id, q0⟩
  · exact q0 (wp.irr (wp.qd q0) _ _ (Int.eq_of_sub_eq_zero z))
theorem whole_at (h : Good 1000 1000 d x) (rd : Rt d) : m_law_whole_part [nm x] = some (.int (flo x.1 x.2.1 x.2.2.1 x.2.2.2)) := whole_ok (h.wp rd) (lt_up (flo_sz h rd))
theorem sign_law (h : Good 1000 1000 d x) (rd : Rt d) : m_law_sign_of [nm x] = some (.int (sgS x.1 x.2.1 x.2.2.1)) := sign_of_ok (h.sg rd)
theorem sign_prog (h : Good 1000 1000 d x) (rd : Rt d) : m_sign [nm x] = some (.int (sgS x.1 x.2.1 x.2.2.1)) := by
  have ok : Sz 1000000 x.1 ∧ Sz 1000000 x.2.1 ∧ Sz 1000000 x.2.2.1 := ⟨lt_up h.zp, lt_up h.zq, lt_up (h.d0 rd).2⟩
  unfold m_sign nm
  dsimp only
  rw [if_pos ok]
theorem floor_prog (h : Good 1000 1000 d x) (rd : Rt d) : m_floor [nm x] = some (.int (flo x.1 x.2.1 x.2.2.1 x.2.2.2)) := by
  have ok : okFl x.1 x.2.1 x.2.2.1 x.2.2.2 := ⟨Int.ne_of_gt h.s0, Int.mul_nonneg (sq_nn _) (h.d0 rd).1, lt_up h.zp, lt_up h.zq, lt_up (h.d0 rd).2, lt_up h.zs⟩
  unfold m_floor nm
  dsimp only
  rw [if_pos ok]
theorem neg_law (x : Num) : m_law_negative [nm x] = some (nm (0 - x.1, 0 - x.2.1, x.2.2.1, x.2.2.2)) := rfl
theorem neg_good {b c : Nat} (h : Good b c d x) : Good b c d (0 - x.1, 0 - x.2.1, x.2.2.1, x.2.2.2) := by
  have zp := h.zp
  have zq := h.zq
  refine ⟨h.s0, ?_, ?_, ?_, ?_, h.zs⟩
  · show x.2.2.1 = if 0 - x.2.1 = 0 then 0 else d
    rw [h.dd]
    by_cases z : x.2.1 = 0
    · rw [if_pos z, if_pos (by omega)]
    · rw [if_neg z, if_neg (by omega)]
  · have := h.gc1
    unfold gc at *
    show (((0 - x.1).natAbs.gcd (0 - x.2.1).natAbs).gcd x.2.2.2.natAbs : Int) = 1
    rw [show (0 - x.1).natAbs = x.1.natAbs by omega, show (0 - x.2.1).natAbs = x.2.1.natAbs by omega]
    exact this
  · show (0 - x.1).natAbs < _
    rw [show (0 - x.1).natAbs = x.1.natAbs by omega]
    exact zp
  · show (0 - x.2.1).natAbs < _
    rw [show (0 - x.2.1).natAbs = x.2.1.natAbs by omega]
    exact zq
end
theorem int_good {b : Nat} {F s : Int} (hF : F.natAbs < 2 ^ b) (hs : s ≠ 0) (zs : s.natAbs < 2 ^ 40) : Good b 40 2 (lowL F 0 0 s) :=
  low_good (d := 2) (q := 0) (b := b) (c := 40) hs (by decide) hF (Nat.two_pow_pos _) zs
theorem entire_eq (F : Int) : lowL F 0 0 1 = (F, 0, 0, 1) := by
  have e : gc F 0 1 = 1 := by unfold gc; simp
  have e2 : sgc F 0 1 = 1 := by unfold sgc; rw [if_neg (by decide), e]
  show low F 0 0 1 = _
  unfold low
  rw [if_pos rfl, e2, Int.fdiv_one, Int.fdiv_one]
theorem more_eq (F : Int) : addL (F, 0, 0, 1) (1, 0, 0, 1) = lowL (F + 1) 0 0 1 := by
  unfold addL rootOf
  simp
theorem tens4 : ∀ (ds : List DV) (j n : Nat) (x0 x1 x2 x3 x5 x6 x7 x8 : Option SV) (sp : Spl), j + ds.length ≤ n → ((10 : Int) ^ n).natAbs < 2 ^ 8500 →
    ∃ y, frN ds (gNm 5) (sAsg (e2 (eV 4) (eC (.int 10)) dMul) (gNm 4)) ⟨[x0, x1, x2, x3, some (.dat (.int (10 ^ j))), x5, x6, x7, x8], sp⟩ = some (.nx ⟨[x0, x1, x2, x3, some (.dat (.int (10 ^ (j + ds.length)))), y, x6, x7, x8], sp⟩)
  | [], j, n, x0, x1, x2, x3, x5, x6, x7, x8, sp, _, _ => ⟨x5, rfl⟩
  | d :: ds, j, n, x0, x1, x2, x3, x5, x6, x7, x8, sp, hl, hn => by
    rw [List.length_cons] at hl
    obtain ⟨y, e⟩ := tens4 ds (j + 1) n x0 x1 x2 x3 (some (.dat d)) x6 x7 x8 sp (by omega) hn
    have f1 : fitM (10 ^ j) 10 = true := fit_of (Nat.lt_of_le_of_lt (ten_mono (by omega)) hn) (b := 4) (by decide)
    have hp : (10 : Int) ^ j * 10 = 10 ^ (j + 1) := (Int.pow_succ 10 j).symm
    refine ⟨y, ?_⟩
    rw [List.length_cons, show j + (ds.length + 1) = j + 1 + ds.length by omega]
    simp only [frN, gNm, sAsg, e2, eV, eC, dMul, f1, if_true, hp, List.getElem?_cons_zero, List.getElem?_cons_succ, List.set_cons_zero, List.set_cons_succ, e]
def b_law_near : SF :=
  sSeq (sAsg (eS 0 (aCons (eC (.int 12)) (aNil)) m_law_upto) (gNm 2))
  (sSeq (sAsg (eA (aCons (eV 1) (aCons (eV 2) (aNil))) m_law_scaled) (gNm 3))
  (sSeq (sAsg (eC (.int 1)) (gNm 4))
  (sSeq (sFr (iRg1 (aCons (eV 2) (aNil))) (gNm 5) (sAsg (e2 (eV 4) (eC (.int 10)) dMul) (gNm 4)))
  (sSeq (sAsg (eS 0 (aCons (eA (aCons (eC (.int 2)) (aCons (eC (.int 3)) (aCons (eC (.int 7)) (aCons (eC (.int 11)) (aNil))))) oLst) (aNil)) m_law_choice) (gNm 6))
  (sSeq (sAsg (eA (aCons (e2 (e2 (eV 6) (eV 4) dMul) (eV 4) dMul) (aNil)) m_law_square_root) (gNm 7))
  (sSeq (sAsg (eA (aCons (eA (aCons (eV 3) (aCons (eC (.int 0)) (aCons (eC (.int 0)) (aCons (eV 4) (aNil))))) m_law_lowest) (aCons (eA (aCons (e2 (eV 3) (eV 7) dSub) (aCons (eV 4) (aCons (eV 6) (aCons (eV 4) (aNil))))) m_law_lowest) (aNil))) oLst) (gNm 8))
  (sRt (eS 0 (aCons (e2 (eV 8) (eA (aCons (eA (aCons (e2 (eV 3) (eV 7) dAdd) (aCons (e2 (eC (.int 0)) (eV 4) dSub) (aCons (eV 6) (aCons (eV 4) (aNil))))) m_law_lowest) (aNil)) oLst) dAdd) (aNil)) m_law_choice))))))))
def m_law_near : List DV → Spl → Option (DV × Spl) := bodyS 2 9 b_law_near
theorem t_law_near : ∀ ds s d, m_law_near ds s = some d → bodyS 2 9 b_law_near ds s = some d := fun _ _ _ h => h
theorem near_ok {x : Num} {d : Int} {n : Nat} {sp : Spl} (h : Good 1000 1000 d x) (rd : Rt d) (hp : Pl n sp) (hn : n ≤ 10000) : ∃ y e sp', m_law_near [nm x] sp = some (nm y, sp') ∧ Good 1100 40 e y ∧ Rt e ∧ Pl (n + 4) sp' := by
  have c1 : m_law_upto [.int 12] sp = _ := c_upto hp (by decide) (lt_up (a := 10) (by decide)) (by omega)
  have v1 := upV_lt (s := sp) (b := 12) (by decide)
  have p1 := pl_up (b := 12) hp
  generalize upS sp 12 = sp1 at *
  generalize upV sp 12 = P at *
  have hP : P = ((P.toNat : Nat) : Int) := by omega
  have c2 := scaled_ok ((h.nu rd (by decide)).up (by decide)) (n := P.toNat) (by omega)
  rw [← hP] at c2
  have zv := scl_sz h rd (n := P.toNat) (by omega)
  have zt := ten_11 (n := P.toNat) (by omega)
  have T0 := ten_pos P.toNat
  have hl : (rngD 0 P.toNat).length = P.toNat := by unfold rngD; simp
  have hr : inR P = true := decide_eq_true (by omega)
  have lp := fun x5 x6 x7 x8 => tens4 (rngD 0 P.toNat) 0 P.toNat (some .spl) (some (.dat (nm x))) (some (.dat (.int P))) (some (.dat (.int (sclN x P.toNat)))) x5 x6 x7 x8 sp1 (by omega) (lt_up zt)
  rw [hl, Nat.zero_add] at lp
  have hone : (10 : Int) ^ 0 = 1 := rfl
  rw [hone] at lp
  generalize (10 : Int) ^ P.toNat = T at *
  generalize sclN x P.toNat = V at *
  obtain ⟨v, c3, hv⟩ := choice_at [.int 2, .int 3, .int 7, .int 11] sp1 _ p1 (by omega) (by simp) (by simp)
  have c3' : m_law_choice [.lst [.int 2, .int 3, .int 7, .int 11]] sp1 = some (v, upS sp1 4) := c3
  clear c3
  obtain ⟨e, rfl, re⟩ : ∃ e : Int, v = .int e ∧ Rt e := by
    simp only [List.mem_cons, List.not_mem_nil, or_false] at hv
    rcases hv with h | h | h | h
    · exact ⟨2, h, by unfold Rt; omega⟩
    · exact ⟨3, h, by unfold Rt; omega⟩
    · exact ⟨7, h, by unfold Rt; omega⟩
    · exact ⟨11, h, by unfold Rt; omega⟩
  clear hv
  have p2 := pl_up (b := 4) p1
  generalize upS sp1 4 = sp2 at *
  have ze := re.sz
  have nn : 0 ≤ e * T * T := Int.mul_nonneg (Int.mul_nonneg (Int.le_of_lt re.pos) (Int.le_of_lt T0)) (Int.le_of_lt T0)
  have zz : (e * T * T).natAbs < 2 ^ (40 + 40 + 40) := mul_lt (mul_lt ze zt) zt
  have c4 : m_law_square_root [.int (e * T * T)] = some (.int (sq (e * T * T))) := if_pos ⟨nn, lt_up zz⟩
  have zq : (sq (e * T * T)).natAbs < 2 ^ 1062 := lt_up (sq_sz (b := 60) nn zz)
  generalize sq (e * T * T) = Q at *
  have f1 := fit_of ze zt
  have f2 := fit_of (mul_lt ze zt) zt
  have t0 : T ≠ 0 := by omega
  have k1 := low_ok (p := V) (q := 0) (d := 0) t0 (lt_up zt)
  have k2 := low_ok (p := V - Q) (q := T) (d := e) t0 (lt_up zt)
  have k3 := low_ok (p := V + Q) (q := 0 - T) (d := e) t0 (lt_up zt)
  have g1 : Good 1100 40 2 (lowL V 0 0 T) := int_good (lt_up zv) t0 zt
  have g2 : Good 1100 40 e (lowL (V - Q) T e T) := low_good t0 (by have := re.pos; omega) (lt_up (sub_lt zv zq)) zt zt
  have g3 : Good 1100 40 e (lowL (V + Q) (0 - T) e T) := low_good t0 (by have := re.pos; omega) (lt_up (add_lt zv zq)) (by omega) zt
  obtain ⟨v, c5, hv⟩ := choice_at [nm (lowL V 0 0 T), nm (lowL (V - Q) T e T), nm (lowL (V + Q) (0 - T) e T)] sp2 _ p2 (by omega) (by simp) (by simp)
  have c5' : m_law_choice [.lst [nm (lowL V 0 0 T), nm (lowL (V - Q) T e T), nm (lowL (V + Q) (0 - T) e T)]] sp2 = some (v, upS sp2 3) := c5
  clear c5
  obtain ⟨y, a, rfl, gy, ra⟩ : ∃ y a, v = nm y ∧ Good 1100 40 a y ∧ Rt a := by
    simp only [List.mem_cons, List.not_mem_nil, or_false] at hv
    rcases hv with h | h | h
    · exact ⟨_, 2, h, g1, by unfold Rt; omega⟩
    · exact ⟨_, e, h, g2, re⟩
    · exact ⟨_, e, h, g3, re⟩
  clear hv
  have p3 := pl_up (b := 3) p2
  refine ⟨y, a, upS sp2 3, ?_, gy, ra, by unfold Pl at *; omega⟩
  have k4 : (4 : Nat) ≤ sizeLine := by decide
  have z2 : (2 : Nat) ≤ sizeLine := by decide
  have z1 : (1 : Nat) ≤ sizeLine := by decide
  have z3 : (2 + 1 : Nat) ≤ sizeLine := by decide
  obtain ⟨w, lp'⟩ := lp none none none none
  clear h rd hp hn v1 p1 hP zv zt T0 hl lp re p2 ze nn zz zq t0 g1 g2 g3 gy ra p3
  unfold m_law_near b_law_near
  simp only [bodyP, bodyS, bodyR, sSeq, sIf, sNx, sRt, sRtX, sAsgX, sRs, eX, eJs, eJn, dFmt, sAsg, sDr, sPar, sAug, sSp, sOwn, sApp, lDs, eSp, eS, tBl, tTr, tAn, tOo, tNo, eC, eV, eA, eIf, eAn, eOo, eNo, e1, e2, eIxN, FD.peek, aCons, aNil, gNm, gTp, gLs, gCo, gNi, dI, dAddI, dMulI, dAdd, dSub, dMul, dFdiv, dMod, dNeg, dGcd, dMax, dMin, dAbs, dSq, dLen, dEq_int, dNe_int, dIx, oTup, oLst, truD, List.length_cons, List.length_nil, List.map_cons, List.map_nil, List.cons_append, List.nil_append, List.replicate_succ, List.replicate_zero, List.getElem?_cons_zero, List.getElem?_cons_succ, List.set_cons_succ, List.set_cons_zero, Nat.reduceAdd, Nat.reduceSub, Nat.sub_self, if_true, decide_true, decide_false, Bool.not_true, Bool.not_false, Bool.false_eq_true, if_false, reduceCtorEq, c1, c2, sFr, iRg1, hr]
  rw [lp']
  simp only [sSeq, sRt, sAsg, eS, eC, eV, eA, e1, e2, aCons, aNil, gNm, dAdd, dSub, dMul, oTup, oLst, List.length_cons, List.length_nil, List.cons_append, List.nil_append, List.getElem?_cons_zero, List.getElem?_cons_succ, List.set_cons_succ, List.set_cons_zero, Nat.reduceAdd, if_true, c3', c4, f1, f2, k1, k2, k3, k4, z2, z1, z3, c5']
end T4

set_option maxRecDepth 100000
set_option maxHeartbeats 4000000
namespace FD
open PySem PySem.Spec PyProof.Rows L2
/-! ## isinstance of built-in types -/
def tyD : DV → Option String
  | .non => some "NoneType"
  | .bl _ => some "bool"
  | .int _ => some "int"
  | .str _ => some "str"
  | .tup _ => some "tuple"
  | .lst _ => some "list"
  | _ => none
def isTyD (T : String) (d : DV) : Option Bool := match tyD d with
  | some t => some (decide (t = T ∨ (t = "bool" ∧ T = "int")))
  | none => none
def dIsTy (T : String) : DV → Option DV := fun d => (isTyD T d).map DV.bl
def tyOk (T : String) : Bool := ["NoneType", "bool", "int", "str", "tuple", "list"].all fun t => kitB t T == some (decide (t = T ∨ (t = "bool" ∧ T = "int")))
section
variable {K : PySem.W.Frag} {G H : Hp}
theorem tyD_ok {v : V} {d : DV} {t : String} (g : Same G H) (r : Rp K G v d) (e : tyD d = some t) : TyX K H v (.type t) := by
  unfold tyD at e
  split at e
  · have e2 := (Option.some.inj e).symm
    subst e2
    have r' : v = .non := r
    subst r'
    exact .base .non
  · rename_i b
    have e2 := (Option.some.inj e).symm
    subst e2
    have r' : v = .bl b := r
    subst r'
    exact .base (.bl b)
  · rename_i i
    have e2 := (Option.some.inj e).symm
    subst e2
    have r' : v = .int i := r
    subst r'
    exact .base (.int i)
  · rename_i x
    have e2 := (Option.some.inj e).symm
    subst e2
    have r' : v = .str x := r
    subst r'
    exact .base (.str x)
  · rename_i ds
    have e2 := (Option.some.inj e).symm
    subst e2
    obtain ⟨a, vs, r1, h, _⟩ := r
    subst r1
    rcases Same.tup g h with (h | ⟨o, h⟩) | ⟨o, its, n, hk, hc, _⟩
    · exact .base (.tup h)
    · exact .fTuple h
    · exact .kTuple hk hc
  · rename_i ds
    have e2 := (Option.some.inj e).symm
    subst e2
    obtain ⟨a, vs, r1, h, _⟩ := r
    subst r1
    exact .base (.lst (g _ _ h))
  · cases e
end
section
variable {X : Cx} {C : Cn} {e : Expr} {f : EF} {x : Str} {p pos pc : Pos}
theorem ev_isTy {te : TE} {T : String} (hT : tyOk T = true) (q1 : EvE X.K C te f) : EvE X.K C (tCB (rIsi X.K) (tCons te (tCons (tC (.ty T)) tNil))) (FD.e1 f (dIsTy T)) := by
  intro G H σ s d s' A e1 Q k
  unfold FD.e1 at e1
  split at e1
  · rename_i d0 s1 e2
    split at e1
    · rename_i z e3
      cases e1
      refine q1 G H σ s _ _ A e2 _ fun v H1 G1 g1 A1 r => ?_
      unfold dIsTy isTyD at e3
      split at e3
      · rename_i t e4
        cases e3
        have hm : t ∈ ["NoneType", "bool", "int", "str", "tuple", "list"] := by
          clear hT e2 r
          cases d0 <;> cases e4 <;> simp
        have hk := List.all_eq_true.mp hT t hm
        have hk2 : kitB t T = some (decide (t = T ∨ (t = "bool" ∧ T = "int"))) := by simpa using hk
        have hk3 := kit_ty (K := X.K) hk2
        have hx := tyD_ok (K := X.K) A1.gh r e4
        have kk := k _ H1 G1 g1 A1 (rfl : Rp X.K G1 (.bl (decide (t = T ∨ (t = "bool" ∧ T = "int")))) (.bl (decide (t = T ∨ (t = "bool" ∧ T = "int")))))
        exact ⟨v, .ty T, .type t, .type T, _, rfl, .ty T, hx, hk3, kk⟩
      · cases e3
    · cases e1
  · cases e1
theorem fe_isTy {T : String} (hm : X.mg "isinstance" = none) (gl : X.mg x = none) (hb : bootBuiltins x = some (.type T)) (hT : tyOk T = true) (h : FE X C e f) (hg : Gl X "isinstance" := by rfl) (hx : Gl X x := by rfl) (hd : (x == ("__debug__" : Str)) = false := by decide)
    (hn : x ≠ "__name__" := by decide) (hs : starEach [e, .Name x pc] X.env = (false, eval e X.env) :: starEach [.Name x pc] X.env := by rfl) (hs2 : starEach [.Name x pc] X.env = (false, eval (.Name x pc) X.env) :: starEach [] X.env := by rfl) (hpl : (backTo pos (starEach [.Name x pc] X.env)).any (·.1) = false := by rfl) :
    FE X C (.Call (.Name "isinstance" p) [e, .Name x pc] [] pos) (FD.e1 f (dIsTy T)) := by
  obtain ⟨te, p1, q1⟩ := h
  refine ⟨_, pe_callB call_isi hg hm (by decide +kernel) (pa_cons p1 (pa_cons (pe_bltn (v := .ty T) hx gl hb rfl hn hd) pa_nil hs2) hs) (he := hs) (hpl := hpl), ?_⟩
  exact ev_isTy hT q1
end
/-! ## sum, min, max of a tuple or a list of ints -/
def intsD : List DV → Option (List Int)
  | [] => some []
  | .int i :: ds => (intsD ds).map (i :: ·)
  | _ => none
theorem intsD_map : ∀ {ds : List DV} {ns : List Int}, intsD ds = some ns → ds = ns.map DV.int
  | [], ns, e => by cases e; rfl
  | .int i :: ds, ns, e => by
    unfold intsD at e
    obtain ⟨ns', e1, rfl⟩ := Option.map_eq_some_iff.mp e
    rw [intsD_map e1]
    rfl
  | .non :: _, _, e | .bl _ :: _, _, e | .str _ :: _, _, e | .tup _ :: _, _, e | .lst _ :: _, _, e | .scr _ :: _, _, e | .raw _ :: _, _, e | .exc _ _ :: _, _, e => by cases e
def dSum : List DV → Option DV
  | [.tup ds] => (intsD ds).map fun ns => .int ns.sum
  | _ => none
def minI : List Int → Int
  | [] => 0
  | [i] => i
  | i :: j :: r => let m := minI (j :: r); if i ≤ m then i else m
theorem minI_spec : ∀ {ns : List Int}, ns ≠ [] → minI ns ∈ ns ∧ ∀ y ∈ ns, minI ns ≤ y
  | [], h => absurd rfl h
  | [i], _ => by
    refine ⟨List.mem_singleton.mpr rfl, fun y hy => ?_⟩
    rw [List.mem_singleton.mp hy]
    exact Int.le_refl _
  | i :: j :: r, _ => by
    obtain ⟨h1, h2⟩ := minI_spec (ns := j :: r) (by simp)
    show (if i ≤ minI (j :: r) then i else minI (j :: r)) ∈ _ ∧ ∀ y ∈ _, (if i ≤ minI (j :: r) then i else minI (j :: r)) ≤ y
    by_cases z : i ≤ minI (j :: r)
    · rw [if_pos z]
      refine ⟨List.mem_cons_self, fun y hy => ?_⟩
      rcases List.mem_cons.mp hy with w | w
      · omega
      · have := h2 y w
        omega
    · rw [if_neg z]
      refine ⟨List.mem_cons_of_mem _ h1, fun y hy => ?_⟩
      rcases List.mem_cons.mp hy with w | w
      · omega
      · exact h2 y w
def dMin1 : List DV → Option DV
  | [.tup ds] => match intsD ds with
    | some ns => if ns = [] then none else some (.int (minI ns))
    | none => none
  | _ => none
section
variable {prog : Program} {w : World} {A : Around} {E : Value → Shared → Prop} {s : Shared} {l : Addr} {its : List Value} {ns : List Int} {Q : Value → Shared → Prop}
theorem sum_tup (hh : A.handled = none) (hl : s.heap.IsTuple l its.toArray) (hi : IntsAre its ns)
    (h : ∀ h' tk t', (∀ b o, s.heap.get? b = some o → h'.get? b = some o) → Q (.int ns.sum t') { s with heap := h', toks := tk }) : wpAny (model prog w) A (call (.builtin "sum") [.ref l]) Q E s := by
  obtain ⟨xs, e⟩ := hi.allInts.items
  have hn : numsOf (intItems xs).toList = ns := by rw [← e]; exact hi.numsOf
  rw [nums_intItems] at hn
  rw [e] at hl
  refine PySem.W.ktm_sumG hh hl fun h' tk t' hk => ?_
  have := h h' tk t' hk
  rw [preSum_eq, List.take_of_length_le (by simp), hn]; exact this
theorem min_tup (hh : A.handled = none) (hl : s.heap.IsTuple l its.toArray) (hi : IntsAre its ns) (hne : 0 < ns.length)
    (h : ∀ h' tk M t', (∀ b o, s.heap.get? b = some o → h'.get? b = some o) → M ∈ ns → (∀ a, a ∈ ns → M ≤ a) → Q (.int M t') { s with heap := h', toks := tk }) : wpAny (model prog w) A (call (.builtin "min") [.ref l]) Q E s := by
  obtain ⟨xs, e⟩ := hi.allInts.items
  have hn : numsOf (intItems xs).toList = ns := by rw [← e]; exact hi.numsOf
  rw [nums_intItems] at hn
  subst hn
  rw [e] at hl
  have hsz : 0 < xs.size := by simpa using hne
  obtain ⟨o, ho, hc, n, hd⟩ := id hl
  have hlt : l < s.heap.objs.size := Heap.lt_size ho
  have hlI : l ≠ s.heap.objs.size := Nat.ne_of_lt hlt
  refine call_min_walk (wpAny_pyIter_tuple hl ?_)
  refine ⟨_, [_, l], [_], _, _, _, _, rfl, Walks.tuple (A := A.in1) hh _ l hlI (intItems xs), ⟨⟨_, Heap.get?_push_size _ rfl, rfl, rfl⟩, hl.at fun o e => Heap.get?_push_of_some _ e⟩, fun c hc => ?_, by simpa [intItems] using hsz, CmpOf.ints_lt (numAt xs) (fun _ _ => intItems_at), fun v h' tk hP hk => ?_⟩
  · rcases List.mem_cons.mp hc with rfl | hc
    · exact Heap.lt_size (Heap.get?_push_size _ rfl)
    · obtain rfl := List.mem_singleton.mp hc
      exact Heap.lt_size (Heap.get?_push_of_some _ ho)
  · have hold : ∀ c o, s.heap.get? c = some o → h'.get? c = some o := fun c o e => hk c o (fun hm => absurd (Heap.lt_size e) ((List.mem_singleton.mp hm) ▸ Nat.lt_irrefl _)) (Heap.get?_push_of_some _ e)
    have hP' : (intItems xs)[argBest (fun i j => decide (numAt xs i < numAt xs j)) (xs.size - 1)]? = some v := by simpa [intItems] using hP
    obtain ⟨t, rfl⟩ := intItems_at hP'
    obtain ⟨h1, h2⟩ := argBest_lt (numAt xs) (xs.size - 1)
    refine h h' tk _ t hold ?_ fun a ha => ?_
    · rw [numAt_eq]; exact PySem.getD_mem (by rw [List.length_map, Array.length_toList]; omega)
    · obtain ⟨j, hj, rfl⟩ := mem_getD ha
      rw [List.length_map, Array.length_toList] at hj
      rw [← numAt_eq]; exact h2 j (by omega)
end
def rSumT (K : PySem.W.Frag) : List V → Hp → VK → Prop := fun vs H Q => ∃ (a : Addr) (ns : List Int), vs = [V.ref a] ∧ SqT K H a (ns.map V.int) ∧ Q (.int ns.sum) H
def rMinT (K : PySem.W.Frag) : List V → Hp → VK → Prop := fun vs H Q => ∃ (a : Addr) (ns : List Int), vs = [V.ref a] ∧ SqT K H a (ns.map V.int) ∧ ns ≠ [] ∧ Q (.int (minI ns)) H
section
variable {X : Cx} {C : Cn} {e : Expr} {ff : AF} {p pos : Pos}
theorem cr_sumT (hc : X.calm = true) : CallR X (.builtin "sum") (rSumT X.K) := by
  intro pins s σ H vs us Q I r h
  obtain ⟨a, ns, rfl, hs, q⟩ := h
  obtain ⟨its, rv, hl, _⟩ := I.tuple hs
  rw [Vals.ref1 r]
  exact sum_tup (I.ok.hd hc) hl rv.ints fun h' tk t' hk => ⟨.int _, H, I.kept hk, ⟨_, rfl⟩, q⟩
theorem cr_minT (hc : X.calm = true) : CallR X (.builtin "min") (rMinT X.K) := by
  intro pins s σ H vs us Q I r h
  obtain ⟨a, ns, rfl, hs, hne, q⟩ := h
  obtain ⟨its, rv, hl, _⟩ := I.tuple hs
  rw [Vals.ref1 r]
  obtain ⟨k1, k2⟩ := minI_spec hne
  refine min_tup (I.ok.hd hc) hl rv.ints (List.length_pos_iff.mpr hne) fun h' tk m t' hk h1 h2 => ?_
  have e : m = minI ns := Int.le_antisymm (h2 _ k1) (k2 _ h1)
  subst e
  exact ⟨.int _, H, I.kept hk, ⟨_, rfl⟩, q⟩
theorem o_sumT {K : PySem.W.Frag} : OpA K (rSumT K) dSum := by
  intro C G H σ s vs ds d A r ho Q q
  unfold dSum at ho
  split at ho
  · rename_i ds
    obtain ⟨ns, e, rfl⟩ := Option.map_eq_some_iff.mp ho
    obtain ⟨v, rfl, rv⟩ := r.single
    obtain ⟨a, us, rfl, h1, h2⟩ := rv
    rw [intsD_map e] at h2
    have := h2.ints'
    subst this
    exact ⟨a, ns, rfl, Same.tup A.gh h1, q _ H G (Fw.refl A.gh) rfl⟩
  · cases ho
theorem o_minT {K : PySem.W.Frag} : OpA K (rMinT K) dMin1 := by
  intro C G H σ s vs ds d A r ho Q q
  unfold dMin1 at ho
  split at ho
  · rename_i ds
    split at ho
    · rename_i ns e
      split at ho
      · cases ho
      · rename_i hne
        cases ho
        obtain ⟨v, rfl, rv⟩ := r.single
        obtain ⟨a, us, rfl, h1, h2⟩ := rv
        rw [intsD_map e] at h2
        have := h2.ints'
        subst this
        exact ⟨a, ns, rfl, Same.tup A.gh h1, hne, q _ H G (Fw.refl A.gh) rfl⟩
    · cases ho
  · cases ho
theorem fe_sum (hc : X.calm = true) (hm : X.mg "sum" = none) (ha : FA X C [e] ff) (hg : Gl X "sum" := by rfl) (he : starEach [e] X.env = (false, eval e X.env) :: starEach [] X.env := by rfl) : FE X C (.Call (.Name "sum" p) [e] [] pos) (eA ff dSum) := fe_callB (cr_sumT hc) o_sumT hm (by decide +kernel) ha hg (he := he)
theorem fe_min1 (hc : X.calm = true) (hm : X.mg "min" = none) (ha : FA X C [e] ff) (hg : Gl X "min" := by rfl) (he : starEach [e] X.env = (false, eval e X.env) :: starEach [] X.env := by rfl) : FE X C (.Call (.Name "min" p) [e] [] pos) (eA ff dMin1) := fe_callB (cr_minT hc) o_minT hm (by decide +kernel) ha hg (he := he)
end
end FD
namespace FD
theorem ok_tuple : tyOk "tuple" = true := by decide +kernel
theorem ok_list : tyOk "list" = true := by decide +kernel
theorem ok_int : tyOk "int" = true := by decide +kernel
theorem ok_bool : tyOk "bool" = true := by decide +kernel
theorem ok_str : tyOk "str" = true := by decide +kernel
end FD

set_option maxRecDepth 100000
set_option maxHeartbeats 4000000
namespace FD
open PySem PySem.Spec PyProof.Rows L2
/-! ## enumerate of a text -/
def IteS (x : Str) : It :=
  ⟨fun i _ => i < x.cps.size, fun i H v H' => ∃ T c, v = .ref T ∧ H T = none ∧ H' = upd H T (.tup [.int (i : Nat), .str ⟨#[c]⟩]) ∧ x.cps[i]? = some c, fun i _ => x.cps.size ≤ i⟩
theorem draws_str {P : Program} {w : World} {A : Around} (hh : A.handled = none) (it : Addr) (x : Str) (t : Tok) : Draws P w A it [it] x.cps.size (fun i v => ∃ c u, x.cps[i]? = some c ∧ v = .str ⟨#[c]⟩ u) (fun i h => h.IsStrIter it (strIterType x) x t i) := by
  unfold strIterType
  cases x.cps.all (· < 128)
  · exact Draws.strWide hh it x t
  · exact Draws.strAscii hh it x t
theorem enum_endS {prog : Program} {w : World} {A : Around} {E : Value → Shared → Prop} {s : Shared} {e it : Addr} {i : Nat} {x : Str} {t : Tok} {old : Value} {Q : Option Value → Shared → Prop} (hh : A.handled = none)
    (he : IsEnum s.heap e it i old) (hit : s.heap.IsStrIter it (strIterType x) x t i) (hx : x.cps[i]? = none)
    (hQ : ∀ h', Heap.ExtBut it s.heap h' → Q none { s with heap := h' }) : wpAny (model prog w) A (pyNext (.ref e)) Q E s := by
  have hT : s.TypeIs (.ref e) "enumerate" := ⟨_, he, rfl⟩
  unfold pyNext
  refine wpAny_bind (wpAny_attempt (wpAny_callSpecial?_slot (name := Str.ofString "__next__") hT F.slot_enumerate_next
    (wpAny_call_entry F.slot_enumerate_next hT F.entry_enumerate_next ?_ (F.args_enumerate_next_1 _))))
  show wpAny _ _ (field (.ref e) 2 >>= _) _ _ _
  refine wpAny_bind (wpAny_field he rfl (x := .ref it) rfl ?_)
  unfold strIterType at hit
  cases ha : x.cps.all (· < 128)
  · rw [ha] at hit
    refine wpAny_bind (wpAny_nextOf_wide_end hh hit hx fun h' y he' hx' => ?_)
    obtain ⟨o, ho, hc⟩ := hx'
    refine wpAny_bind (wpAny_isInstance (T := "StopIteration") (b := true) ⟨o, ho, hc⟩ isSubtype_stop ?_)
    exact wpAny_pure (hQ _ he')
  · rw [ha] at hit
    refine wpAny_bind (wpAny_nextOf_ascii_end hh hit hx fun h' y he' hx' => ?_)
    obtain ⟨o, ho, hc⟩ := hx'
    refine wpAny_bind (wpAny_isInstance (T := "StopIteration") (b := true) ⟨o, ho, hc⟩ isSubtype_stop ?_)
    exact wpAny_pure (hQ _ he')
theorem turn_enumS {P : Program} {w : World} {K : PySem.W.Frag} {elts : List Expr} {kk : Nat} {tpos : Pos} (x : Str) (t : Tok) (e it : Addr) :
    Turn P w K (.Tuple elts kk tpos) (IteS x) [e, it] e (fun i h => (∃ old, IsEnum h e it ((i : Nat) : Int) old) ∧ h.IsStrIter it (strIterType x) x t i ∧ e ≠ it) where
  mem := by simp
  obj := fun i h st b hb => by
    obtain ⟨⟨old, he⟩, ⟨o, ho, hc, hd⟩, _⟩ := st
    have e' : b = e ∨ b = it := by simpa using hb
    rcases e' with z | z
    · rw [z]; exact ⟨_, he, fun v q => nomatch q⟩
    · rw [z]; exact ⟨o, ho, fun v q => by rw [hd] at q; cases q⟩
  keep := fun i h h' st k => let ⟨⟨old, he⟩, ⟨o, ho, r⟩, hne⟩ := st; ⟨⟨old, k e (by simp) _ he⟩, ⟨o, k it (by simp) o ho, r⟩, hne⟩
  item := by
    intro X hP hw hK hc i pins s σ H E I hf st hg
    subst hP hw hK
    obtain ⟨⟨old, he⟩, hit, hne⟩ := st
    have hel : e < s.heap.objs.size := Heap.lt_size he
    have hil : it < s.heap.objs.size := by obtain ⟨_, q, _⟩ := hit; exact Heap.lt_size q
    refine wpAny_pyNext_enum_itemD (draws_str (A := X.A.in1) (I.ok.hd hc) it x t) he hit hg hne (by simpa using hne) fun y h' tk hy ho hit' hT hsz hk => ?_
    obtain ⟨c, u, hcx, rfl⟩ := hy
    refine ⟨_, rfl, wpAny_letOwnedTupleGo_enum (s := { s with heap := h', toks := tk + 1 }) ho fun h'' he' sb => ?_⟩
    have hT2 : h''.get? s.heap.objs.size = some { cls := .type "tuple", data := .seq #[.int i tk, .str ⟨#[c]⟩ u] } := (sb.2 _ (Nat.ne_of_gt hel)).trans hT
    have new : ObjOk X.prog X.w (upd H s.heap.objs.size (.tup [.int (i : Nat), .str ⟨#[c]⟩])) h'' s.heap.objs.size (.tup [.int (i : Nat), .str ⟨#[c]⟩]) :=
      ⟨by show 2 ≤ sizeLine; decide, [.int i tk, .str ⟨#[c]⟩ u], .cons ⟨_, rfl⟩ (.cons ⟨_, rfl⟩ .nil), ⟨_, hT2, rfl, _, rfl⟩⟩
    have I1 : Inv X pins σ (upd H s.heap.objs.size (.tup [.int (i : Nat), .str ⟨#[c]⟩])) { s with heap := h'', toks := tk + 1 } :=
      I.turnedNew (ch := [e, it]) (fun b ob hb q => (sb.2 b (fun z => hb (by simp [z]))).trans (hk b ob (fun z => hb (by simp [z])) (fun z => hb (by simp [z])) q)) hf (Nat.le_refl _) new
    refine ⟨.ref s.heap.objs.size, _, I1, rfl, ⟨_, c, rfl, I.hok.fresh (Nat.le_refl _), rfl, hcx⟩, ⟨⟨.str ⟨#[c]⟩ u, ?_⟩, ?_, hne⟩, fun b hb => ?_⟩
    · have e1 : ((i + 1 : Nat) : Int) = (i : Int) + 1 := by omega
      rw [e1]; exact he'
    · obtain ⟨o, q, r⟩ := hit'
      exact ⟨o, (sb.2 it (Ne.symm hne)).trans q, r⟩
    · have hb' : b < s.heap.objs.size := by
        have e' : b = e ∨ b = it := by simpa using hb
        rcases e' with z | z
        · rw [z]; exact hel
        · rw [z]; exact hil
      rw [upd_ne (Nat.ne_of_lt hb')]
      exact (hf b hb).1
  done := by
    intro X hP hw hK hc i pins s σ H E I hf st hg
    subst hP hw hK
    obtain ⟨⟨old, he⟩, hit, hne⟩ := st
    obtain ⟨f0, f1, f2, f3, f4, f5⟩ := hf it (by simp)
    exact enum_endS (I.ok.hd hc) he hit (Array.getElem?_eq_none hg) fun h' eb => ⟨rfl, I.turned (t' := s.toks) (fun b o hb q => eb b o hb q) f0 f1 f3 f4 f5⟩
  self := fun A i s Q E st h => let ⟨⟨_, he⟩, _⟩ := st; wpAny_pyIter_enum he h
def iEnumS (ta : TA) : TI := fun σ H R => ta σ H fun vs H1 => ∃ x, vs = [.str x] ∧ R (IteS x) H1
theorem pi_enumS {X : Cx} {e : Expr} {ta : TA} {p pos tpos : Pos} {elts : List Expr} {kk : Nat} (hg : Gl X "enumerate") (hm : X.mg "enumerate" = none) (ha : PA X [e] ta) (hs : starEach [e] X.env = [(false, eval e X.env)] := by rfl) :
    PI X (.Tuple elts kk tpos) (.Call (.Name "enumerate" p) [e] [] pos) (iEnumS ta) := by
  refine ⟨fun pins s σ H R I h => ?_⟩
  refine Call_ (ld_blt I hg hm boot_enumerate (PyProof.Rows.callWith_type1 (thn (ha.run pos pins s σ H _ I h) fun us s1 ⟨vs, H1, I1, r1, q1⟩ => ?_) hs rfl))
  obtain ⟨x, ex, q⟩ := q1
  subst ex
  cases r1 with
  | cons r rr =>
    cases rr
    obtain ⟨t, rfl⟩ := r
    refine call_enumerate_str fun h' he hit hsz hk => wpAny_pyIter_enum he ?_
    have I2 : Inv X pins σ H1 { s1 with heap := h' } := I1.kept (t' := s1.toks) hk
    refine ⟨s1.heap.objs.size + 1, [s1.heap.objs.size + 1, s1.heap.objs.size], _, _, H1, rfl, I2, turn_enumS x t (s1.heap.objs.size + 1) s1.heap.objs.size, ⟨⟨.none, he⟩, hit, Nat.succ_ne_self _⟩, fun b hb => ?_, q⟩
    have e' : b = s1.heap.objs.size + 1 ∨ b = s1.heap.objs.size := by simpa using hb
    have hle : s1.heap.objs.size ≤ b := by
      rcases e' with z | z
      · rw [z]; exact Nat.le_add_right _ _
      · rw [z]; exact Nat.le_refl _
    exact I1.fpOk hle (I1.hok.fresh hle)
/-- the signs of a text, as texts of one sign -/
def sgn (x : Str) : List DV := x.cps.toList.map fun c => .str ⟨#[c]⟩
theorem sgn_len (x : Str) : (sgn x).length = x.cps.size := by unfold sgn; simp
theorem wk_enumS {K : PySem.W.Frag} {G : Hp} (x : Str) : Wk K G (IteS x) (enD 0 (sgn x)) where
  stop := fun i G1 H g1 g2 hi => by rw [enD_len, sgn_len] at hi; exact hi
  go := fun i G1 H g1 g2 hi => by rw [enD_len, sgn_len] at hi; exact hi
  yld := fun i G1 H d y H' g1 g2 e z => by
    obtain ⟨T, c, rfl, nT, rfl, q⟩ := z
    obtain ⟨dd, e1, e2⟩ := enD_get (sgn x) 0 i d e
    subst e2
    have e3 : dd = .str ⟨#[c]⟩ := by
      unfold sgn at e1
      rw [List.getElem?_map, Array.getElem?_toList, q] at e1
      exact (Option.some.inj e1).symm
    subst e3
    have F : Fw G1 H (upd G1 T (.tup [.int (i : Nat), .str ⟨#[c]⟩])) (upd H T (.tup [.int (i : Nat), .str ⟨#[c]⟩])) none := Fw.add g2 nT
    refine ⟨_, F, T, _, rfl, upd_same, _, _, rfl, ?_, RpL.one rfl⟩
    show V.int (i : Nat) = V.int ((0 + i : Nat) : Int)
    rw [Nat.zero_add]
section
variable {X : Cx} {C : Cn} {e a b c o : Expr} {es elts : List Expr} {pos p tpos p2 apos : Pos} {f g h : EF} {ff : AF}
def iEnS (f : EF) : LF := fun s => match f s with
  | some (.str x, s1) => some (enD 0 (sgn x), s1)
  | _ => none
theorem fi_enumS {kk : Nat} (hm : X.mg "enumerate" = none) (h : FE X C e f) (hg : Gl X "enumerate" := by rfl) (hs : starEach [e] X.env = (false, eval e X.env) :: starEach [] X.env := by rfl) (hs' : starEach [e] X.env = [(false, eval e X.env)] := by rfl) : FI X C (.Tuple elts kk tpos) (.Call (.Name "enumerate" p) [e] [] pos) (iEnS f) := by
  obtain ⟨te, p1, q1⟩ := h
  refine ⟨_, pi_enumS hg hm (pa_cons p1 pa_nil hs) hs', ?_⟩
  intro G H σ s ds s' A e1 R k
  unfold iEnS at e1
  split at e1
  · rename_i x s1 e2
    cases e1
    refine q1 G H σ s _ _ A e2 _ fun v H1 G1 g1 A1 r => ?_
    have r' : v = .str x := r
    subst r'
    exact ⟨x, rfl, k _ H1 G1 g1 A1 (wk_enumS x)⟩
  · cases e1
/-! ## a slice of a text -/
def dSlS : DV → Option Int → Option Int → Option DV
  | .str x, lo, hi => if x.length ≤ sizeLine then some (.str (cutS x lo hi)) else none
  | _, _, _ => none
def eSlS (i : Nat) (l h : OF) : EF := fun s => match FD.peek s i with
  | some (.str x) => match l s with
    | some (lo, s2) => match h s2 with
      | some (hi, s3) => match dSlS (.str x) lo hi with
        | some z => some (z, s3)
        | none => none
      | none => none
    | none => none
  | _ => none
theorem fe_sls (i : Nat) {x : Str} {pos' : Pos} {lo hi : Option Expr} {l h : OF} (h2 : FO X C lo l) (h3 : FO X C hi h) (hN : X.N[i]? = some x := by rfl) (hv : Vis X.env.scope x := by first | exact Or.inl rfl | exact Or.inr (Or.inl rfl) | exact Or.inr (Or.inr rfl)) (hd : (x == ("__debug__" : Str)) = false := by decide)
    (hcd : (x == ("__classdict__" : Str)) = false := by decide) : FE X C (.Subscript (.Name x pos') (.Slice lo hi none p2) pos) (eSlS i l h) := by
  obtain ⟨tl, pl, ql⟩ := h2
  obtain ⟨th, ph, qh⟩ := h3
  refine ⟨_, pe_slice sl_str (pe_var hN hv hd hcd) pl ph, ?_⟩
  intro G H σ s z s' A e Q q
  unfold eSlS at e
  split at e
  · rename_i y e0
    obtain ⟨v, G4, ev, g4, g5, r2, r3, r4⟩ := A.peek e0
    have rv : v = .str y := (show Rp X.K _ v (.str y) from r4 (fun ds z => nomatch z))
    subst rv
    split at e
    · rename_i lo' s2 a2
      split at e
      · rename_i hi' s3 a3
        split at e
        · rename_i z' a4
          have a5 : (if y.length ≤ sizeLine then some (DV.str (cutS y lo' hi')) else none) = some z' := a4
          have e5 := Option.some.inj e
          by_cases hl : y.length ≤ sizeLine
          · rw [if_pos hl] at a5
            have a6 := Option.some.inj a5
            cases e5
            subst a6
            refine ⟨_, ev, ql G H σ s _ s2 A a2 _ fun H2 G2 g2 A2 => ?_⟩
            refine qh G2 H2 σ s2 _ _ A2 a3 _ fun H3 G3 g3 A3 => ?_
            exact ⟨y, rfl, hl, q _ H3 G3 (g2.trans g3) A3 rfl⟩
          · rw [if_neg hl] at a5
            cases a5
        · cases e
      · cases e
    · cases e
  · cases e
/-! ## int of a bool, join, repeated lists -/
def dIntB : List DV → Option DV
  | [.int i] => some (.int i)
  | [.bl b] => some (.int (if b then 1 else 0))
  | _ => none
theorem o_intB {K : PySem.W.Frag} : OpA K (fun xs H Q => (∃ i, xs = [.int i] ∧ Q (.int i) H) ∨ ∃ k, xs = [.bl k] ∧ Q (.int (if k then 1 else 0)) H) dIntB := by
  intro C G H σ s vs ds d A r ho Q q
  unfold dIntB at ho
  split at ho
  · rename_i i
    cases ho
    obtain ⟨v, rfl, rv⟩ := r.single
    have rv' : v = .int i := rv
    subst rv'
    exact .inl ⟨_, rfl, q _ H G (Fw.refl A.gh) rfl⟩
  · rename_i b
    cases ho
    obtain ⟨v, rfl, rv⟩ := r.single
    have rv' : v = .bl b := rv
    subst rv'
    exact .inr ⟨_, rfl, q _ H G (Fw.refl A.gh) rfl⟩
  · cases ho
theorem fe_intB (hm : X.mg "int" = none) (ha : FA X C [e] ff) (hg : Gl X "int" := by rfl) (he : starEach [e] X.env = (false, eval e X.env) :: starEach [] X.env := by rfl) : FE X C (.Call (.Name "int" p) [e] [] pos) (eA ff dIntB) := fe_callTy call_int1 o_intB hm (by decide +kernel) ha hg (he := he)
def strsD : List DV → Option (List Str)
  | [] => some []
  | .str x :: ds => (strsD ds).map (x :: ·)
  | _ => none
theorem strsD_map : ∀ {ds : List DV} {ys : List Str}, strsD ds = some ys → ds = ys.map DV.str
  | [], ys, h => by cases h; rfl
  | .str x :: ds, ys, h => by
    unfold strsD at h
    obtain ⟨ys', h1, rfl⟩ := Option.map_eq_some_iff.mp h
    rw [strsD_map h1]
    rfl
  | .non :: _, _, h | .bl _ :: _, _, h | .int _ :: _, _, h | .tup _ :: _, _, h | .lst _ :: _, _, h | .scr _ :: _, _, h | .raw _ :: _, _, h | .exc _ _ :: _, _, h => by cases h
theorem RpL.strs' {K : PySem.W.Frag} {G : Hp} : ∀ {ys : List Str} {vs : List V}, RpL K G vs (ys.map DV.str) → vs = ys.map V.str
  | [], vs, h => h
  | n :: ns, vs, h => by
    obtain ⟨v, r, e1, h1, h2⟩ := h
    have q : v = .str n := h1
    rw [e1, q, RpL.strs' h2]
    rfl
def dJoin : DV → DV → Option DV
  | .str a, .lst ds => match strsD ds with
    | some ys => if (ys.map (·.length)).sum + ys.length * a.length ≤ 16777216 then some (.str (Txt.join a ys)) else none
    | none => none
  | _, _ => none
theorem fe_join (ho : FE X C o f) (he : FE X C e g) (hs : starEach [e] X.env = [(false, eval e X.env)] := by rfl) (hbase : attributeBase o "join" X.env (eval o X.env) = eval o X.env := by rfl) (hline : (apos.endLine == pos.line) = true := by rfl) :
    FE X C (.Call (.Attribute o "join" apos) [e] [] pos) (FD.e2 f g dJoin) := by
  obtain ⟨to, p1, q1⟩ := ho
  obtain ⟨te, p2, q2⟩ := he
  refine ⟨_, pe_join p1 p2 hs hbase hline, ?_⟩
  intro G H σ s d s' A e1 Q k
  unfold FD.e2 at e1
  split at e1
  · rename_i d0 s1 e2
    split at e1
    · rename_i d1 s2 e3
      split at e1
      · rename_i z e4
        have e5 := Option.some.inj e1
        unfold dJoin at e4
        split at e4
        · rename_i a ds
          split at e4
          · rename_i ys e6
            split at e4
            · rename_i hl
              have e7 := Option.some.inj e4
              cases e5
              subst e7
              refine q1 G H σ s _ s1 A e2 _ fun v H1 G1 g1 A1 r1 => ?_
              have r1' : v = .str a := r1
              subst r1'
              refine ⟨⟨a, rfl⟩, q2 G1 H1 σ s1 _ _ A1 e3 _ fun u H2 G2 g2 A2 r2 => ?_⟩
              obtain ⟨b, us, rfl, h1, h2⟩ := r2
              rw [strsD_map e6] at h2
              have h3 := h2.strs'
              subst h3
              refine ⟨a, b, ys, rfl, rfl, .inl (SqL.of (A2.gh _ _ h1)), hl, ?_⟩
              exact k _ H2 G2 (g1.trans g2) A2 rfl
            · cases e4
          · cases e4
        · cases e4
      · cases e1
    · cases e1
  · cases e1
/-- [..] * n as a new list of the frame's own -/
def lRep (f g : EF) : LF := fun s => match f s with
  | some (.lst ds, s1) => match g s1 with
    | some (.int k, s2) => if decide (-(2 ^ 63) ≤ k ∧ k < 2 ^ 63 ∧ ds.length * k.toNat ≤ sizeLine) then some ((List.replicate k.toNat ds).flatten, s2) else none
    | _ => none
  | _ => none
theorem fl_rep (h1 : FE X C a f) (h2 : FE X C b g) : FL X C (.BinOp a .Mult b pos) (lRep f g) := by
  obtain ⟨ta, p1, q1⟩ := h1
  obtain ⟨tb, p2, q2⟩ := h2
  refine ⟨_, pe_op op_mulXX p1 p2, ?_⟩
  intro G H σ s ds s' A e1 Q k
  unfold lRep at e1
  split at e1
  · rename_i ds0 s1 e2
    split at e1
    · rename_i n s2 e3
      split at e1
      · rename_i hl
        cases e1
        refine q1 G H σ s _ s1 A e2 _ fun v H1 G1 g1 A1 r1 => ?_
        refine q2 G1 H1 σ s1 _ _ A1 e3 _ fun u H2 G2 g2 A2 r2 => ?_
        obtain ⟨l, vs, rfl, h1, h2⟩ := Rp.mono g2 _ _ r1
        have r2' : u = .int n := r2
        subst r2'
        obtain ⟨l1, l2, l3⟩ := of_decide_eq_true hl
        refine .inr ⟨l, _, vs, rfl, rfl, A2.gh _ _ h1, l1, l2, by rw [h2.length]; exact l3, fun p hp => ?_⟩
        obtain ⟨B, nl⟩ := A2.lay (h2.rep n.toNat) hp
        exact k p _ _ G2 (g1.trans g2) B nl
      · cases e1
    · cases e1
  · cases e1
end
end FD

set_option maxRecDepth 100000
set_option maxHeartbeats 4000000
namespace FD
open PySem PySem.Spec PyProof.Rows L2
section
variable {X : Cx} {C : Cn} {e a b c o : Expr} {es elts : List Expr} {pos p tpos p2 apos tg : Pos} {f g h : EF} {ff : AF}
/-! ## three names at once -/
def sPar3 (i j l : Nat) (g : AF) : SF := fun s => match g s with
  | some ([d, d', d''], s1) => some (.nx { s1 with sl := ((s1.sl.set i (some (.dat d))).set j (some (.dat d'))).set l (some (.dat d'')) })
  | _ => none
theorem fs_par3 (i j l : Nat) {x y z : Str} {px py pz pt : Pos} {kt k2 pt2} (ha : FA X C [a, b, c] ff) (hc : X.calm = true) (hN : X.N.Nodup) (hi : X.N[i]? = some x := by rfl) (hj : X.N[j]? = some y := by rfl) (hl : X.N[l]? = some z := by rfl) (hij : i ≠ j := by decide) (hil : i ≠ l := by decide) (hjl : j ≠ l := by decide)
    (hx : X.env.scope.names.lookup x = some .local := by rfl) (hy : X.env.scope.names.lookup y = some .local := by rfl) (hz : X.env.scope.names.lookup z = some .local := by rfl)
    (hw : swappedStores [.Tuple [.Name x px, .Name y py, .Name z pz] kt pt] (.Tuple [a, b, c] k2 pt2) X.env = pure (some [x, y, z]) := by rfl)
    (hs : swapsWithSole [.Tuple [.Name x px, .Name y py, .Name z pz] kt pt] (.Tuple [a, b, c] k2 pt2) pos.line X.env = pure false := by rfl) :
    FS X C (.Assign [.Tuple [.Name x px, .Name y py, .Name z pz] kt pt] (.Tuple [a, b, c] k2 pt2) pos) (sPar3 i j l ff) := by
  obtain ⟨ta, p, q⟩ := ha
  refine ⟨_, ps_par3 hc hN hi hj hl hij hil hjl hx hy hz p hw hs, ?_⟩
  intro G H σ s o A e1 D k
  unfold sPar3 at e1
  split at e1
  · rename_i d d' d'' s1 e2
    cases e1
    refine q G H σ s _ s1 A e2 _ fun vs H1 G1 g1 A1 r => ?_
    obtain ⟨u, v, w, e3, r1, r2, r3⟩ := r.triple
    exact ⟨u, v, w, e3, k _ H1 G1 g1 (((A1.set_dat r1).set_dat (s := { s1 with sl := s1.sl.set i (some (.dat d)) }) r2).set_dat (s := { s1 with sl := (s1.sl.set i (some (.dat d))).set j (some (.dat d')) }) r3)⟩
  · cases e1
/-! ## tuple(x) -/
def dTupOf : DV → Option DV
  | .lst ds => some (.tup ds)
  | .tup ds => some (.tup ds)
  | _ => none
theorem fe_tupleOf (hm : X.mg "tuple" = none) (ha : FE X C a f) (hg : Gl X "tuple" := by rfl) (na : starEach [a] X.env = (false, eval a X.env) :: starEach [] X.env := by rfl) : FE X C (.Call (.Name "tuple" p) [a] [] pos) (FD.e1 f dTupOf) := by
  obtain ⟨ta, p1, q1⟩ := ha
  refine ⟨_, pe_tupleOf hg hm p1 na, ?_⟩
  intro G H σ s d s' A e1 Q k
  unfold FD.e1 at e1
  split at e1
  · rename_i d0 s1 e2
    split at e1
    · rename_i z e3
      have e4 := Option.some.inj e1
      cases e4
      refine q1 G H σ s _ _ A e2 _ fun v H1 G1 g1 A1 r => ?_
      unfold dTupOf at e3
      split at e3
      · rename_i ds
        cases e3
        obtain ⟨a, vs, rfl, h1, h2⟩ := r
        exact .inl ⟨a, vs, rfl, SqL.of (A1.gh _ _ h1), tup_ok A1 h2 fun v H' G' F r => k v H' G' (g1.trans F.g) (A1.fw0 F) r⟩
      · rename_i ds
        cases e3
        obtain ⟨a, vs, rfl, h1, h2⟩ := r
        exact .inr ⟨a, vs, rfl, Same.tup A1.gh h1, k _ H1 G1 g1 A1 ⟨a, vs, rfl, h1, h2⟩⟩
      · cases e3
    · cases e1
  · cases e1
/-! ## x[::-1] of a list -/
theorem RpL.rev {K : PySem.W.Frag} {G : Hp} : ∀ {ds : List DV} {vs : List V}, RpL K G vs ds → RpL K G vs.reverse ds.reverse
  | [], _, h => by
    have e : _ = [] := h
    subst e
    rfl
  | d :: ds, _, h => by
    obtain ⟨v, r, e1, h1, h2⟩ := h
    subst e1
    rw [List.reverse_cons, List.reverse_cons]
    exact (RpL.rev h2).append (RpL.one h1)
def dRev : DV → Option DV
  | .lst ds => some (.lst ds.reverse)
  | _ => none
theorem fe_rev {k : Nat} {p1 p3 : Pos} (he : FE X C e f) : FE X C (.Subscript e (.Slice none none (some (.UnaryOp .USub (.Constant (.int 1) k p1) p2)) p3) pos) (FD.e1 f dRev) := by
  obtain ⟨te, p1', q1⟩ := he
  refine ⟨_, pe_revL p1', ?_⟩
  intro G H σ s d s' A e1 Q k
  unfold FD.e1 at e1
  split at e1
  · rename_i d0 s1 e2
    split at e1
    · rename_i z e3
      have e4 := Option.some.inj e1
      cases e4
      refine q1 G H σ s _ _ A e2 _ fun v H1 G1 g1 A1 r => ?_
      unfold dRev at e3
      split at e3
      · rename_i ds
        cases e3
        obtain ⟨a, vs, rfl, h1, h2⟩ := r
        exact ⟨a, vs, rfl, SqL.of (A1.gh _ _ h1), lst_ok A1 h2.rev fun v H' G' F r => k v H' G' (g1.trans F.g) (A1.fw0 F) r⟩
      · cases e3
    · cases e1
  · cases e1
/-! ## i.bit_length() -/
def dBits : DV → Option DV
  | .int i => some (.int (Builtin.Int.intBits i : Nat))
  | _ => none
theorem fe_bits (ho : FE X C o f) (hbase : attributeBase o "bit_length" X.env (eval o X.env) = eval o X.env := by rfl) (hline : (apos.endLine == pos.line) = true := by rfl) : FE X C (.Call (.Attribute o "bit_length" apos) [] [] pos) (FD.e1 f dBits) := by
  obtain ⟨to, p1, q1⟩ := ho
  refine ⟨_, pe_bits p1 hbase hline, ?_⟩
  intro G H σ s d s' A e1 Q k
  unfold FD.e1 at e1
  split at e1
  · rename_i d0 s1 e2
    split at e1
    · rename_i z e3
      have e4 := Option.some.inj e1
      cases e4
      refine q1 G H σ s _ _ A e2 _ fun v H1 G1 g1 A1 r => ?_
      unfold dBits at e3
      split at e3
      · rename_i i
        cases e3
        have r' : v = .int i := r
        subst r'
        exact ⟨i, rfl, k _ H1 G1 g1 A1 rfl⟩
      · cases e3
    · cases e1
  · cases e1
/-! ## divmod -/
def dDivmod : List DV → Option DV
  | [.int i, .int j] => if 0 < j ∧ Builtin.divisionGoesByPylong i j = false then some (.tup [.int (i / j), .int (i % j)]) else none
  | _ => none
theorem o_divmod {K : PySem.W.Frag} : OpA K (fun xs H Q => ∃ i j, xs = [.int i, .int j] ∧ CDivP i j ∧ ∀ p, H p = none → Q (.ref p) (upd H p (.tup [.int (i / j), .int (i % j)]))) dDivmod := by
  intro C G H σ s vs ds d A r ho Q q
  unfold dDivmod at ho
  split at ho
  · rename_i i j
    split at ho
    · rename_i hc
      cases ho
      obtain ⟨v, w, e, e1, e2⟩ := r.double
      have e1' : v = .int i := e1
      have e2' : w = .int j := e2
      subst e1' e2'
      refine ⟨i, j, e, hc, tup_ok A (ds := [.int (i / j), .int (i % j)]) ⟨_, _, rfl, rfl, RpL.one rfl⟩ q⟩
    · cases ho
  · cases ho
theorem fe_divmod (hm : X.mg "divmod" = none) (ha : FA X C [a, b] ff) (hg : Gl X "divmod" := by rfl) (he : starEach [a, b] X.env = (false, eval a X.env) :: starEach [b] X.env := by rfl) (hpl : (backTo pos (starEach [b] X.env)).any (·.1) = false := by rfl) : FE X C (.Call (.Name "divmod" p) [a, b] [] pos) (eA ff dDivmod) := fe_callB call_divmodW o_divmod hm (by decide +kernel) ha hg (he := he) (hpl := hpl)
/-! ## reversed(list) -/
theorem wk_rev {K : PySem.W.Frag} {G : Hp} {a : Addr} {vs : List V} {ds : List DV} (h : G a = some (.lst vs)) (r : RpL K G vs ds) : Wk K G (Itv K a vs.length) ds.reverse where
  stop := fun i G1 H g1 g2 hi => by
    show vs.length ≤ i
    rw [r.length, ← List.length_reverse]
    exact hi
  go := fun i G1 H g1 g2 hi => by
    rw [List.length_reverse, ← r.length] at hi
    exact ⟨hi, vs, vs[vs.length - 1 - i], SqL.of (g2 _ _ (g1 _ _ h)), List.getElem?_eq_getElem (by omega)⟩
  yld := fun i G1 H d x H' g1 g2 e y => by
    obtain ⟨e1, e2⟩ := y
    subst e1
    have hi : i < ds.length := by
      have := (List.getElem?_eq_some_iff.mp e).1
      rw [List.length_reverse] at this
      exact this
    rw [List.getElem?_reverse hi] at e
    obtain ⟨v, q1, q2⟩ := r.get e
    have q3 := e2 vs (SqL.of (g2 _ _ (g1 _ _ h)))
    rw [r.length, q1] at q3
    cases q3
    exact ⟨G1, Fw.refl g2, Rp.mono g1 d _ q2⟩
def iRev (f : EF) : LF := fun s => match f s with
  | some (.lst ds, s1) => some (ds.reverse, s1)
  | _ => none
theorem fi_rev {tg : Expr} (hm : X.mg "reversed" = none) (h : FE X C e f) (hg : Gl X "reversed" := by rfl) (hs : starEach [e] X.env = (false, eval e X.env) :: starEach [] X.env := by rfl) : FI X C tg (.Call (.Name "reversed" p) [e] [] pos) (FD.iRev f) := by
  obtain ⟨te, p1, q1⟩ := h
  refine ⟨_, RT.pi_revA hg hm p1 hs, ?_⟩
  intro G H σ s ds s' A e1 R k
  unfold FD.iRev at e1
  split at e1
  · rename_i ds' s1 e2
    cases e1
    refine q1 G H σ s _ _ A e2 _ fun v H1 G1 g1 A1 r => ?_
    obtain ⟨a, vs, rfl, r1, r2⟩ := r
    exact ⟨a, vs, rfl, .inl ⟨SqL.of (A1.gh _ _ r1), k _ H1 G1 g1 A1 (wk_rev r1 r2)⟩⟩
  · cases e1
/-! ## xs.reverse(), xs of the frame's own -/
def sRevO (i : Nat) : SF := fun s => match s.sl[i]? with
  | some (some (.own ds)) => some (.nx { s with sl := s.sl.set i (some (.own ds.reverse)) })
  | _ => none
theorem fs_revO (i : Nat) {x : Str} {pos' apos cpos : Pos} (hN : X.N[i]? = some x := by rfl) (hv : Vis X.env.scope x := by first | exact Or.inl rfl | exact Or.inr (Or.inl rfl) | exact Or.inr (Or.inr rfl)) (hd : (x == ("__debug__" : Str)) = false := by decide)
    (hcd : (x == ("__classdict__" : Str)) = false := by decide)
    (hbase : attributeBase (.Name x pos') "reverse" X.env (eval (.Name x pos') X.env) = eval (.Name x pos') X.env := by rfl)
    (hline : (apos.endLine == cpos.line) = true := by rfl)
    (hs' : swapsWith (.Call (.Attribute (.Name x pos') "reverse" apos) [] [] cpos) none pos.line X.env = pure false := by rfl) :
    FS X C (.Expr (.Call (.Attribute (.Name x pos') "reverse" apos) [] [] cpos) pos) (sRevO i) := by
  refine ⟨_, ps_expr (pe_bm0 PySem.F.plainAttrs_list PySem.F.slot_list_reverse PySem.F.type_list_reverse mt_reverse (pe_var hN hv hd hcd) hbase hline) hs', ?_⟩
  intro G H σ s o A e1 D k
  unfold sRevO at e1
  split at e1
  · rename_i ds e0
    cases e1
    obtain ⟨w, ew, a, vs0, rfl, h0, h2, _⟩ := A.slot e0
    refine ⟨.ref a, ew, .inl ⟨rfl, _, .inl (.inl h0)⟩, a, vs0, rfl, rfl, h0, ?_⟩
    exact k σ _ G (Same.refl _) (A.put_own e0 ew h2.rev)
  · cases e1
/-! ## len(x) of a name, that stays the frame's own -/
def eLenN (i : Nat) : EF := fun s => match FD.peek s i with
  | some (.lst ds) => some (.int ds.length, s)
  | _ => none
theorem fe_lenN (i : Nat) {x : Str} {pos' : Pos} (hm : X.mg "len" = none) (hN : X.N[i]? = some x := by rfl) (hv : Vis X.env.scope x := by first | exact Or.inl rfl | exact Or.inr (Or.inl rfl) | exact Or.inr (Or.inr rfl)) (hd : (x == ("__debug__" : Str)) = false := by decide)
    (hcd : (x == ("__classdict__" : Str)) = false := by decide) (hg : Gl X "len" := by rfl) (he : starEach [.Name x pos'] X.env = (false, eval (.Name x pos') X.env) :: starEach [] X.env := by rfl) : FE X C (.Call (.Name "len" p) [.Name x pos'] [] pos) (eLenN i) := by
  refine ⟨_, pe_callB call_len hg hm PySem.boot_len (pa_cons (pe_var hN hv hd hcd) pa_nil he) (he := he), ?_⟩
  intro G H σ s d s' A e1 Q k
  unfold eLenN at e1
  split at e1
  · rename_i ds e2
    cases e1
    obtain ⟨v, G', ev, g1, g2, r2, r3, r4⟩ := A.peek e2
    obtain ⟨a, vs, rfl, ha, hr⟩ := r3 ds rfl
    refine ⟨_, ev, _, _, rfl, .inl ⟨vs, SqL.of ha, hr.length.symm⟩, k _ H G (Same.refl _) A rfl⟩
  · cases e1
end
end FD

set_option maxRecDepth 100000
set_option maxHeartbeats 4000000
namespace FD
open PySem PySem.Spec PyProof.Rows L2
section
variable {X : Cx} {C : Cn} {e a b c : Expr} {es elts : List Expr} {pos p tpos p2 apos tg : Pos} {f g h : EF} {ff : AF}
/-! ## a text times a number -/
def repS (x : Str) (n : Nat) : Str := ⟨(List.replicate n x.cps).foldl (· ++ ·) #[]⟩
def rRepS : R2 := fun x y H Q => ∃ i k, x = .str i ∧ y = .int k ∧ 0 ≤ k ∧ k < 2 ^ 63 ∧ i.length * k.toNat ≤ sizeLine ∧ Q (.str (repS i k.toNat)) H
theorem foldl_nil : ∀ n : Nat, (List.replicate n (#[] : Array Nat)).foldl (· ++ ·) #[] = #[]
  | 0 => rfl
  | n + 1 => by
    rw [List.replicate_succ, List.foldl_cons]
    exact foldl_nil n
theorem foldl_list (x : Array Nat) : ∀ (n : Nat) (acc : Array Nat), ((List.replicate n x).foldl (· ++ ·) acc).toList = acc.toList ++ (List.replicate n x.toList).flatten
  | 0, acc => by
    show acc.toList = acc.toList ++ []
    rw [List.append_nil]
  | n + 1, acc => by
    rw [List.replicate_succ, List.foldl_cons, foldl_list x n, List.replicate_succ, List.flatten_cons, Array.toList_append, List.append_assoc]
theorem repS_of (l : List Nat) (n : Nat) : repS ⟨l.toArray⟩ n = ⟨((List.replicate n l).flatten).toArray⟩ := by
  unfold repS
  congr 1
  apply Array.ext'
  rw [foldl_list]
  rfl
theorem flat_len (l : List Nat) : ∀ n : Nat, ((List.replicate n l).flatten).length = n * l.length
  | 0 => by rw [Nat.zero_mul]; rfl
  | n + 1 => by rw [List.replicate_succ, List.flatten_cons, List.length_append, flat_len l n, Nat.add_mul, Nat.one_mul, Nat.add_comm]
theorem repS_len (x : Str) (n : Nat) : (repS x n).length = x.length * n := by
  have e : x = ⟨x.cps.toList.toArray⟩ := by cases x; rfl
  rw [e, repS_of]
  show ((List.replicate n x.cps.toList).flatten).toArray.size = x.cps.toList.toArray.size * n
  rw [List.size_toArray, List.size_toArray, flat_len, Nat.mul_comm]
theorem op_repS : OpR X (binaryOp .Mult) rRepS := by
  intro pins s σ H x y v u Q I rx ry h
  obtain ⟨i, k, rfl, rfl, h0, h1, hz, q⟩ := h
  obtain ⟨t, rfl⟩ := rx
  obtain ⟨t', rfl⟩ := ry
  have hcap : sizeLine ≤ 2 ^ 63 - 1 := by decide
  refine PySem.P.mul_str ?_ ?_ ?_ ?_
  · rw [decide_eq_false (by omega), decide_eq_false (by omega)]
    rfl
  · intro n1 _ w
    have k1 : 0 < k := by omega
    have : (i.length : Int) * k ≤ 2 ^ 63 - 1 := by
      have e1 : ((i.length * k.toNat : Nat) : Int) = i.length * k := by rw [Int.natCast_mul, Int.toNat_of_nonneg h0]
      rw [← e1]
      omega
    have := (Int.le_ediv_iff_mul_le k1).mpr this
    omega
  · intro _ _
    unfold Builtin.Str.tooLong
    exact decide_eq_false (by omega)
  · by_cases z1 : k < 1
    · rw [if_pos z1]
      have : k = 0 := by omega
      subst this
      exact ⟨by decide, ⟨.str (repS i 0), H, I.tok _, ⟨_, rfl⟩, q⟩⟩
    · rw [if_neg z1]
      by_cases z2 : (k == 1 || i.length == 0) = true
      · rw [if_pos z2]
        have e : repS i k.toNat = i := by
          rcases Bool.or_eq_true _ _ ▸ z2 with w | w
          · have : k = 1 := by simpa using w
            subst this
            unfold repS
            show (⟨#[] ++ i.cps⟩ : Str) = i
            rw [Array.empty_append]
          · have w' : i.length = 0 := by simpa using w
            have w2 : i.cps = #[] := Array.eq_empty_of_size_eq_zero w'
            unfold repS
            rw [w2, foldl_nil, ← w2]
        rw [e] at q
        exact ⟨.str i, H, I, ⟨t, rfl⟩, q⟩
      · rw [if_neg z2]
        refine ⟨?_, ⟨.str (repS i k.toNat), H, I.tok _, ⟨_, rfl⟩, q⟩⟩
        have := repS_len i k.toNat
        unfold repS at this
        rw [this]
        exact hz
def dMulS : DV → DV → Option DV
  | .str x, .int k => if decide (0 ≤ k ∧ k < 2 ^ 63 ∧ x.length * k.toNat ≤ sizeLine) then some (.str (repS x k.toNat)) else none
  | _, _ => none
theorem o_mulS {K : PySem.W.Frag} : Op2 K rRepS dMulS := by
  intro C G H σ s x y d e z A r1 r2 ho Q q
  unfold dMulS at ho
  split at ho
  · split at ho
    · rename_i hl
      cases ho
      obtain ⟨l1, l2, l3⟩ := of_decide_eq_true hl
      exact ⟨_, _, r1, r2, l1, l2, l3, q _ H G (Fw.refl A.gh) rfl⟩
    · cases ho
  · cases ho
theorem fe_mulS (h1 : FE X C a f) (h2 : FE X C b g) : FE X C (.BinOp a .Mult b pos) (e2 f g dMulS) := fe_op op_repS o_mulS h1 h2
/-! ## a, b = x, [..] -/
def sPaO (i j : Nat) (f : EF) (g : LF) : SF := fun s => match f s with
  | some (d, s1) => match g s1 with
    | some (ds, s2) => some (.nx { s2 with sl := (s2.sl.set i (some (.dat d))).set j (some (.own ds)) })
    | none => none
  | none => none
theorem fs_paO (i j : Nat) {x y : Str} {ff : LF} {px py pt : Pos} {kt k2 pt2} (h1 : FE X C a f) (h2 : FL X C b ff) (hc : X.calm = true) (hN : X.N.Nodup) (hi : X.N[i]? = some x := by rfl) (hj : X.N[j]? = some y := by rfl) (hij : i ≠ j := by decide)
    (hx : X.env.scope.names.lookup x = some .local := by rfl) (hy : X.env.scope.names.lookup y = some .local := by rfl)
    (hs1 : starEach [a, b] X.env = (false, eval a X.env) :: starEach [b] X.env := by rfl) (hs2 : starEach [b] X.env = (false, eval b X.env) :: starEach [] X.env := by rfl)
    (hw : swappedStores [.Tuple [.Name x px, .Name y py] kt pt] (.Tuple [a, b] k2 pt2) X.env = pure (some [x, y]) := by rfl)
    (hs : swapsWithSole [.Tuple [.Name x px, .Name y py] kt pt] (.Tuple [a, b] k2 pt2) pos.line X.env = pure false := by rfl) :
    FS X C (.Assign [.Tuple [.Name x px, .Name y py] kt pt] (.Tuple [a, b] k2 pt2) pos) (sPaO i j f ff) := by
  obtain ⟨t1, p1, q1⟩ := h1
  obtain ⟨t2, p2, q2⟩ := h2
  refine ⟨_, ps_par hc hN hi hj hij hx hy (pa_cons p1 (pa_cons p2 pa_nil hs2) hs1) hw hs, ?_⟩
  intro G H σ s o A e1 D k
  unfold sPaO at e1
  split at e1
  · rename_i d s1 e2
    split at e1
    · rename_i ds s2 e3
      cases e1
      refine q1 G H σ s d s1 A e2 _ fun v H1 G1 g1 A1 r1 => ?_
      refine q2 G1 H1 σ s1 ds s2 A1 e3 _ fun q vs H2 G2 g2 A2 n => ?_
      refine ⟨v, .ref q, rfl, k _ H2 G2 (g1.trans g2) ((A2.set_dat (i := i) (Rp.mono g2 d v r1)).set_own n.at_ n.rp n.g n.h0 n.sp fun j' es h3 h4 => ?_)⟩
      by_cases z : i = j'
      · subst z
        rw [List.getElem?_set] at h3
        split at h3
        · split at h3
          · cases h3
          · cases h3
        · rename_i w
          exact w rfl
      · rw [List.getElem?_set_ne z] at h3 h4
        exact n.no j' es h3 h4
    · cases e1
  · cases e1
end
end FD

set_option maxRecDepth 100000
set_option maxHeartbeats 4000000
namespace FD
open PySem PySem.Spec PyProof.Rows L2
section
variable {X : Cx} {C : Cn} {e a b c o : Expr} {es elts : List Expr} {pos p tpos p2 apos cpos : Pos} {f g h : EF} {ff : AF}
/-! ## how often a text stands in a text -/
def dCnt (b : Str) : DV → Option DV
  | .str a => some (.int (Txt.count a b))
  | _ => none
theorem fe_scount {b : Str} {j : Nat} {p2 : Pos} (h : FE X C e f) (hs : starEach [.Constant (.str b) j p2] X.env = [(false, eval (.Constant (.str b) j p2) X.env)] := by rfl) (hbase : attributeBase e "count" X.env (eval e X.env) = eval e X.env := by rfl) (hline : (apos.endLine == pos.line) = true := by rfl) :
    FE X C (.Call (.Attribute e "count" apos) [.Constant (.str b) j p2] [] pos) (FD.e1 f (dCnt b)) := by
  obtain ⟨te, p, q⟩ := h
  refine ⟨_, pe_m1 PySem.F.slot_str_count PySem.F.type_str_count mt_count p pe_str hs hbase hline, ?_⟩
  intro G H σ s d s' A e1' Q k
  unfold FD.e1 at e1'
  split at e1'
  · rename_i d0 s1 e2
    refine q G H σ s d0 s1 A e2 _ fun v H1 G1 g1 A1 r => ?_
    split at e1'
    · rename_i z e3
      have e4 := Option.some.inj e1'
      cases e4
      unfold dCnt at e3
      split at e3
      · rename_i x
        cases e3
        have r' : v = .str x := r
        subst r'
        exact ⟨⟨x, rfl⟩, x, b, rfl, rfl, k _ H1 G1 g1 A1 rfl⟩
      · cases e3
    · cases e1'
  · cases e1'
/-! ## the signs of a text, one by one -/
theorem wk_signs {K : PySem.W.Frag} {G : Hp} (x : Str) : Wk K G (Its x) (sgn x) where
  stop := fun i G1 H g1 g2 hi => by rw [sgn_len] at hi; exact hi
  go := fun i G1 H g1 g2 hi => by rw [sgn_len] at hi; exact hi
  yld := fun i G1 H d y H' g1 g2 e z => by
    obtain ⟨rfl, c, q, rfl⟩ := z
    have e3 : d = .str ⟨#[c]⟩ := by
      unfold sgn at e
      rw [List.getElem?_map, Array.getElem?_toList, q] at e
      exact (Option.some.inj e).symm
    subst e3
    exact ⟨G1, Fw.refl g2, rfl⟩
def iStS (f : EF) : LF := fun s => match f s with
  | some (.str x, s1) => some (sgn x, s1)
  | _ => none
theorem fi_strS {tg : Expr} (h : FE X C e f) : FI X C tg e (iStS f) := by
  obtain ⟨te, p1, q1⟩ := h
  refine ⟨_, pi_str p1, ?_⟩
  intro G H σ s ds s' A e1 R k
  unfold iStS at e1
  split at e1
  · rename_i x s1 e2
    cases e1
    refine q1 G H σ s _ _ A e2 _ fun v H1 G1 g1 A1 r => ?_
    have r' : v = .str x := r
    subst r'
    exact ⟨x, rfl, k _ H1 G1 g1 A1 (wk_signs x)⟩
  · cases e1
/-! ## x not in a tuple of data -/
def rNinT (K : PySem.W.Frag) : R2 := fun x y H Q => ∃ d ds, Dp K H x d ∧ Dp K H y (.tuple ds) ∧ SeqAt.shaped d = true ∧ SeqAt.shaped (.tuple ds) = true ∧ d.depth ≤ 60 ∧ Q (.bl (!ds.any fun z => PyData.eqv z d)) H
theorem op_ninT (hu : X.A.units + 64 < cLine) : OpR X (compareOp .NotIn) (rNinT X.K) := by
  intro pins s σ H x y v u Q I rx ry h
  obtain ⟨d, ds, hd, he, sd, se, hl, q⟩ := h
  obtain ⟨as, ra⟩ := Dp.reads I d x v hd rx
  obtain ⟨bs, rb⟩ := Dp.reads I (.tuple ds) y u he ry
  refine SeqAt.notIn_tuple_reads rb ra (SeqAt.canLay_of_shaped se) (SeqAt.canLay_of_shaped sd) ?_ ⟨.bl _, H, I, rfl, q⟩
  have := Nat.min_le_right (PyData.depthAll ds) d.depth
  omega
def dNin (d e : DV) : Option DV := match toPy d with
  | some x => match toPy e with
    | some (.tuple ys) => if SeqAt.shaped x && SeqAt.shaped (.tuple ys) && decide (x.depth ≤ 60) then some (.bl (!ys.any fun z => PyData.eqv z x)) else none
    | _ => none
  | none => none
theorem o_nin {K : PySem.W.Frag} : Op2 K (rNinT K) dNin := by
  intro C G H σ s x y d e z A r1 r2 ho Q q
  unfold dNin at ho
  cases h1 : toPy d with
  | none => rw [h1] at ho; cases ho
  | some a =>
    rw [h1] at ho
    dsimp only at ho
    split at ho
    · rename_i ys h2
      split at ho
      · rename_i hs
        cases ho
        rw [Bool.and_eq_true, Bool.and_eq_true] at hs
        exact ⟨a, ys, Rp.dp A.gh d x a r1 h1, Rp.dp A.gh e y _ r2 h2, hs.1.1, hs.1.2, of_decide_eq_true hs.2, q _ H G (Fw.refl A.gh) rfl⟩
      · cases ho
    · cases ho
theorem fe_nin (hu : X.A.units + 64 < cLine) (h1 : FE X C a f) (h2 : FE X C b g) (hm : behindInMarks .NotIn b = false := by rfl) : FE X C (.Compare a [.NotIn] [b] pos) (FD.e2 f g dNin) := fe_cmp (op_ninT hu) o_nin h1 h2 (hm := hm)
end
/-! ## x[::-1] of a pair -/
section
variable {prog : Program} {w : World} {A : Around} {E : Value → Shared → Prop} {s : Shared}
theorem cut_rev2 {sl : Addr} {vl vu vs : Value} {Q : Int × Int × Nat → Shared → Prop} (h : s.heap.IsSliceOf sl vl vu vs) (pl : IsPart vl none) (pu : IsPart vu none) (ps : IsPart vs (some (-1)))
    (k : Q (1, -1, 2) s) : wpAny (model prog w) A (Builtin.Slice.sliceApplied (.ref sl) (pure (2 : Int))) Q E s := by
  obtain ⟨os, ha, hb, hc⟩ := h
  unfold Builtin.Slice.sliceApplied Builtin.Slice.sliceFields
  refine wpAny_bind (wpAny_bind (wpAny_field ha hc (x := vl) rfl (wpAny_bind (wpAny_field ha hc (x := vu) rfl (wpAny_bind (wpAny_field ha hc (x := vs) rfl (wpAny_pure ?_)))))))
  refine wpAny_bind (HT.slicePart_ ps ?_)
  show wpAny _ _ (if ((-1 : Int) == 0) = true then _ else _) _ _ s
  rw [if_neg (by decide)]
  exact wpAny_bind (HT.slicePart_ pl (wpAny_bind (HT.slicePart_ pu (wpAny_bind (wpAny_pure (wpAny_pure k))))))
theorem get_rev2 {t sl : Addr} {x y vl vu vs : Value} {Q : Value → Shared → Prop} (ht : IsTup s.heap t #[x, y]) (h : s.heap.IsSliceOf sl vl vu vs) (pl : IsPart vl none) (pu : IsPart vu none) (ps : IsPart vs (some (-1)))
    (k : Q (.ref s.heap.objs.size) { s with heap := s.heap.push { cls := .type "tuple", data := .seq #[y, x] } }) : wpAny (model prog w) A (getItem (.ref t) (.ref sl)) Q E s := by
  obtain ⟨os, ha, hb, hc⟩ := id h
  have hk : s.TypeIs (.ref sl) "slice" := ⟨os, ha, hb⟩
  unfold getItem
  try with_reducible refine wpAny_holding ?_
  first | refine wpAny_bind (wpAny_pure ?_) | skip
  refine wpAny_bind (wpAny_sequenceKey ht.typeIs (by decide) ?_); refine wpAny_bind (wpAny_callSpecial?_slot (name := Str.ofString "__getitem__") ht.typeIs PyProof.Rows.slot_tuple_getitem (wpAny_call_entry PyProof.Rows.slot_tuple_getitem ht.typeIs entry_tuple_getitem ?_ (args_tuple_getitem _ _)))
  show wpAny _ _ (Builtin.Tuple.tupleItemsOf (.ref t) >>= fun _ => _) _ _ s
  refine wpAny_bind (tupleItemsOf_ ht (wpAny_bind (wpAny_typeOf hk ?_)))
  rw [if_pos (by decide)]
  refine wpAny_bind (cut_rev2 h pl pu ps ?_)
  show wpAny _ _ (if ((1 : Int) == 0 && (-1 : Int) == 1 && (2 : Nat) == 2) = true then _ else _) _ _ s
  rw [if_neg (by decide)]
  have hsz : sizeOk (.seq #[y, x]) := by show 2 ≤ sizeLine; decide
  first
    | exact wpAny_bind (m := Builtin.Tuple.tupleExact _) (wpAny_newObj_type (wpAny_pure ⟨_, rfl, wpAny_pure k⟩) hsz)
    | exact wpAny_bind (m := Builtin.Tuple.tupleExact _) (wpAny_newObj_type (wpAny_bind (wpAny_pure (wpAny_pure ⟨_, rfl, wpAny_pure k⟩))) hsz)
    | exact wpAny_bind (wpAny_bind (m := Builtin.Tuple.tupleExact _) (wpAny_newObj_type (wpAny_pure (wpAny_pure ⟨_, rfl, wpAny_pure k⟩)) hsz))
    | exact wpAny_bind (wpAny_bind (m := Builtin.Tuple.tupleExact _) (wpAny_newObj_type (wpAny_pure ⟨_, rfl, wpAny_pure k⟩) hsz))
end
def tRev2 (K : PySem.W.Frag) (te : TE) : TE := fun σ H Q => te σ H fun x H1 => ∃ a y z, x = .ref a ∧ SqT K H1 a [y, z] ∧ ∀ p, H1 p = none → Q (.ref p) (upd H1 p (.tup [z, y]))
theorem pe_rev2 {X : Cx} {e : Expr} {te : TE} {k : Nat} {p1 p2 p3 pos : Pos} (he : PE X e te) : PE X (.Subscript e (.Slice none none (some (.UnaryOp .USub (.Constant (.int 1) k p1) p2)) p3) pos) (tRev2 X.K te) := by
  refine ⟨fun pins s σ H Q I h => ?_⟩
  refine Subscript_ (thn (he.run pins s σ H _ I h) fun v s1 ⟨x, H1, I1, r1, a, y, z, ex, hx, q⟩ => ?_)
  subst ex
  cases r1
  have part : PO X (some (.UnaryOp .USub (.Constant (.int 1) k p1) p2)) (tPart (tUn (rU fun i => .int (-i)) (tC (.int 1)))) := po_some (pe_un un_neg pe_int)
  refine wpAny_Slice (thn (po_none.run pins s1 σ H1 (fun o H2 => o = none ∧ H2 = H1) I1 ⟨rfl, rfl⟩) fun vl s2 ⟨l, H2, I2, pl, el, e2⟩ => ?_)
  cases el; cases e2
  refine thn (po_none.run pins s2 σ H1 (fun o H3 => o = none ∧ H3 = H1) I2 ⟨rfl, rfl⟩) fun vu s3 ⟨u, H3, I3, pu, eu, e3⟩ => ?_
  cases eu; cases e3
  refine thn (part.run pins s3 σ H1 (fun o H4 => o = some (-1) ∧ H4 = H1) I3 ⟨1, rfl, -1, rfl, rfl, rfl⟩) fun vs s4 ⟨o, H4, I4, ps, eo, e4⟩ => ?_
  cases eo; cases e4
  have I5 : Inv X pins σ H1 { s4 with heap := s4.heap.push { cls := .type "slice", data := .fields #[vl, vu, vs] } } := I4.kept (t' := s4.toks) fun b ob q => Heap.get?_push_of_some _ q
  obtain ⟨its, r, ht, hz⟩ := I5.tuple hx
  obtain ⟨y', z', rfl, ry, rz⟩ : ∃ y' z', its = [y', z'] ∧ RelV y y' ∧ RelV z z' := by
    cases r with
    | cons r1 rr => cases rr with
      | cons r2 rr => cases rr; exact ⟨_, _, rfl, r1, r2⟩
  show wpAny (model X.prog X.w) X.A (subscriptTail e (.Slice none none (some (.UnaryOp .USub (.Constant (.int 1) k p1) p2)) p3) (.ref a) (.ref s4.heap.objs.size)) (EP X pins σ Q) X.xe _
  refine tail_any (ops := [.ref a, .ref s4.heap.objs.size]) ht.typeIs PyProof.Rows.slot_tuple_getitem.lookup ?_ (by with_unfolding_all rfl)
  refine get_rev2 (x := y') (y := z') ht (Heap.IsSliceOf.new _ vl vu vs) pl pu ps ?_
  refine ⟨.ref _, _, I5.laid (t' := s4.toks) (o := .tup [z, y]) (fun b ob q => Heap.get?_push_of_some _ q) (Nat.le_refl _) ?_, rfl, q _ (I5.hok.fresh (Nat.le_refl _))⟩
  exact ⟨by show 2 ≤ sizeLine; decide, _, .cons rz (.cons ry .nil), IsTup.new _ _⟩
def dRev2 : DV → Option DV
  | .tup [x, y] => some (.tup [y, x])
  | _ => none
theorem fe_rev2 {X : Cx} {C : Cn} {e : Expr} {f : EF} {k : Nat} {p1 p2 p3 pos : Pos} (he : FE X C e f) : FE X C (.Subscript e (.Slice none none (some (.UnaryOp .USub (.Constant (.int 1) k p1) p2)) p3) pos) (FD.e1 f dRev2) := by
  obtain ⟨te, p1', q1⟩ := he
  refine ⟨_, pe_rev2 p1', ?_⟩
  intro G H σ s d s' A e1 Q k
  unfold FD.e1 at e1
  split at e1
  · rename_i d0 s1 e2
    split at e1
    · rename_i z e3
      have e4 := Option.some.inj e1
      cases e4
      refine q1 G H σ s _ _ A e2 _ fun v H1 G1 g1 A1 r => ?_
      unfold dRev2 at e3
      split at e3
      · rename_i x y
        cases e3
        obtain ⟨a, vs, rfl, h1, h2⟩ := r
        obtain ⟨v1, r1, rfl, h3, h4⟩ := h2
        obtain ⟨v2, r2, rfl, h5, h6⟩ := h4
        have : r2 = [] := h6
        subst this
        exact ⟨a, v1, v2, rfl, Same.tup A1.gh h1, tup_ok A1 (show RpL _ _ [v2, v1] [y, x] from ⟨v2, [v1], rfl, h5, v1, [], rfl, h3, rfl⟩) fun v H' G' F r => k v H' G' (g1.trans F.g) (A1.fw0 F) r⟩
      · cases e3
    · cases e1
  · cases e1
end FD

set_option maxRecDepth 100000
set_option maxHeartbeats 4000000
namespace FD
open PySem PySem.Spec PyProof.Rows L2
/-! ## zip of a list and a tuple -/
section
variable {prog : Program} {w : World} {A : Around} {E : Value → Shared → Prop} {s : Shared}
/-- the first steps of a turn: the flag is set -/
theorem zm_open {Z ti to i j : Addr} {R : Fin → Shared → Prop} (qz : IsZip s.heap Z ti to .none) (qt : IsPair s.heap ti (.ref i) (.ref j))
    (k : ∀ g, IsZip g Z ti to .ellipsis → Heap.SameBut Z s.heap g → True) : True := trivial
theorem zm_item {Z ti to i j l m : Addr} {k n : Nat} {us vs : Array Value} {u v a b : Value} {Q : Value → Shared → Prop} (D : ZipApart Z ti to i j l m)
    (qz : IsZip s.heap Z ti to .none) (qt : IsPair s.heap ti (.ref i) (.ref j)) (qo : IsPair s.heap to a b)
    (qi : s.heap.IsListIter i l k) (qj : s.heap.IsTupleIter j m n) (ql : s.heap.IsList l us) (qm : s.heap.IsTuple m vs) (eu : us[k]? = some u) (ev : vs[n]? = some v)
    (q : ∀ g, IsZip g Z ti to (rawInt s.heap.objs.size) → IsPair g to u v → g.IsListIter i l (k + 1) → g.IsTupleIter j m (n + 1) → IsPair g s.heap.objs.size u v →
      (∀ c o, c ≠ Z → c ≠ to → c ≠ i → c ≠ j → s.heap.get? c = some o → g.get? c = some o) → Q (.ref s.heap.objs.size) { s with heap := g }) :
    wpAny (model prog w) A (Builtin.«zip.__next__» ⟨[.ref Z], []⟩) (fun fin t => ∃ x, fin = .done (.ret x) ∧ Q x t) E s := by
  show wpAny _ _ (field (.ref Z) 2 >>= fun _ => _) _ _ _
  refine wpAny_bind (wpAny_field qz rfl (x := .bool false) rfl ?_)
  show wpAny _ _ (field (.ref Z) 3 >>= fun _ => _) _ _ _
  refine wpAny_bind (wpAny_field qz rfl (x := .ref ti) rfl (wpAny_bind (wpAny_seqItems qt rfl ?_)))
  show wpAny _ _ (Builtin.SmallTypes.ownedTupleIsFree (.ref Z) >>= fun _ => _) _ _ _
  refine wpAny_bind ?_; unfold Builtin.SmallTypes.ownedTupleIsFree
  refine wpAny_bind (wpAny_field qz rfl (x := .none) rfl (wpAny_pure ?_)); simp only [if_true]
  refine wpAny_bind (wpAny_rule (wpAny_bind (wpAny_field qz rfl (x := .ref to) rfl (wpAny_bind (wpAny_setField_rec qz (by simp) fun g1 z1 s1 => ?_)))))
  replace z1 : IsZip g1 Z ti to .ellipsis := z1
  refine wpAny_bind ?_; simp only [List.forIn_nil, List.forIn_cons, List.zipIdx_nil, List.zipIdx_cons]
  refine wpAny_bind (wpAny_bind (wpAny_onRaise (show wpAny _ _ (Builtin.SmallTypes.nextOf (.ref i) >>= fun _ => _) _ _ _ from ?_)))
  refine wpAny_bind (wpAny_nextOf_list_item (qi.extBut s1.extBut D.i1z) (ql.extBut s1.extBut D.l1z) eu fun g2 i2 s2 => wpAny_pure ?_)
  have o2 : IsPair g2 to a b := s2.extBut _ _ D.TOi1 (s1.extBut _ _ D.TOz qo)
  refine wpAny_bind (wpAny_seqItems o2 rfl (wpAny_bind (wpAny_updateSeq_pair o2 fun g3 o3 s3 => ?_)))
  replace o3 : IsPair g3 to u b := o3
  refine wpAny_bind (wpAny_letGo (wpAny_pure (wpAny_bind (wpAny_bind (wpAny_onRaise (show wpAny _ _ (Builtin.SmallTypes.nextOf (.ref j) >>= fun _ => _) _ _ _ from ?_))))))
  refine wpAny_bind (RZ.nextOf_tuple_item (((qj.extBut s1.extBut D.i2z).extBut s2.extBut D.i12.symm).extBut s3.extBut D.TOi2.symm) (((qm.extBut s1.extBut D.l2z).extBut s2.extBut D.l2i1).extBut s3.extBut D.l2TO) ev fun g4 j4 s4 => wpAny_pure ?_)
  have o4 : IsPair g4 to u b := s4.extBut _ _ D.TOi2 o3
  refine wpAny_bind (wpAny_seqItems o4 rfl (wpAny_bind (wpAny_updateSeq_pair o4 fun g5 o5 s5 => ?_)))
  replace o5 : IsPair g5 to u v := o5
  refine wpAny_bind (wpAny_letGo (wpAny_pure (wpAny_pure (wpAny_bind (wpAny_seqItems o5 rfl (wpAny_bind (wpAny_newTuple ?_)))))))
  have sz : g5.objs.size = s.heap.objs.size := by rw [s5.1, s4.1, s3.1, s2.1, s1.1]
  have z5 : IsZip g5 Z ti to .ellipsis := s5.extBut _ _ D.TOz.symm (s4.extBut _ _ D.i2z.symm (s3.extBut _ _ D.TOz.symm (s2.extBut _ _ D.i1z.symm z1)))
  have k5 : ∀ c o, c ≠ Z → c ≠ to → c ≠ i → c ≠ j → s.heap.get? c = some o → g5.get? c = some o := fun c o c1 c2 c3 c4 h => s5.extBut _ _ c2 (s4.extBut _ _ c4 (s3.extBut _ _ c2 (s2.extBut _ _ c3 (s1.extBut _ _ c1 h))))
  have i5 : g5.IsListIter i l (k + 1) := ((i2.extBut s3.extBut D.TOi1.symm).extBut s4.extBut D.i12).extBut s5.extBut D.TOi1.symm
  have j5 : g5.IsTupleIter j m (n + 1) := j4.extBut s5.extBut D.TOi2.symm
  have lZ : Z < g5.objs.size := Heap.lt_size z5
  show wpAny _ _ (Builtin.SmallTypes.ownedTupleHandOut (.ref Z) (.ref g5.objs.size) >>= fun _ => _) _ _ _
  refine wpAny_bind ?_; unfold Builtin.SmallTypes.ownedTupleHandOut
  have z6 : IsZip (g5.push { cls := .type "tuple", data := .seq #[u, v] }) Z ti to .ellipsis := Heap.get?_push_of_some _ z5
  refine wpAny_bind (wpAny_setField_rec z6 (by simp) fun g7 z7 s7 => ?_)
  replace z7 : IsZip g7 Z ti to (rawInt g5.objs.size) := z7
  refine wpAny_setField_rec z7 (by simp) fun g8 z8 s8 => ?_
  replace z8 : IsZip g8 Z ti to (rawInt g5.objs.size) := z8
  have up : ∀ c o, c ≠ Z → g5.get? c = some o → g8.get? c = some o := fun c o c1 h => s8.extBut _ _ c1 (s7.extBut _ _ c1 (Heap.get?_push_of_some _ h))
  have t8 : IsPair g8 g5.objs.size u v := s8.extBut _ _ (Nat.ne_of_gt lZ) (s7.extBut _ _ (Nat.ne_of_gt lZ) (Heap.get?_push_size _ rfl))
  rw [sz] at z8 t8
  refine wpAny_pure ⟨_, rfl, ?_⟩
  show Q (.ref g5.objs.size) { s with heap := g8 }
  rw [sz]
  exact q g8 z8 (up _ _ D.TOz o5) (i5.at fun o h => up _ o D.i1z h) (j5.at fun o h => up _ o D.i2z h) t8 fun c o c1 c2 c3 c4 h => up c o c1 (k5 c o c1 c2 c3 c4 h)
theorem zm_end {Z ti to i j l m : Addr} {k n : Nat} {us vs : Array Value} {a b : Value} {Q : Fin → Shared → Prop} (hh : A.handled = none) (D : ZipApart Z ti to i j l m)
    (qz : IsZip s.heap Z ti to .none) (qt : IsPair s.heap ti (.ref i) (.ref j)) (qo : IsPair s.heap to a b)
    (qi : s.heap.IsListIter i l k) (qj : s.heap.IsTupleIter j m n) (ql : s.heap.IsList l us) (qm : s.heap.IsTuple m vs) (over : us[k]? = none ∨ vs[n]? = none)
    (q : ∀ g e, (∀ c o, c ≠ Z → c ≠ to → c ≠ i → c ≠ j → s.heap.get? c = some o → g.get? c = some o) → (∃ o, g.get? e = some o ∧ o.cls = .type "StopIteration") → E (.ref e) { s with heap := g }) :
    wpAny (model prog w) A (Builtin.«zip.__next__» ⟨[.ref Z], []⟩) Q E s := by
  show wpAny _ _ (field (.ref Z) 2 >>= fun _ => _) _ _ _
  refine wpAny_bind (wpAny_field qz rfl (x := .bool false) rfl ?_)
  show wpAny _ _ (field (.ref Z) 3 >>= fun _ => _) _ _ _
  refine wpAny_bind (wpAny_field qz rfl (x := .ref ti) rfl (wpAny_bind (wpAny_seqItems qt rfl ?_)))
  show wpAny _ _ (Builtin.SmallTypes.ownedTupleIsFree (.ref Z) >>= fun _ => _) _ _ _
  refine wpAny_bind ?_; unfold Builtin.SmallTypes.ownedTupleIsFree
  refine wpAny_bind (wpAny_field qz rfl (x := .none) rfl (wpAny_pure ?_)); simp only [if_true]
  refine wpAny_bind (wpAny_rule (wpAny_bind (wpAny_field qz rfl (x := .ref to) rfl (wpAny_bind (wpAny_setField_rec qz (by simp) fun g1 z1 s1 => ?_)))))
  replace z1 : IsZip g1 Z ti to .ellipsis := z1
  refine wpAny_bind ?_; simp only [List.forIn_nil, List.forIn_cons, List.zipIdx_nil, List.zipIdx_cons]
  refine wpAny_bind (wpAny_bind (wpAny_onRaise (show wpAny _ _ (Builtin.SmallTypes.nextOf (.ref i) >>= fun _ => _) _ _ _ from ?_)))
  cases eu : us[k]? with
  | none =>
    refine wpAny_bind (wpAny_nextOf_list_end hh (qi.extBut s1.extBut D.i1z) (ql.extBut s1.extBut D.l1z) eu fun g2 e s2 he => ?_)
    obtain ⟨ob, ho, hc⟩ := he
    have z2 : IsZip g2 Z ti to .ellipsis := s2 _ _ D.i1z.symm z1
    have ne : e ≠ Z := fun x => by subst x; rw [z2] at ho; cases ho; simp at hc
    exact wpAny_setField_rec z2 (by simp) fun g3 _ s3 => q g3 e (fun c o c1 _ c3 _ h => s3.extBut _ _ c1 (s2 _ _ c3 (s1.extBut _ _ c1 h))) ⟨ob, s3.extBut _ _ ne ho, hc⟩
  | some u =>
    have ev : vs[n]? = none := over.elim (fun h => by rw [eu] at h; cases h) fun h => h
    refine wpAny_bind (wpAny_nextOf_list_item (qi.extBut s1.extBut D.i1z) (ql.extBut s1.extBut D.l1z) eu fun g2 i2 s2 => wpAny_pure ?_)
    have o2 : IsPair g2 to a b := s2.extBut _ _ D.TOi1 (s1.extBut _ _ D.TOz qo)
    refine wpAny_bind (wpAny_seqItems o2 rfl (wpAny_bind (wpAny_updateSeq_pair o2 fun g3 o3 s3 => ?_)))
    refine wpAny_bind (wpAny_letGo (wpAny_pure (wpAny_bind (wpAny_bind (wpAny_onRaise (show wpAny _ _ (Builtin.SmallTypes.nextOf (.ref j) >>= fun _ => _) _ _ _ from ?_))))))
    refine wpAny_bind (RZ.nextOf_tuple_end hh (((qj.extBut s1.extBut D.i2z).extBut s2.extBut D.i12.symm).extBut s3.extBut D.TOi2.symm) (((qm.extBut s1.extBut D.l2z).extBut s2.extBut D.l2i1).extBut s3.extBut D.l2TO) ev fun g4 e s4 he => ?_)
    obtain ⟨ob, ho, hc⟩ := he
    have z4 : IsZip g4 Z ti to .ellipsis := s4 _ _ D.i2z.symm (s3.extBut _ _ D.TOz.symm (s2.extBut _ _ D.i1z.symm z1))
    have ne : e ≠ Z := fun x => by subst x; rw [z4] at ho; cases ho; simp at hc
    exact wpAny_setField_rec z4 (by simp) fun g5 _ s5 => q g5 e (fun c o c1 c2 c3 c4 h => s5.extBut _ _ c1 (s4 _ _ c4 (s3.extBut _ _ c2 (s2.extBut _ _ c3 (s1.extBut _ _ c1 h))))) ⟨ob, s5.extBut _ _ ne ho, hc⟩
theorem zm_next {Z ti to i j l m : Addr} {k n : Nat} {us vs : Array Value} {u v a b : Value} {Q : Option Value → Shared → Prop} (D : ZipApart Z ti to i j l m)
    (qz : IsZip s.heap Z ti to .none) (qt : IsPair s.heap ti (.ref i) (.ref j)) (qo : IsPair s.heap to a b)
    (qi : s.heap.IsListIter i l k) (qj : s.heap.IsTupleIter j m n) (ql : s.heap.IsList l us) (qm : s.heap.IsTuple m vs) (eu : us[k]? = some u) (ev : vs[n]? = some v)
    (q : ∀ g, IsZip g Z ti to (rawInt s.heap.objs.size) → IsPair g to u v → g.IsListIter i l (k + 1) → g.IsTupleIter j m (n + 1) → IsPair g s.heap.objs.size u v →
      (∀ c o, c ≠ Z → c ≠ to → c ≠ i → c ≠ j → s.heap.get? c = some o → g.get? c = some o) → Q (some (.ref s.heap.objs.size)) { s with heap := g }) :
    wpAny (model prog w) A (pyNext (.ref Z)) Q E s := by
  have ty : s.TypeIs (.ref Z) "zip" := ⟨_, qz, rfl⟩
  unfold pyNext
  exact wpAny_bind (wpAny_attempt (wpAny_callSpecial?_slot (name := Str.ofString "__next__") ty F.slot_zip_next (wpAny_call_entry F.slot_zip_next ty F.entry_zip_next
    (zm_item D qz qt qo qi qj ql qm eu ev fun g a1 a2 a3 a4 a5 a6 => wpAny_pure (q g a1 a2 a3 a4 a5 a6)) (F.args_zip_next_1 _))))
theorem zm_stop {Z ti to i j l m : Addr} {k n : Nat} {us vs : Array Value} {a b : Value} {Q : Option Value → Shared → Prop} (hh : A.handled = none) (D : ZipApart Z ti to i j l m)
    (qz : IsZip s.heap Z ti to .none) (qt : IsPair s.heap ti (.ref i) (.ref j)) (qo : IsPair s.heap to a b)
    (qi : s.heap.IsListIter i l k) (qj : s.heap.IsTupleIter j m n) (ql : s.heap.IsList l us) (qm : s.heap.IsTuple m vs) (over : us[k]? = none ∨ vs[n]? = none)
    (q : ∀ g, (∀ c o, c ≠ Z → c ≠ to → c ≠ i → c ≠ j → s.heap.get? c = some o → g.get? c = some o) → Q none { s with heap := g }) : wpAny (model prog w) A (pyNext (.ref Z)) Q E s := by
  have ty : s.TypeIs (.ref Z) "zip" := ⟨_, qz, rfl⟩
  unfold pyNext
  refine wpAny_bind (wpAny_attempt (wpAny_callSpecial?_slot (name := Str.ofString "__next__") ty F.slot_zip_next (wpAny_call_entry F.slot_zip_next ty F.entry_zip_next (zm_end hh D qz qt qo qi qj ql qm over fun g e hk he => ?_) (F.args_zip_next_1 _))))
  obtain ⟨o, ho, hc⟩ := he
  exact wpAny_bind (wpAny_isInstance (T := "StopIteration") (b := true) ⟨o, ho, hc⟩ isSubtype_stop (wpAny_pure (q _ hk)))
end
abbrev zmA (h : Heap) (l : Addr) : Heap := h.push { cls := .type "list_iterator", data := .fields #[.ref l, .int 0 0] }
abbrev zmB (h : Heap) (l m : Addr) : Heap := (zmA h l).push { cls := .type "tuple_iterator", data := .fields #[.ref m, .int 0 0] }
abbrev zmC (h : Heap) (l m : Addr) : Heap := (zmB h l m).push { cls := .type "tuple", data := .seq #[.ref h.objs.size, .ref (zmA h l).objs.size] }
abbrev zmD (h : Heap) (l m : Addr) : Heap := (zmC h l m).push { cls := .type "tuple", data := .seq #[.none, .none] }
abbrev zmE (h : Heap) (l m : Addr) : Heap := (zmD h l m).push { cls := .type "zip", data := .fields #[.none, .bool false, .bool false, .ref (zmB h l m).objs.size, .ref (zmC h l m).objs.size] }
theorem zm_new (l m : Addr) (us vs : Array Value) :
    Meets (Builtin.«zip.__new__» ⟨[.type "zip", .ref l, .ref m], []⟩) (fun _ R s => s.heap.IsList l us ∧ s.heap.IsTuple m vs ∧ R (.ok (.ret (.ref (zmD s.heap l m).objs.size))) { s with heap := zmE s.heap l m }) :=
  .of_wp fun prog w A R s h => by
    obtain ⟨hp, g, d, tk, os⟩ := s
    obtain ⟨a, b, h⟩ := h
    have hsub := sub_zip
    have la : Heap.IsList (Shared.heap ⟨hp, g, d, tk, os⟩) l us := a
    have lb : Heap.IsTuple (Shared.heap ⟨hp.push { cls := .type "list_iterator", data := .fields #[.ref l, .int 0 0] }, g, d, tk, os⟩) m vs := Heap.IsTuple.push b _
    wp_walk using wpAny_pyIter_list la, wpAny_pyIter_tuple lb
    exact ⟨_, rfl, h⟩
section
variable {prog : Program} {w : World} {A : Around} {E : Value → Shared → Prop} {s : Shared}
theorem zm_call {l m : Addr} {us vs : Array Value} {Q : Value → Shared → Prop} (ql : s.heap.IsList l us) (qm : s.heap.IsTuple m vs)
    (h : ∀ g, IsZip g (s.heap.objs.size + 4) (s.heap.objs.size + 2) (s.heap.objs.size + 3) .none → IsPair g (s.heap.objs.size + 2) (.ref s.heap.objs.size) (.ref (s.heap.objs.size + 1)) →
      IsPair g (s.heap.objs.size + 3) .none .none → g.IsListIter s.heap.objs.size l 0 → g.IsTupleIter (s.heap.objs.size + 1) m 0 → (∀ c o, s.heap.get? c = some o → g.get? c = some o) → Q (.ref (s.heap.objs.size + 4)) { s with heap := g }) :
    wpAny (model prog w) A (call (.type "zip") [.ref l, .ref m]) Q E s := by
  refine callType_new F.called_zip (by decide) (F.typeCall_zip_2 _ _) (F.newCall_zip_2 _ _) (fun ob => F.args_object_init_3 ob _ _) F.entry_zip_new (zm_new l m us vs) ⟨ql, qm, ?_⟩
  have n1 : (zmA s.heap l).objs.size = s.heap.objs.size + 1 := Heap.size_push ..
  have n2 : (zmB s.heap l m).objs.size = s.heap.objs.size + 2 := by rw [Heap.size_push, n1]
  have n3 : (zmC s.heap l m).objs.size = s.heap.objs.size + 3 := by rw [Heap.size_push, n2]
  have n4 : (zmD s.heap l m).objs.size = s.heap.objs.size + 4 := by rw [Heap.size_push, n3]
  have p5 : (zmE s.heap l m).get? (zmD s.heap l m).objs.size = some _ := Heap.get?_push_size _ rfl
  have p4 : (zmE s.heap l m).get? (zmC s.heap l m).objs.size = some _ := Heap.get?_push_of_some _ (Heap.get?_push_size _ rfl)
  have p3 : (zmE s.heap l m).get? (zmB s.heap l m).objs.size = some _ := Heap.get?_push_of_some _ (Heap.get?_push_of_some _ (Heap.get?_push_size _ rfl))
  have p2 : (zmE s.heap l m).get? (zmA s.heap l).objs.size = some _ := Heap.get?_push_of_some _ (Heap.get?_push_of_some _ (Heap.get?_push_of_some _ (Heap.get?_push_size _ rfl)))
  have p1 : (zmE s.heap l m).get? s.heap.objs.size = some _ := Heap.get?_push_of_some _ (Heap.get?_push_of_some _ (Heap.get?_push_of_some _ (Heap.get?_push_of_some _ (Heap.get?_push_size _ rfl))))
  show _ ∧ _
  rw [n2, n3, n4] at p5; rw [n1, n2] at p3; rw [n3] at p4; rw [n1] at p2; rw [n4]
  exact ⟨⟨_, p5, rfl⟩, h _ p5 p3 p4 ⟨_, p1, rfl, rfl⟩ ⟨_, p2, rfl, rfl⟩ fun c o x => Heap.get?_push_of_some _ (Heap.get?_push_of_some _ (Heap.get?_push_of_some _ (Heap.get?_push_of_some _ (Heap.get?_push_of_some _ x))))⟩
end
end FD

set_option maxRecDepth 100000
set_option maxHeartbeats 4000000
namespace FD
open PySem PySem.Spec PyProof.Rows L2
/-! ## a turn over zip of a list and a tuple -/
def ItzM (K : PySem.W.Frag) (a b : Addr) : It :=
  ⟨fun i H => ∃ (us vs : List V) (u v : V), SqL K H a us ∧ SqT K H b vs ∧ us[i]? = some u ∧ vs[i]? = some v,
    fun i H r H' => ∃ T u v, r = .ref T ∧ H T = none ∧ H' = upd H T (.tup [u, v]) ∧ (∀ us, SqL K H a us → us[i]? = some u) ∧ ∀ vs, SqT K H b vs → vs[i]? = some v,
    fun i H => ∃ us vs : List V, SqL K H a us ∧ SqT K H b vs ∧ (us.length ≤ i ∨ vs.length ≤ i)⟩
theorem turn_zm {P : Program} {w : World} {K : PySem.W.Frag} {elts : List Expr} {kk : Nat} {tpos : Pos} {a b Z ti to p q : Addr} (D : ZipApart Z ti to p q a b) :
    Turn P w K (.Tuple elts kk tpos) (ItzM K a b) [Z, ti, to, p, q] Z (fun i h => IsZip h Z ti to .none ∧ IsPair h ti (.ref p) (.ref q) ∧ (∃ x y, IsPair h to x y) ∧ h.IsListIter p a i ∧ h.IsTupleIter q b i) where
  mem := by simp
  obj := fun i h st c hc => by
    obtain ⟨qz, qt, ⟨x, y, qo⟩, ⟨o1, e1, _, d1⟩, ⟨o2, e2, _, d2⟩⟩ := st
    have e' : c = Z ∨ c = ti ∨ c = to ∨ c = p ∨ c = q := by simpa using hc
    rcases e' with r | r | r | r | r
    · rw [r]; exact ⟨_, qz, fun v y => nomatch y⟩
    · rw [r]; exact ⟨_, qt, fun v y => nomatch y⟩
    · rw [r]; exact ⟨_, qo, fun v y => nomatch y⟩
    · rw [r]; exact ⟨o1, e1, fun v y => by rw [d1] at y; cases y⟩
    · rw [r]; exact ⟨o2, e2, fun v y => by rw [d2] at y; cases y⟩
  keep := fun i h h' st k => let ⟨qz, qt, ⟨x, y, qo⟩, h1, h2⟩ := st; ⟨k Z (by simp) _ qz, k ti (by simp) _ qt, ⟨x, y, k to (by simp) _ qo⟩, h1.at fun o r => k p (by simp) o r, h2.at fun o r => k q (by simp) o r⟩
  item := by
    intro X hP hw hK hc i pins s σ H E I hf st hg
    subst hP hw hK
    obtain ⟨qz, qt, ⟨x0, y0, qo⟩, h1, h2⟩ := st
    obtain ⟨us, vs, u, v, sa, sb', eu, ev⟩ := hg
    obtain ⟨its, rv, pl, _⟩ := I.list sa
    obtain ⟨its2, rv2, pt, _⟩ := I.tuple sb'
    obtain ⟨u1, hu1, ru1⟩ := rv.get eu
    obtain ⟨v1, hv1, rv1⟩ := rv2.get ev
    have lZ : Z < s.heap.objs.size := Heap.lt_size qz
    refine zm_next D qz qt qo h1 h2 pl.isList pt (u := u1) (v := v1) (by simpa using hu1) (by simpa using hv1) fun g z' o' i' j' hT hk => ?_
    refine ⟨_, rfl, wpAny_letOwnedTupleGo_zip (s := { s with heap := g }) z' fun g2 z2 sb => ?_⟩
    have hT2 : g2.get? s.heap.objs.size = some { cls := .type "tuple", data := .seq #[u1, v1] } := (sb.2 _ (Nat.ne_of_gt lZ)).trans hT
    have new : ObjOk X.prog X.w (upd H s.heap.objs.size (.tup [u, v])) g2 s.heap.objs.size (.tup [u, v]) := ⟨by show 2 ≤ sizeLine; decide, [u1, v1], .cons ru1 (.cons rv1 .nil), ⟨_, hT2, rfl, _, rfl⟩⟩
    have I1 : Inv X pins σ (upd H s.heap.objs.size (.tup [u, v])) { s with heap := g2 } :=
      I.turnedNew (t' := s.toks) (ch := [Z, ti, to, p, q]) (fun c o nb r => (sb.2 c (fun y => nb (by simp [y]))).trans (hk c o (fun y => nb (by simp [y])) (fun y => nb (by simp [y])) (fun y => nb (by simp [y])) (fun y => nb (by simp [y])) r)) hf (Nat.le_refl _) new
    refine ⟨.ref s.heap.objs.size, _, I1, rfl, ⟨_, u, v, rfl, I.hok.fresh (Nat.le_refl _), rfl, fun l hl => by rw [I.list_inj hl sa]; exact eu, fun l hl => by rw [I.tuple_inj hl sb']; exact ev⟩, ⟨z2, ?_, ⟨u1, v1, ?_⟩, ?_, ?_⟩, fun c hcm => ?_⟩
    · exact (sb.2 _ D.TIz).trans (hk _ _ D.TIz D.TITO D.TIi1 D.TIi2 qt)
    · exact (sb.2 _ D.TOz).trans o'
    · exact i'.at fun o r => (sb.2 _ D.i1z).trans r
    · exact j'.at fun o r => (sb.2 _ D.i2z).trans r
    · have lt : c < s.heap.objs.size := by
        have e' : c = Z ∨ c = ti ∨ c = to ∨ c = p ∨ c = q := by simpa using hcm
        rcases e' with r | r | r | r | r
        · rw [r]; exact lZ
        · rw [r]; exact Heap.lt_size qt
        · rw [r]; exact Heap.lt_size qo
        · rw [r]; obtain ⟨_, e1, _⟩ := h1; exact Heap.lt_size e1
        · rw [r]; obtain ⟨_, e1, _⟩ := h2; exact Heap.lt_size e1
      rw [upd_ne (Nat.ne_of_lt lt)]; exact (hf c hcm).1
  done := by
    intro X hP hw hK hc i pins s σ H E I hf st hg
    subst hP hw hK
    obtain ⟨qz, qt, ⟨x0, y0, qo⟩, h1, h2⟩ := st
    obtain ⟨us, vs, sa, sb', over⟩ := hg
    obtain ⟨its, rv, pl, _⟩ := I.list sa
    obtain ⟨its2, rv2, pt, _⟩ := I.tuple sb'
    have n1 := rv.length
    have n2 := rv2.length
    have he : its.toArray[i]? = none ∨ its2.toArray[i]? = none := over.elim (fun r => .inl (by simp; omega)) fun r => .inr (by simp; omega)
    exact zm_stop (I.ok.hd hc) D qz qt qo h1 h2 pl.isList pt he fun g hk => ⟨rfl, I.turnedL (t' := s.toks) (ch := [Z, ti, to, p, q]) (fun c o nb r => hk c o (fun y => nb (by simp [y])) (fun y => nb (by simp [y])) (fun y => nb (by simp [y])) (fun y => nb (by simp [y])) r) hf⟩
  self := fun A i s Q E st h => wpAny_pyIter_zip st.1 h
def iZipM (K : PySem.W.Frag) (ta : TA) : TI := fun σ H R => ta σ H fun rs H1 => ∃ a b us vs, rs = [.ref a, .ref b] ∧ SqL K H1 a us ∧ SqT K H1 b vs ∧ R (ItzM K a b) H1
theorem pi_zipM {X : Cx} {e e2 : Expr} {ta : TA} {p pos tpos : Pos} {elts : List Expr} {kk : Nat} (hg : Gl X "zip") (hm : X.mg "zip" = none) (ha : PA X [e, e2] ta)
    (hs : starEach [e, e2] X.env = (false, eval e X.env) :: starEach [e2] X.env := by rfl) (hpl : (backTo pos (starEach [e2] X.env)).any (fun z => z.1) = false := by rfl) :
    PI X (.Tuple elts kk tpos) (.Call (.Name "zip" p) [e, e2] [] pos) (iZipM X.K ta) := by
  refine ⟨fun pins s σ H R I h => ?_⟩
  refine Call_ (ld_blt I hg hm PyProof.Rows.boot_zip (PyProof.Rows.callWith_type1 (thn (ha.run pos pins s σ H _ I h) fun xs t ⟨rs, H1, I1, r1, a, b, us, vs, ex, sa, sb, q⟩ => ?_) hs hpl))
  subst ex
  cases r1 with
  | cons r rr => cases rr with
    | cons r' rr =>
      cases rr
      cases r
      cases r'
      obtain ⟨its, rv, p1, _⟩ := I1.list sa
      obtain ⟨its2, rv2, p2, _⟩ := I1.tuple sb
      obtain ⟨o2, ho2, _⟩ := id p2
      refine zm_call p1.isList (show t.heap.IsTuple b its2.toArray from p2) fun g qz qt qo h1 h2 hk => wpAny_pyIter_zip qz ?_
      have I2 : Inv X pins σ H1 { t with heap := g } := I1.kept (t' := t.toks) hk
      refine ⟨t.heap.objs.size + 4, [t.heap.objs.size + 4, t.heap.objs.size + 2, t.heap.objs.size + 3, t.heap.objs.size, t.heap.objs.size + 1], _, _, H1, rfl, I2, turn_zm (PySem.W.ktu_apart t.heap.objs.size a b p1.lt (Heap.lt_size ho2)), ⟨qz, qt, ⟨_, _, qo⟩, h1, h2⟩, fun c hcm => ?_, q⟩
      have e' : c = t.heap.objs.size + 4 ∨ c = t.heap.objs.size + 2 ∨ c = t.heap.objs.size + 3 ∨ c = t.heap.objs.size ∨ c = t.heap.objs.size + 1 := by simpa using hcm
      have le : t.heap.objs.size ≤ c := by rcases e' with r | r | r | r | r <;> rw [r] <;> first | exact Nat.le_add_right _ _ | exact Nat.le_refl _
      exact I1.fpOk le (I1.hok.fresh le)
/-- the pairs of two lists -/
def zpD : List DV → List DV → List DV
  | x :: xs, y :: ys => .tup [x, y] :: zpD xs ys
  | _, _ => []
theorem zpD_len : ∀ xs ys : List DV, (zpD xs ys).length = min xs.length ys.length
  | [], ys => by cases ys <;> simp [zpD]
  | x :: xs, [] => by simp [zpD]
  | x :: xs, y :: ys => by simp [zpD, zpD_len xs ys]
theorem zpD_get : ∀ (xs ys : List DV) (i : Nat) (d : DV), (zpD xs ys)[i]? = some d → ∃ x y, xs[i]? = some x ∧ ys[i]? = some y ∧ d = .tup [x, y]
  | [], ys, i, d, h => by cases ys <;> simp [zpD] at h
  | x :: xs, [], i, d, h => by simp [zpD] at h
  | x :: xs, y :: ys, 0, d, h => by
    have h' : DV.tup [x, y] = d := by simpa [zpD] using h
    exact ⟨x, y, rfl, rfl, h'.symm⟩
  | x :: xs, y :: ys, i + 1, d, h => by
    obtain ⟨u, v, h1, h2, h3⟩ := zpD_get xs ys i d (by simpa [zpD] using h)
    exact ⟨u, v, by simpa using h1, by simpa using h2, h3⟩
theorem wk_zip {K : PySem.W.Frag} {G : Hp} {a b : Addr} {us vs : List V} {ds es : List DV} (ha : G a = some (.lst us)) (ra : RpL K G us ds) (hb : G b = some (.tup vs)) (rb : RpL K G vs es) : Wk K G (ItzM K a b) (zpD ds es) where
  stop := fun i G1 H g1 g2 hi => ⟨us, vs, SqL.of (g2 _ _ (g1 _ _ ha)), Same.tup g2 (g1 _ _ hb), by
    have := ra.length
    have := rb.length
    rw [zpD_len] at hi
    omega⟩
  go := fun i G1 H g1 g2 hi => by
    have n1 := ra.length
    have n2 := rb.length
    rw [zpD_len] at hi
    have l1 : i < us.length := by omega
    have l2 : i < vs.length := by omega
    exact ⟨us, vs, us[i], vs[i], SqL.of (g2 _ _ (g1 _ _ ha)), Same.tup g2 (g1 _ _ hb), List.getElem?_eq_getElem l1, List.getElem?_eq_getElem l2⟩
  yld := fun i G1 H d r H' g1 g2 e y => by
    obtain ⟨T, u, v, rfl, nT, rfl, q1, q2⟩ := y
    obtain ⟨x, z, e1, e2, rfl⟩ := zpD_get ds es i d e
    obtain ⟨u', f1, f2⟩ := ra.get e1
    obtain ⟨v', f3, f4⟩ := rb.get e2
    have f5 := q1 us (SqL.of (g2 _ _ (g1 _ _ ha)))
    have f6 := q2 vs (Same.tup g2 (g1 _ _ hb))
    rw [f1] at f5
    rw [f3] at f6
    cases f5
    cases f6
    have F : Fw G1 H (upd G1 T (.tup [u, v])) (upd H T (.tup [u, v])) none := Fw.add g2 nT
    exact ⟨_, F, T, _, rfl, upd_same, _, _, rfl, Rp.mono F.g _ _ (Rp.mono g1 _ _ f2), RpL.one (Rp.mono F.g _ _ (Rp.mono g1 _ _ f4))⟩
section
variable {X : Cx} {C : Cn} {e a b c : Expr} {es elts : List Expr} {pos p tpos : Pos} {f g h : EF}
def iZm (f : AF) : LF := fun s => match f s with
  | some ([.lst ds, .tup es], s1) => some (zpD ds es, s1)
  | _ => none
theorem fi_zipM {kk : Nat} {ff : AF} (hm : X.mg "zip" = none) (h : FA X C [a, b] ff) (hg : Gl X "zip" := by rfl) (hs : starEach [a, b] X.env = (false, eval a X.env) :: starEach [b] X.env := by rfl) (hpl : (backTo pos (starEach [b] X.env)).any (fun z => z.1) = false := by rfl) :
    FI X C (.Tuple elts kk tpos) (.Call (.Name "zip" p) [a, b] [] pos) (iZm ff) := by
  obtain ⟨ta, p1, q1⟩ := h
  refine ⟨_, pi_zipM hg hm p1 hs hpl, ?_⟩
  intro G H σ s ds s' A e1 R k
  unfold iZm at e1
  split at e1
  · rename_i xs ys s1 e2
    cases e1
    refine q1 G H σ s _ _ A e2 _ fun vs H1 G1 g1 A1 r => ?_
    obtain ⟨v, w, e3, r1, r2⟩ := r.double
    obtain ⟨l, us, rfl, h1, h2⟩ := r1
    obtain ⟨m, ws, rfl, h3, h4⟩ := r2
    exact ⟨l, m, us, ws, e3, SqL.of (A1.gh _ _ h1), Same.tup A1.gh h3, k _ H1 G1 g1 A1 (wk_zip h1 h2 h3 h4)⟩
  · cases e1
end
/-! ## a list comprehension over pairs -/
def cpP : List DV → Nat → Nat → EF → S → List DV → Option (List DV × S)
  | [], _, _, _, s, acc => some (acc, s)
  | .tup [x, y] :: ds, i, j, f, s, acc => match f { s with sl := (s.sl.set i (some (.dat x))).set j (some (.dat y)) } with
    | some (z, s3) => if acc.length < sizeLine then cpP ds i j f { s3 with sl := (s3.sl.set j none).set i none } (acc ++ [z]) else none
    | none => none
  | _ :: _, _, _, _, _, _ => none
theorem cpP_pair {d : DV} {ds : List DV} {i j : Nat} {f : EF} {s : S} {acc : List DV} {r : List DV × S} (h : cpP (d :: ds) i j f s acc = some r) : ∃ x y, d = .tup [x, y] := by
  cases d with
  | tup l => match l, h with
    | [x, y], _ => exact ⟨x, y, rfl⟩
    | [], h => exact absurd h (by simp [cpP])
    | [x], h => exact absurd h (by simp [cpP])
    | x :: y :: z :: l, h => exact absurd h (by simp [cpP])
  | _ => exact absurd h (by simp [cpP])
theorem cpP_cons {x y : DV} {ds : List DV} {i j : Nat} {f : EF} {s : S} {acc : List DV} : cpP (.tup [x, y] :: ds) i j f s acc = match f { s with sl := (s.sl.set i (some (.dat x))).set j (some (.dat y)) } with
    | some (z, s3) => if acc.length < sizeLine then cpP ds i j f { s3 with sl := (s3.sl.set j none).set i none } (acc ++ [z]) else none
    | none => none := rfl
def lCpP (it : LF) (i j : Nat) (f : EF) : LF := fun s => match it s with
  | some (ds, s1) => cpP ds i j f { s1 with sl := (s1.sl.set j none).set i none } []
  | none => none
theorem wipe2 {T : Type} {i j : Nat} (hij : i ≠ j) (l : List (Option T)) (x y : Option T) : (((((l.set j none).set i none).set i x).set j y).set j none).set i none = (l.set j none).set i none := by
  refine List.ext_getElem? fun k => ?_
  simp only [List.getElem?_set, List.length_set]
  by_cases h1 : i = k
  · subst h1
    simp
  · by_cases h2 : j = k
    · subst h2
      simp [h1]
    · simp [h1, h2]
theorem not_i {i j : Nat} {l : List (Option SV)} : (∀ x, ((l.set j none).set i none)[i]? ≠ some (some x)) ∧ ∀ x, ((l.set j none).set i none)[j]? ≠ some (some x) := by
  refine ⟨fun x e => ?_, fun x e => ?_⟩
  · rw [List.getElem?_set, if_pos rfl] at e
    split at e <;> cases e
  · rw [List.getElem?_set] at e
    split at e
    · split at e <;> cases e
    · rw [List.getElem?_set, if_pos rfl] at e
      split at e <;> cases e
theorem evLcP {K : PySem.W.Frag} {i j : Nat} (hij : i ≠ j) {wi : TI} {te : TE} {it : LF} {f : EF} (q1 : EvI K C wi it) (q3 : ∀ C', EvE K C' te f) : EvL K C (tLc wi (gTup K 2 (gCons (gName i) (gCons (gName j) gNil))) tYes te [i, j]) (lCpP it i j f) := by
  intro G H σ s ds s' A e1 Q k
  unfold lCpP at e1
  split at e1
  · rename_i items s1 e2
    refine q1 G H σ s items s1 A e2 _ fun J H1 G1 g1 A1 wk => ?_
    intro D hD
    obtain ⟨B1, n1⟩ := A1.lay (ds := []) rfl hD
    refine ⟨fun m mm H' => mm = items.length - m ∧ m ≤ items.length ∧ ∃ G2 s2 acc vs, Same G1 G2 ∧ Ab K C G2 H' ((σ.set j none).set i none) s2 ∧ NewL K C G2 H' ((σ.set j none).set i none) s2 D vs acc ∧ ((∀ x, s2.sl[i]? ≠ some (some x)) ∧ ∀ x, s2.sl[j]? ≠ some (some x)) ∧ cpP (items.drop m) i j f s2 acc = some (ds, s'), ⟨_, rfl, Nat.zero_le _, G1, _, [], [], Same.refl _, (B1.set_none j).set_none i, (n1.set (i := j) (x := none) (fun es z => nomatch z)).set (i := i) (x := none) (fun es z => nomatch z), not_i, e1⟩, ?_⟩
    rintro m mm H' ⟨rfl, hj, G2, s2, acc, vs, g2, A2, n2, hn, e3⟩
    by_cases hl : m < items.length
    · refine .inr ⟨wk.go m G2 H' g2 A2.gh hl, fun H'' => ∃ G3 s3 acc vs, Same G1 G3 ∧ Ab K C G3 H'' ((σ.set j none).set i none) s3 ∧ NewL K C G3 H'' ((σ.set j none).set i none) s3 D vs acc ∧ ((∀ x, s3.sl[i]? ≠ some (some x)) ∧ ∀ x, s3.sl[j]? ≠ some (some x)) ∧ cpP (items.drop (m + 1)) i j f s3 acc = some (ds, s'), ?_, ?_⟩
      · rintro H'' ⟨G3, s3, acc', vs', g3, A3, n3, hn3, e4⟩
        exact ⟨items.length - (m + 1), by omega, rfl, hl, G3, s3, acc', vs', g3, A3, n3, hn3, e4⟩
      · intro z H'' y
        have ed : items.drop m = items[m] :: items.drop (m + 1) := List.drop_eq_getElem_cons hl
        obtain ⟨G3, F, r⟩ := wk.yld m G2 H' items[m] z H'' g2 A2.gh (List.getElem?_eq_getElem hl) y
        have A3 := A2.fw0 F
        have n3 := n2.fw F
        rw [ed] at e3
        generalize items[m] = d at *
        obtain ⟨x1, x2, rfl⟩ := cpP_pair e3
        rw [cpP_cons] at e3
        · obtain ⟨T, ws, rfl, hT, hw⟩ := r
          obtain ⟨v1, r1, rfl, p1, hw⟩ := hw
          obtain ⟨v2, r2, rfl, p2, hw⟩ := hw
          have hw' : r2 = [] := hw
          subst hw'
          have A4 := (A3.set_dat (i := i) p1).set_dat (i := j) p2
          have n4 : NewL K C G3 H'' ((((σ.set j none).set i none).set i (some v1)).set j (some v2)) { s2 with sl := (s2.sl.set i (some (.dat x1))).set j (some (.dat x2)) } D vs acc := (n3.set (i := i) (x := some (.dat x1)) (fun es z => nomatch z)).set (fun es z => nomatch z)
          have A5 := A4.rebase n4
          have g0D : C.G0 D = none := by
            cases q : C.G0 D with
            | none => rfl
            | some o =>
              have q' := A3.g0 _ _ q
              rw [n3.g] at q'
              cases q'
          refine ⟨T, [v1, v2], rfl, Same.tup A3.gh hT, rfl, v1, [v2], rfl, v2, [], rfl, rfl, ?_⟩
          refine ⟨?_, ?_⟩
          · exact wipe2 hij σ (some v1) (some v2)
          · show tYes ((((σ.set j none).set i none).set i (some v1)).set j (some v2)) H'' _
            show te _ H'' _
            split at e3
            · rename_i y7 s7 e7
              split at e3
              · rename_i hsz
                refine q3 _ G3 H'' _ _ _ _ A5 e7 _ fun v7 H7 G7 g7 A7 r7 => ?_
                obtain ⟨A8, n8⟩ := A7.unbase (acc := acc) n3.h0 g0D n3.sp (RpL.mono g7 _ _ n3.rp)
                refine ⟨vs, n8.at_, by rw [n8.rp.length]; exact hsz, ?_⟩
                obtain ⟨A9, n9⟩ := A8.put_new n8 (n8.rp.append (RpL.one r7))
                have A10 := (A9.set_none j).set_none i
                have n10 : NewL K C G7 _ ((((((σ.set j none).set i none).set i (some v1)).set j (some v2)).set j none).set i none) { s7 with sl := (s7.sl.set j none).set i none } D _ _ := (n9.set (i := j) (x := none) (fun es z => nomatch z)).set (fun es z => nomatch z)
                rw [wipe2 hij] at A10 n10
                exact ⟨G7, _, _, _, (g2.trans F.g).trans g7, A10, n10, not_i, e3⟩
              · cases e3
            · cases e3
    · have hz : items.drop m = [] := List.drop_eq_nil_of_le (by omega)
      rw [hz] at e3
      unfold cpP at e3
      cases e3
      have out : ∀ (q : Nat) x, s'.sl[q]? = some (some x) → σ[q]? = ((σ.set j none).set i none)[q]? := fun q x e => by
        rw [List.getElem?_set, if_neg (fun z => hn.1 x (by rw [z]; exact e)), List.getElem?_set, if_neg (fun z => hn.2 x (by rw [z]; exact e))]
      refine .inl ⟨wk.stop m G2 H' g2 A2.gh (by omega), k D vs H' G2 (g1.trans g2) ?_ ?_⟩
      · refine A2.forget (s := s') (sl' := s'.sl) ?_ fun q x e => ⟨e, out q x e⟩
        have := A2.len
        rw [List.length_set, List.length_set] at this
        exact this
      · exact ⟨n2.at_, n2.rp, n2.g, n2.h0, n2.sp, fun q es e1' e2' => n2.no q es e1' ((out q _ e1').symm.trans e2')⟩
  · cases e1
section
variable {X : Cx} {C : Cn} {elt iter : Expr} {pos : Pos}
theorem fl_lcP (i j : Nat) (hij : i ≠ j) {x y : Str} {px py pt : Pos} {kk : Nat} {scope : Scope} {it : LF} {f : EF} (hc : X.calm = true) (hN : X.N.Nodup) (ok : BlkOk X.N X.env.scope scope [(x, i), (y, j)]) (hi : FI X C (.Tuple [.Name x px, .Name y py] kk pt) iter it)
    (hg : ∀ (s : Shared) (H : Hp) (C : Addr) (cl : List (Str × Addr)) (fp : List Addr), PG (X.blk s H scope (compEnvC scope cl C X.env) fp) (.Tuple [.Name x px, .Name y py] kk pt) (gTup X.K 2 (gCons (gName i) (gCons (gName j) gNil))))
    (he : ∀ (s : Shared) (H : Hp) (Ca : Addr) (cl : List (Str × Addr)) (fp : List Addr) (C' : Cn), FE (X.blk s H scope (compEnvC scope cl Ca X.env) fp) C' elt f) (hs : ∀ x, foldedSetIterable iter X.env x = pure x := by intro _; rfl) :
    FL X C (.ListComp elt [⟨.Tuple [.Name x px, .Name y py] kk pt, iter, [], 0⟩] scope pos) (lCpP it i j f) := by
  obtain ⟨wi, p1, q1⟩ := hi
  exact ⟨_, pe_lc hc hN p1 ok hg (fun _ _ _ _ _ => pts_nil) (fun s H Ca cl fp => pe_U (he s H Ca cl fp)) hs, evLcP hij q1 (fun _ => evU)⟩
end
end FD

set_option maxRecDepth 100000
set_option maxHeartbeats 4000000
namespace FD
open PySem PySem.Spec PyProof.Rows L2
/-! ## the sum of a list of integers -/
def dSumL : List DV → Option DV
  | [.lst ds] => (intsD ds).map fun ns => .int ns.sum
  | _ => none
theorem o_sumL {K : PySem.W.Frag} : OpA K (rSum K) dSumL := by
  intro C G H σ s vs ds d A r ho Q q
  unfold dSumL at ho
  split at ho
  · rename_i ds
    obtain ⟨ns, e, rfl⟩ := Option.map_eq_some_iff.mp ho
    obtain ⟨v, rfl, rv⟩ := r.single
    obtain ⟨a, us, rfl, h1, h2⟩ := rv
    rw [intsD_map e] at h2
    have := h2.ints'
    subst this
    exact ⟨a, ns, rfl, SqL.of (A.gh _ _ h1), q _ H G (Fw.refl A.gh) rfl⟩
  · cases ho
section
variable {X : Cx} {C : Cn} {e : Expr} {ff : AF} {p pos : Pos}
theorem ft_nin {a b : Expr} {f g : EF} (hu : X.A.units + 64 < cLine) (h1 : FE X C a f) (h2 : FE X C b g) (hm : behindInMarks .NotIn b = false := by rfl) : FT X C (.Compare a [.NotIn] [b] pos) (tBl (FD.e2 f g dNin)) := ft_cmp (op_ninT hu) o_nin h1 h2 (hm := hm)
theorem fe_sumL (hc : X.calm = true) (hm : X.mg "sum" = none) (ha : FA X C [e] ff) (hg : Gl X "sum" := by rfl) (he : starEach [e] X.env = (false, eval e X.env) :: starEach [] X.env := by rfl) : FE X C (.Call (.Name "sum" p) [e] [] pos) (eA ff dSumL) := fe_callB (cr_sum hc) o_sumL hm (by decide +kernel) ha hg (he := he)
end
end FD

set_option maxRecDepth 100000
set_option maxHeartbeats 4000000
namespace FD
open PySem PySem.Spec PyProof.Rows L2
/-! ## x != e, x a name whose list stays the frame's own -/
def eNeN (i : Nat) (g : EF) : EF := fun s => match FD.peek s i with
  | some _ => match g s with
    | some (k, s1) => match FD.peek s1 i with
      | some d => match dNe d k with
        | some z => some (z, s1)
        | none => none
      | none => none
    | none => none
  | none => none
section
variable {X : Cx} {C : Cn} {b : Expr} {pos : Pos} {g : EF}
theorem evNeN {K : PySem.W.Frag} {i : Nat} {tb : TE} (q2 : EvE K C tb g) : EvE K C (tOp (rNeD K) (tVar i) tb) (eNeN i g) := by
  intro G H σ s z s' A h Q q
  unfold eNeN at h
  split at h
  · rename_i d0 e0
    obtain ⟨v, _, ev, _⟩ := A.peek e0
    split at h
    · rename_i k s1 e1
      split at h
      · rename_i d e2
        split at h
        · rename_i z' e3
          cases h
          refine ⟨v, ev, q2 G H σ s k _ A e1 _ fun u H1 G1 g1 A1 r => ?_⟩
          obtain ⟨w, G2, ew, g2, g3, r2, r3, r4⟩ := A1.peek e2
          rw [ev] at ew
          cases ew
          unfold dNe at e3
          cases h1 : toPy d with
          | none => rw [h1] at e3; cases e3
          | some a =>
            rw [h1] at e3
            cases h2 : toPy k with
            | none => rw [h2] at e3; cases e3
            | some b =>
              rw [h2] at e3
              dsimp only at e3
              split at e3
              · rename_i hs
                cases e3
                rw [Bool.and_eq_true] at hs
                exact ⟨a, b, Rp.dp g3 d v a r2 h1, Rp.dp A1.gh k u b r h2, hs.1, hs.2, q _ H1 G1 g1 A1 rfl⟩
              · cases e3
        · cases h
      · cases h
    · cases h
  · cases h
theorem ft_neN (i : Nat) {x : Str} {pos' : Pos} (hu : X.A.units + 64 < cLine) (h2 : FE X C b g) (hN : X.N[i]? = some x := by rfl) (hv : Vis X.env.scope x := by first | exact Or.inl rfl | exact Or.inr (Or.inl rfl) | exact Or.inr (Or.inr rfl)) (hd : (x == ("__debug__" : Str)) = false := by decide)
    (hcd : (x == ("__classdict__" : Str)) = false := by decide) (hm : behindInMarks .NotEq b = false := by first | exact nomark _ | rfl) : FT X C (.Compare (.Name x pos') [.NotEq] [b] pos) (tBl (eNeN i g)) := by
  obtain ⟨tb, p2, q2⟩ := h2
  exact ⟨_, pt_cmpR (op_neD hu) (pe_var hN hv hd hcd) p2 hm, evBl (te := tOp (rNeD X.K) (tVar i) tb) (evNeN q2) fun _ _ _ h => h⟩
end
end FD

set_option maxRecDepth 100000
set_option maxHeartbeats 4000000
namespace FD
open PySem PySem.Spec PyProof.Rows L2
/-! ## zip of two lists -/
theorem wk_zipL {K : PySem.W.Frag} {G : Hp} {a b : Addr} {us vs : List V} {ds es : List DV} (ha : G a = some (.lst us)) (ra : RpL K G us ds) (hb : G b = some (.lst vs)) (rb : RpL K G vs es) : Wk K G (Itz K a b) (zpD ds es) where
  stop := fun i G1 H g1 g2 hi => ⟨us, vs, SqL.of (g2 _ _ (g1 _ _ ha)), SqL.of (g2 _ _ (g1 _ _ hb)), by
    have := ra.length
    have := rb.length
    rw [zpD_len] at hi
    omega⟩
  go := fun i G1 H g1 g2 hi => by
    have n1 := ra.length
    have n2 := rb.length
    rw [zpD_len] at hi
    have l1 : i < us.length := by omega
    have l2 : i < vs.length := by omega
    exact ⟨us, vs, us[i], vs[i], SqL.of (g2 _ _ (g1 _ _ ha)), SqL.of (g2 _ _ (g1 _ _ hb)), List.getElem?_eq_getElem l1, List.getElem?_eq_getElem l2⟩
  yld := fun i G1 H d r H' g1 g2 e y => by
    obtain ⟨T, u, v, rfl, nT, rfl, q1, q2⟩ := y
    obtain ⟨x, z, e1, e2, rfl⟩ := zpD_get ds es i d e
    obtain ⟨u', f1, f2⟩ := ra.get e1
    obtain ⟨v', f3, f4⟩ := rb.get e2
    have f5 := q1 us (SqL.of (g2 _ _ (g1 _ _ ha)))
    have f6 := q2 vs (SqL.of (g2 _ _ (g1 _ _ hb)))
    rw [f1] at f5
    rw [f3] at f6
    cases f5
    cases f6
    have F : Fw G1 H (upd G1 T (.tup [u, v])) (upd H T (.tup [u, v])) none := Fw.add g2 nT
    exact ⟨_, F, T, _, rfl, upd_same, _, _, rfl, Rp.mono F.g _ _ (Rp.mono g1 _ _ f2), RpL.one (Rp.mono F.g _ _ (Rp.mono g1 _ _ f4))⟩
section
variable {X : Cx} {C : Cn} {e a b c : Expr} {es elts : List Expr} {pos p tpos : Pos} {f g h : EF}
def iZl (f : AF) : LF := fun s => match f s with
  | some ([.lst ds, .lst es], s1) => some (zpD ds es, s1)
  | _ => none
theorem fi_zipL {kk : Nat} {ff : AF} (hm : X.mg "zip" = none) (h : FA X C [a, b] ff) (hg : Gl X "zip" := by rfl) (hs : starEach [a, b] X.env = (false, eval a X.env) :: starEach [b] X.env := by rfl) (hpl : (backTo pos (starEach [b] X.env)).any (fun z => z.1) = false := by rfl) :
    FI X C (.Tuple elts kk tpos) (.Call (.Name "zip" p) [a, b] [] pos) (iZl ff) := by
  obtain ⟨ta, p1, q1⟩ := h
  refine ⟨_, RZ.pi_zipA hg hm p1 hs hpl, ?_⟩
  intro G H σ s ds s' A e1 R k
  unfold iZl at e1
  split at e1
  · rename_i xs ys s1 e2
    cases e1
    refine q1 G H σ s _ _ A e2 _ fun vs H1 G1 g1 A1 r => ?_
    obtain ⟨v, w, e3, r1, r2⟩ := r.double
    obtain ⟨l, us, rfl, h1, h2⟩ := r1
    obtain ⟨m, ws, rfl, h3, h4⟩ := r2
    exact ⟨l, m, us, ws, e3, .inl ⟨SqL.of (A1.gh _ _ h1), SqL.of (A1.gh _ _ h3), k _ H1 G1 g1 A1 (wk_zipL h1 h2 h3 h4)⟩⟩
  · cases e1
end
end FD

set_option maxRecDepth 100000
set_option maxHeartbeats 4000000
namespace FD
open PySem PySem.Spec PyProof.Rows L2
/-! ## an own exception's __init__ that begins with super().__init__(e), over a chain of own classes above ValueError -/
/-- such a scope: its one free name is that of the class -/
structure SuScope (N P : List Str) (sc : Scope) : Prop where
  kind : sc.kind = .function
  co : sc.isCoroutine = false
  gen : sc.isGenerator = false
  nd : N.Nodup
  pre : N.take P.length = P
  par : ∀ x ∈ P, sc.names.lookup x = some .local
  nocell : ∀ y ∈ sc.names, y.2 ≠ .cell
  free : ∀ y, sc.names.lookup y = some .free → y = "__class__"
def cxS (CX : CXT) (P : Program) (w : World) (K : PySem.W.Frag) (mg : Str → Option Value) (base : Heap) (N : List Str) (qual : Str) (scope : Scope) (f : Addr) (cd : Value) (cc : Addr) (A : Around) (outer : List Env) (s : Shared) (H : Hp) (E : XK) : Cx where
  prog := P
  w := w
  K := K
  mg := mg
  base := base
  A := A.deeper (PySem.W.ksEnv qual scope s.heap.objs.size f cd cc)
  N := N
  s_0 := s
  H_0 := H
  env := PySem.W.ksEnv qual scope s.heap.objs.size f cd cc
  outer := outer
  stack := PySem.W.ksEnv qual scope s.heap.objs.size f cd cc :: outer
  ex := []
  calm := true
  fn := fun x => decide (x ≠ "__class__")
  pn := []
  xe := fun e s' => wpAny (model P w) (A.deeper (PySem.W.ksEnv qual scope s.heap.objs.size f cd cc)) (leaving (PySem.W.ksEnv qual scope s.heap.objs.size f cd cc) e) (fun _ s'' => CX outer H s E e s'') (fun e' s'' => CX outer H s E e' s'') s'
theorem lookup_one {c : Addr} {x : Str} {v : Addr} (h : ([("__class__", c)] : List (Str × Addr)).lookup x = some v) : x = "__class__" ∧ v = c := by
  by_cases e : x = "__class__"
  · subst e
    have : ([("__class__", c)] : List (Str × Addr)).lookup ("__class__" : Str) = some c := by simp [List.lookup]
    rw [this] at h
    exact ⟨rfl, (Option.some.inj h).symm⟩
  · have e2 : (x == ("__class__" : Str)) = false := by simpa using e
    simp [List.lookup, e2] at h
theorem look_app (x : Str) (l2 : List (Str × Value)) : ∀ l1 : List (Str × Value), (l1 ++ l2).lookup x = (match l1.lookup x with
    | some v => some v
    | none => l2.lookup x)
  | [] => rfl
  | (n, v) :: l1 => by
    rw [List.cons_append, List.lookup_cons, List.lookup_cons]
    cases h : (x == n) with
    | true => rfl
    | false => exact look_app x l2 l1
theorem look_no (x : Str) : ∀ l : List (Str × Value), (∀ v, (x, v) ∉ l) → l.lookup x = none
  | [], _ => rfl
  | (n, v) :: l, h => by
    rw [List.lookup_cons]
    have : (x == n) = false := beq_eq_false_iff_ne.mpr fun e => h v (by rw [e]; exact List.mem_cons_self)
    rw [this]
    exact look_no x l fun w hw => h w (List.mem_cons_of_mem _ hw)
theorem rev_get {x : Str} {v : Value} : ∀ {P : List Str} {vs : List Value} {i : Nat}, P.Nodup → P[i]? = some x → vs[i]? = some v → (P.zip vs).reverse.lookup x = some v
  | [], _, _, _, h, _ => by simp at h
  | _ :: _, [], _, _, _, h => by simp at h
  | p :: P, w :: vs, 0, nd, h1, h2 => by
    simp at h1 h2
    subst h1 h2
    show ((p, w) :: P.zip vs).reverse.lookup p = _
    rw [List.reverse_cons, look_app, look_no p _ (fun v hv => (List.nodup_cons.mp nd).1 (List.of_mem_zip (List.mem_reverse.mp hv)).1)]
    simp [List.lookup]
  | p :: P, w :: vs, i + 1, nd, h1, h2 => by
    show ((p, w) :: P.zip vs).reverse.lookup x = _
    rw [List.reverse_cons, look_app, rev_get (i := i) (List.nodup_cons.mp nd).2 (by simpa using h1) (by simpa using h2)]
section
variable {CX : CXT} {P : Program} {w : World} {K : PySem.W.Frag} {mg : Str → Option Value} {base : Heap} {N ps : List Str} {qual : Str} {scope : Scope} {f cc D : Addr} {cd : Value} {A : Around} {outer : List Env} {s : Shared} {H : Hp} {E : XK} {us : List Value} {vs : List V}
theorem inv_startS {ccl : Value} {ccd : Option Addr} {ccs : Array (Option Value)} (S : SuScope N ps scope) (hcc : K.lookup cc = some ⟨ccl, ccd, .cell (some (.ref D)), ccs⟩) (hd : A.handled = none) (e0 : Env0 P w K mg base A outer s H) (hl : vs.length = ps.length) (r : Vals vs us)
    {h1 : Heap} {tk : Nat} (hns : h1.Ns s.heap.objs.size (fun x => (ps.zip us).reverse.lookup x)) (hk : ∀ b o, s.heap.get? b = some o → h1.get? b = some o) :
    Inv (cxS CX P w K mg base N qual scope f cd cc A outer s H E) [] (L2.start N vs) H { s with heap := h1, toks := tk } := by
  have hpl : ps.length ≤ N.length := by have := congrArg List.length S.pre; rw [List.length_take] at this; omega
  have noA : ∀ b : Addr, b ∉ (cxS CX P w K mg base N qual scope f cd cc A outer s H E).ex := fun b z => absurd (show b ∈ ([] : List Addr) from z) (by simp)
  have hb : base.get? cc = some ⟨ccl, ccd, .cell (some (.ref D)), ccs⟩ := e0.mod.kin _ _ hcc
  have hs := e0.bs _ _ hb
  have lk : ∀ y, scope.names.lookup y = some .cell ∨ scope.names.lookup y = some .free → y = "__class__" := fun y hy => by
    rcases hy with hy | hy
    · exact absurd rfl (S.nocell _ (PySem.mem_of_lookup hy))
    · exact S.free y hy
  refine ⟨⟨e0.mod, S.kind, rfl, rfl, Nat.le_refl _, fun y z c g1 g2 => ?_, fun y hy => ?_, fun y c g1 g2 => ?_, fun _ => hd, Around.frames_deeper e0.frames, .inr ⟨rfl, rfl⟩, fun b z => absurd z (noA b), e0.bs, e0.bsz, fun b _ _ => noA b, fun b z => absurd z (noA b), e0.funs, e0.frf⟩,
    rfl, e0.bare, Un.kept hk, ⟨_, hns, fun i y v g1 g2 g3 => ?_⟩, fun y c g => ?_, e0.hok.fresh (Nat.le_refl _), fun y c g => ?_, fun p hp => absurd (show p ∈ ([] : List (Addr × Obj)) from hp) (by simp), e0.hok.kept hk, ?_⟩
  · have a := lookup_one (show ([("__class__", cc)] : List (Str × Addr)).lookup y = some c from g1)
    have b := lookup_one (show ([("__class__", cc)] : List (Str × Addr)).lookup z = some c from g2)
    rw [a.1, b.1]
  · have := lk y hy
    subst this
    exact ⟨cc, show ([("__class__", cc)] : List (Str × Addr)).lookup ("__class__" : Str) = some cc by simp [List.lookup]⟩
  · have a := lookup_one (show ([("__class__", cc)] : List (Str × Addr)).lookup y = some c from g2)
    exact absurd a.1 (of_decide_eq_true (show decide (y ≠ "__class__") = true from g1))
  · have hi : i < vs.length := by
      unfold L2.start at g2
      by_cases hi : i < vs.length
      · exact hi
      · rw [List.getElem?_append_right (by simpa using hi)] at g2
        rw [List.getElem?_replicate] at g2
        split at g2 <;> cases g2
    have ha : vs[i]? = some v := by
      unfold L2.start at g2
      rw [List.getElem?_append_left (by simpa using hi), List.getElem?_map] at g2
      cases e : vs[i]? with
      | none => rw [e] at g2; cases g2
      | some a => rw [e] at g2; cases g2; rfl
    obtain ⟨u, hu, rv⟩ := r.get ha
    have hp : ps[i]? = some y := by
      rw [← S.pre, List.getElem?_take_of_lt (by omega)]; exact g1
    have ndP : ps.Nodup := by rw [← S.pre]; exact S.nd.sublist (List.take_sublist _ _)
    exact ⟨u, rv, .inl ⟨S.par y (List.mem_of_getElem? hp), rev_get ndP hp hu⟩⟩
  · obtain ⟨rfl, rfl⟩ := lookup_one (show ([("__class__", cc)] : List (Str × Addr)).lookup y = some c from g)
    exact ⟨_, _, hk _ _ hs.1, rfl⟩
  · obtain ⟨rfl, rfl⟩ := lookup_one (show ([("__class__", cc)] : List (Str × Addr)).lookup y = some c from g)
    exact hs.2
  · unfold L2.start
    show _ = N.length
    rw [List.length_append, List.length_map, List.length_replicate]
    omega
end
end FD

set_option maxRecDepth 100000
set_option maxHeartbeats 4000000
namespace FD
open PySem PySem.Spec PyProof.Rows L2
/-- what the written part says of a def that says super().__init__ -/
structure SuC (P : Program) (K : PySem.W.Frag) (C f cc : Addr) (cd : Value) (params : Arguments) (slf : Str) : Prop where
  ot : OexC K C
  fn : ∃ oc od fd osl, K.lookup f = some ⟨oc, od, .func fd, osl⟩ ∧ fd.params = params
  ar : ∃ ar : Arg, (params.posonlyargs ++ params.args).head? = some ar ∧ ar.arg = slf
  code : ∃ cda ccl cdd vs ccs file tf, cd = .ref cda ∧ K.lookup cda = some ⟨ccl, cdd, .fields vs, ccs⟩ ∧ vs[2]? = some (.str file tf) ∧ ((P.main.file : Str) == file) = true
  cell : ∃ cl cld csl, K.lookup cc = some ⟨cl, cld, .cell (some (.ref C)), csl⟩
  sub : PySem.W.mroIn K C (.ref C) = some true
  opq : PySem.W.nsIn K cStatics "thirdparty.any" = some none
  sup : PySem.W.ks_superIn K C C "__init__" = some (some (.builtin "ValueError.__init__"))
  subB : PySem.W.subIn K (.ref C) (.type "ValueError") = some true
  top : (P.main.scope.names.lookup ("super" : Str)).isSome = false
section
variable {CX : CXT} {P : Program} {w : World} {K : PySem.W.Frag} {mg : Str → Option Value} {base : Heap} {N : List Str} {qual : Str} {scope : Scope} {f cc C a : Addr} {cd : Value} {A : Around} {outer : List Env} {s0 s : Shared} {H0 H : Hp} {E0 : XK} {σ : St} {pins : List (Addr × Obj)}
  {params : Arguments} {slf : Str}
/-- a new object, pinned -/
theorem Inv.pinNew {X : Cx} {h' : Heap} {q : Addr} {o : Obj} {tk : Nat} (I : Inv X pins σ H s) (hq : s.heap.objs.size ≤ q) (k : ∀ b u, s.heap.get? b = some u → h'.get? b = some u) (ho : h'.get? q = some o) (hd : ∀ v, o.data ≠ .cell v) :
    Inv X ((q, o) :: pins) σ H { s with heap := h', toks := tk } := by
  have I' : Inv X pins σ H { s with heap := h', toks := tk } := I.kept k
  have nq : ∀ {b : Addr}, b < s.heap.objs.size → q ≠ b := fun {b} hb z => absurd hb (Nat.not_lt.mpr (z ▸ hq))
  refine I'.pins_of fun p hp => ?_
  rcases List.mem_cons.mp hp with rfl | hp
  · refine ⟨ho, I.hok.fresh hq, nq I.lt, fun hf => ?_, hd⟩
    obtain ⟨_, o2, e1, _⟩ := I.ok.funs.mem hf
    exact nq (Nat.lt_of_lt_of_le (Heap.lt_size e1) I.sz) rfl
  · exact I'.pin p (List.mem_append_right _ hp)
theorem super_at {pl : Sem Bool} {body : List Stmt} {e : Expr} {ta : TA} {p0 p1 p2 pos : Pos} {i : Nat} {Qn : Shared → Prop} {E : Value → Shared → Prop} (T : SuC P K C f cc cd params slf) (hks : scope.names.lookup ("super" : Str) = some .globalImplicit) (hkc : scope.names.lookup ("__class__" : Str) = some .free) (hka : scope.names.lookup slf = some .local) (hk : scope.kind = .function)
    (hmg : mg "super" = none) (I : Inv (cxS CX P w K mg base N qual scope f cd cc A outer s0 H0 E0) pins σ H s) (hN : N[i]? = some slf) (hσ : σ[i]? = some (some (.ref a))) (ea : H a = some (exo a C none))
    (ha : PA (cxS CX P w K mg base N qual scope f cd cc A outer s0 H0 E0) [e] ta) (hE : ∀ v s', (cxS CX P w K mg base N qual scope f cd cc A outer s0 H0 E0).xe v s' → E v s')
    {Qx : List V → Hp → Prop} (h : ta σ H Qx) (hQ : ∀ us H1, Qx us H1 → us.length ≤ 1000 ∧ H1 a = some (exo a C none) ∧ ∀ s', L2.Inv (cxS CX P w K mg base N qual scope f cd cc A outer s0 H0 E0) [] σ H1 s' → Qn s')
    (he : starEach [e] (PySem.W.ksEnv qual scope s0.heap.objs.size f cd cc) = (false, eval e (PySem.W.ksEnv qual scope s0.heap.objs.size f cd cc)) :: starEach [] (PySem.W.ksEnv qual scope s0.heap.objs.size f cd cc) := by rfl)
    (hc : eval (.Call (.Attribute (.Call (.Name "super" p0) [] [] p1) "__init__" p2) [e] [] pos) (PySem.W.ksEnv qual scope s0.heap.objs.size f cd cc) = (do
      let ov ← attributeBase (.Call (.Name "super" p0) [] [] p1) "__init__" (PySem.W.ksEnv qual scope s0.heap.objs.size f cd cc) (eval (.Call (.Name "super" p0) [] [] p1) (PySem.W.ksEnv qual scope s0.heap.objs.size f cd cc))
      standAt p2.atName
      let (fx, first) ← holding [ov] (getMethod ov "__init__" pl)
      callWith pos fx first (backTo pos (starEach [e] (PySem.W.ksEnv qual scope s0.heap.objs.size f cd cc))) []) := by rfl) :
    _root_.PySem.wpAt (model P w) (A.deeper (PySem.W.ksEnv qual scope s0.heap.objs.size f cd cc)) (.func body (PySem.W.ksEnv qual scope s0.heap.objs.size f cd cc))
      (eval (.Call (.Attribute (.Call (.Name "super" p0) [] [] p1) "__init__" p2) [e] [] pos) (PySem.W.ksEnv qual scope s0.heap.objs.size f cd cc)) (fun _ s' => Qn s') E s := by
  obtain ⟨oc, od, fd, osl, kf, kp⟩ := T.fn
  obtain ⟨ar, h1, h2⟩ := T.ar
  obtain ⟨cda, ccl, cdd, vs, ccs, file, tf, rfl, kc, kv, kfile⟩ := T.code
  obtain ⟨cl, cld, csl, kcell⟩ := T.cell
  obtain ⟨nm, q, Nn, bs, bm, sn, sub, ab, col, dd, k0, k1, k2, k3, k5, hC, hbm⟩ := T.ot.cls
  have X := I.kIn
  obtain ⟨t1, ho⟩ := exo_at I.hok ea
  have hcl : PySem.W.clsIn K C = some { name := nm, bases := bs, mro := .ref C :: bm, ns := Nn, qualname := q, hasDict := true, slotNames := sn, subclasses := sub, abstract := ab, collection := col, hasDel := false } := by unfold PySem.W.clsIn; rw [hC] <;> rfl
  have hCh : s.heap.get? C = some (excClassObj nm q C Nn bs bm true sn sub ab col dd k0 k1 k2 k3 k5 "ValueError.__new__") := X _ _ hC
  obtain ⟨m, hn, hl⟩ := id I.loc
  obtain ⟨u, ru, lu⟩ := hl i slf (.ref a) hN hσ (.inl hka)
  obtain rfl : u = Value.ref a := ru
  have hv : m slf = some (.ref a) := by
    rcases lu with ⟨_, q⟩ | ⟨q | q, _⟩
    · exact q
    · exact absurd (hka.symm.trans q) (by decide)
    · exact absurd (hka.symm.trans q) (by decide)
  obtain ⟨mb, hb, hbl⟩ := I.mod.blt
  have hbs : mb "super" = some (.type "super") := (hbl _ (by decide)).trans (by decide +kernel)
  obtain ⟨hh, g, d, t, os⟩ := s
  have gl : hh.Ns mainGlobals mg := I.mod.glob.keeps I.bk
  have bl : hh.Ns builtinsNs mb := hb.keeps I.bk
  refine ks_wpAt_MethodCall (pl := pl) ?_ hc
  refine ks_wpAt_super_base (env := PySem.W.ksEnv qual scope s0.heap.objs.size f (.ref cda) cc) hks hkc (by decide) rfl (X _ _ kf) rfl (by rw [kp]; exact h1) rfl (X _ _ kc) rfl kv kfile T.top ?_
  refine PySem.W.ks_loadName_global hk hks (PySem.Calls.loadGlobal_builtin (env := PySem.W.ksEnv qual scope s0.heap.objs.size f (.ref cda) cc) gl hmg bl hbs ⟨rfl, ?_⟩)
  refine wpAny_loadName_free hk hkc (c := cc) (by simp [List.lookup]) ⟨_, X _ _ kcell, rfl⟩ ?_
  rw [h2]
  refine wpAny_loadName_local hk hka hn hv ?_
  refine ks_wpAny_isType_cls hCh rfl ⟨rfl, ?_⟩
  refine ks_wpAny_call_super hCh rfl ho rfl (fun c e => by cases e) (PySem.W.looks_mroIn X T.sub) (fun h' e1 e2 => ?_)
  have I1 : Inv (cxS CX P w K mg base N qual scope f (.ref cda) cc A outer s0 H0 E0) ((hh.objs.size, PySem.W.ks_superObj C a C) :: pins) σ H ⟨h', g, d, t, os⟩ :=
    Inv.pinNew (tk := t) I (Nat.le_refl _) e2 e1 (fun v z => by cases z)
  have X1 := I1.kIn
  have hxC : a ≠ C := fun z => by
    rw [z] at ho
    rw [ho] at hCh
    cases hCh
  have hI : PySem.W.Looks (model P w) h' (isInstance (.ref a) (.type "ValueError")) true := by
    obtain ⟨t3, ho3⟩ := exo_at I1.hok ea
    have J : PySem.W.InstAt h' a _ C none := ⟨ho3, rfl, rfl, trivial⟩
    exact J.type.andThen (PySem.W.looks_subIn X1 T.subB)
  have hsu := T.sup
  unfold PySem.W.ks_superIn at hsu
  rw [hcl] at hsu
  refine PySem.W.kxs_getMethod PySem.W.kxs_ValueError e1 (PySem.W.looks_opaque X1 T.opq) (l₀ := .ref C :: bm) ?_ rfl X1 hsu hI hxC (by decide) ?_
  · exact fun A Q E s k q => wpAny_bind ((PySem.W.looks_clsIn X1 hcl) A _ E s k (wpAny_pure q))
  have I2 : Inv (cxS CX P w K mg base N qual scope f (.ref cda) cc A outer s0 H0 E0) ((h'.objs.size, PySem.W.kxs_mw "ValueError.__init__" a) :: (hh.objs.size, PySem.W.ks_superObj C a C) :: pins) σ H ⟨h'.push (PySem.W.kxs_mw "ValueError.__init__" a), g, d, t + 1, os⟩ :=
    Inv.pinNew (tk := t + 1) I1 (Nat.le_refl _) (fun b u z => Heap.get?_push_of_some _ z) (Heap.get?_push_at rfl rfl) (fun v z => by cases z)
  rw [he]
  show wpAny (model P w) _ (callWith pos (.ref h'.objs.size) [] ((false, eval e _) :: backTo pos (starEach [] _)) []) _ _ _
  refine PySem.W.kxs_callWith (i := "ValueError.__init__") (x := a) rfl ?_
  refine PySem.Calls.evalArgs_plain ?_
  have run := ha.run pos _ _ σ H _ I2 h
  rw [show starEach [e] (cxS CX P w K mg base N qual scope f (.ref cda) cc A outer s0 H0 E0).env = _ from he] at run
  refine wpAny_mono run ?_ hE
  rintro us s1 ⟨ws, H1, I3, r1, hx⟩
  obtain ⟨hlen, ea1, hq⟩ := hQ _ _ hx
  obtain ⟨hu, _⟩ := I3.pin (h'.objs.size, PySem.W.kxs_mw "ValueError.__init__" a) (List.mem_append_right _ List.mem_cons_self)
  refine ⟨hu, ?_⟩
  obtain ⟨t3, ho3⟩ := exo_at I3.hok ea1
  have hC3 := I3.kIn _ _ hC
  have hz : us.length ≤ sizeLine := by
    rw [← Paired.length r1, sizeLine_eq]
    omega
  obtain ⟨hp, g3, d3, tk3, os3⟩ := s1
  show wpAny _ _ (call (.ref h'.objs.size) us) _ _ _
  refine wpAny_call (codeAny_of_tree ?_)
  show wpAny _ _ (callAny (.ref h'.objs.size) ⟨us, []⟩) _ _ _
  simp only [callAny]
  refine wpAny_bind (wpAny_load hu ?_)
  simp only [PySem.W.kxs_mw, show (Value.type "method-wrapper" == Value.type "method" || Value.type "method-wrapper" == Value.type "builtin_function_or_method" || Value.type "method-wrapper" == Value.type "method-wrapper") = true by decide, if_true]
  refine PySem.W.KFB.if_so (by decide) ?_
  refine wpAny_bind (PySem.W.check_bound_init F.excBase_ValueError.toExcCallFacts hC3 ho3 rfl ?_)
  refine wpAny_bind (wpAny_pure (wpAny_pure ?_))
  refine ⟨plainId_quiet F.excBase_ValueError.init.plain _, codeAny_builtin F.excBase_ValueError.initEntry ?_⟩
  refine PySem.W.exc_init_tree (cls := .ref C) (t0 := t3) (dv := none) (c2 := .none) (c3 := .none) (b4 := .bool false) ho3 hz fun h3 k3 e3 _ => ?_
  have J := I3.write (t' := tk3) (x := a) (e := a) (o := exo a C none) (by rw [ea1]; exact True.intro) (.inl rfl) k3 ⟨_, e3⟩ (exo_ok e3)
  have eu : upd H1 a (exo a C none) = H1 := by
    funext b
    by_cases hb : b = a
    · rw [hb, upd_same, ea1]
    · rw [upd_ne hb]
  rw [eu] at J
  exact hq _ (J.pins_of (pins' := []) fun p hp => nomatch hp)
end
end FD

set_option maxRecDepth 100000
set_option maxHeartbeats 4000000
namespace FD
open PySem PySem.Spec PyProof.Rows L2
section
variable {CX : CXT} {P : Program} {w : World} {K : PySem.W.Frag} {mg : Str → Option Value} {base : Heap} {N ps : List Str} {name qual : Str} {scope : Scope} {f cc C : Addr} {cdv ct dV kV doc pm oc : Value} {an od : Option Addr} {osl : Array (Option Value)} {params : Arguments} {slf : Str} {k : Nat}
  {e : Expr} {rest : List Stmt} {p0 p1 p2 pos ps4 : Pos} {sp : Sp}
theorem fn_init {pl : Nat → Sem Bool} (lk : K.lookup f = some ⟨oc, od, .func (PySem.W.ksFn name qual params (.Expr (.Call (.Attribute (.Call (.Name "super" p0) [] [] p1) "__init__" p2) [e] [] pos) ps4 :: rest) scope dV kV doc pm an cdv ct cc), osl⟩) (hcd : PySem.W.codeIn K cdv qual = true)
    (S : SuScope N ps scope) (T : SuC P K C f cc cdv params slf) (hks : scope.names.lookup ("super" : Str) = some .globalImplicit) (hkc : scope.names.lookup ("__class__" : Str) = some .free) (hka : scope.names.lookup slf = some .local) (hmg : mg "super" = none) (h0 : N[0]? = some slf)
    (len : ∀ vs H Q E, sp vs H Q E → vs.length = ps.length)
    (hbody : ∀ (A : Around) (outer : List Env) (s : Shared) (H : Hp) (vs : List V) (Q : VK) (E : XK), Room k (A.deeper (PySem.W.ksEnv qual scope s.heap.objs.size f cdv cc)) → sp vs H Q E →
      ∃ ta t a, vs[0]? = some (.ref a) ∧ H a = some (exo a C none) ∧ PA (cxS CX P w K mg base N qual scope f cdv cc A outer s H E) [e] ta ∧ PSs (cxS CX P w K mg base N qual scope f cdv cc A outer s H E) rest t ∧
        ta (L2.start N vs) H (fun us H1 => us.length ≤ 1000 ∧ H1 a = some (exo a C none) ∧ t { nx := fun _ H' => Q .non H', rt := Q } (L2.start N vs) H1))
    (he : ∀ n, starEach [e] (PySem.W.ksEnv qual scope n f cdv cc) = (false, eval e (PySem.W.ksEnv qual scope n f cdv cc)) :: starEach [] (PySem.W.ksEnv qual scope n f cdv cc))
    (hc : ∀ n, eval (.Call (.Attribute (.Call (.Name "super" p0) [] [] p1) "__init__" p2) [e] [] pos) (PySem.W.ksEnv qual scope n f cdv cc) = (do
      let ov ← attributeBase (.Call (.Name "super" p0) [] [] p1) "__init__" (PySem.W.ksEnv qual scope n f cdv cc) (eval (.Call (.Name "super" p0) [] [] p1) (PySem.W.ksEnv qual scope n f cdv cc))
      standAt p2.atName
      let (fx, first) ← holding [ov] (getMethod ov "__init__" (pl n))
      callWith pos fx first (backTo pos (starEach [e] (PySem.W.ksEnv qual scope n f cdv cc))) []))
    (hsw : ∀ n, swapsWith (.Call (.Attribute (.Call (.Name "super" p0) [] [] p1) "__init__" p2) [e] [] pos) none ps4.line (PySem.W.ksEnv qual scope n f cdv cc) = pure false)
    (hin : ∀ n, interactive (PySem.W.ksEnv qual scope n f cdv cc) = false) :
    FnOk P w K mg base CX (k + 1) f (PySem.W.ksFn name qual params (.Expr (.Call (.Attribute (.Call (.Name "super" p0) [] [] p1) "__init__" p2) [e] [] pos) ps4 :: rest) scope dV kV doc pm an cdv ct cc) ps sp := by
  refine ⟨len, fun A outer s H args us vs Q E hr e0 hb r hsp => ?_⟩
  have hl := len _ _ _ _ hsp
  have KX : K.In s.heap := e0.mod.kin.keeps fun b o e => (e0.bs b o e).1
  have lim : s.heap.NoLimit := e0.mod.nolimit.keeps fun b o e => (e0.bs b o e).1
  obtain ⟨ta, t, a, v0, ea, pa, ht, hq⟩ := hbody A outer s H vs Q E (hr.deeper _) hsp
  obtain ⟨cl, cld, csl, kcell⟩ := T.cell
  refine ks_codeAny_call_defAt (fd := PySem.W.ksFn name qual params (.Expr (.Call (.Attribute (.Call (.Name "super" p0) [] [] p1) "__init__" p2) [e] [] pos) ps4 :: rest) scope dV kV doc pm an cdv ct cc) (binds := ps.zip us) hr.depth (KX _ _ lk) rfl lim (PySem.W.codeRec_of KX hcd) rfl hb S.nocell
    (fun ⟨n, v⟩ hy => S.par n (List.of_mem_zip hy).1) (fun h1 hns hk1 => ?_) S.co S.gen S.kind
  have I : L2.Inv (cxS CX P w K mg base N qual scope f cdv cc A outer s H E) [] (L2.start N vs) H { s with heap := h1, toks := s.toks + (ps.zip us).length } := inv_startS S kcell hr.hd e0 hl r hns hk1
  have hσ : (L2.start N vs)[0]? = some (some (.ref a)) := by
    unfold L2.start
    cases vs with
    | nil => cases v0
    | cons v vs =>
      have : v = .ref a := Option.some.inj v0
      subst this
      rfl
  have fin : ∀ {σ' : St} {H' : Hp} {v : V} {u : Value} {s' : Shared}, L2.Inv (cxS CX P w K mg base N qual scope f cdv cc A outer s H E) [] σ' H' s' → RelV v u → Q v H' → CE outer P w H s Q u s' :=
    fun {σ' H' v u s'} J rv q => ⟨v, H', J.os, J.bare, J.base, J.hok, rv, q⟩
  show _root_.PySem.wpAt (model P w) (A.deeper (PySem.W.ksEnv qual scope s.heap.objs.size f cdv cc)) (.func _ (PySem.W.ksEnv qual scope s.heap.objs.size f cdv cc)) (execs _ (PySem.W.ksEnv qual scope s.heap.objs.size f cdv cc)) _ _ _
  refine ks_wpAt_execs_cons (ks_wpAt_Expr_any ?_ (hin _) (hsw _))
  refine super_at (pl := pl s.heap.objs.size) T hks hkc hka S.kind hmg I h0 hσ ea pa (fun _ _ z => z) hq (fun us H1 hx => ⟨hx.1, hx.2.1, fun s' J => ?_⟩) (he _) (hc _)
  refine wpAt_of_wpAny (wpAny_mono (ht.run [] s' (L2.start N vs) H1 _ J hx.2.2) (fun fl s2 hs => ?_) fun _ _ z => z)
  cases fl with
  | ret u =>
    obtain ⟨v, σ', H', J, rv, q⟩ := hs
    exact fin J rv q
  | next =>
    obtain ⟨σ', H', J, q⟩ := hs
    exact fin (v := V.non) (u := Value.none) J rfl q
  | brk =>
    obtain ⟨_, _, _, q⟩ := hs
    exact False.elim q
  | cont =>
    obtain ⟨_, _, _, q⟩ := hs
    exact False.elim q
end
end FD

set_option maxRecDepth 100000
set_option maxHeartbeats 4000000
namespace FD
open PySem PySem.Spec PyProof.Rows L2
/-! ## such an __init__ as the written part says it -/
abbrev FnS : Type := Option (Str × Str × Arguments × FuncBody × Scope × Addr × List Str × Addr)
def fnS (K : PySem.W.Frag) (p : Str × Option Str) : FnS := match K.lookup (He.fAd K p) with
  | some ⟨_, _, .func fd, _⟩ => some (fd.name, fd.qualname, fd.params, fd.body, fd.scope, fd.globals, fd.closure.map (·.1), fd.builtins)
  | _ => none
def valS (d : He.DefD) : FnS := some (d.name, d.qual, d.params, .stmts d.body, d.scope, mainGlobals, ["__class__"], builtinsNs)
def oexB (K : PySem.W.Frag) (C : Addr) : Bool := match K.lookup C with
  | some ⟨.type t, _, .cls cd, sl⟩ => t == "type" && (match cd.mro, sl.toList with
    | .ref C' :: bm, [_, _, _, _, some (.builtin n), _] => C' == C && (n == "ValueError.__new__" && (!cd.hasDel && (cd.hasDict && PySem.HandSPX.refsVE bm)))
    | _, _ => false)
  | _ => false
theorem oexB_ok {K : PySem.W.Frag} {C : Addr} (h : oexB K C = true) : ∃ nm q N bs bm sn sub ab col dd k0 k1 k2 k3 k5, K.lookup C = some (excClassObj nm q C N bs bm true sn sub ab col dd k0 k1 k2 k3 k5 "ValueError.__new__") ∧ PySem.HandSPX.refsVE bm = true := by
  unfold oexB at h
  split at h
  · rename_i t dd cd sl ho
    obtain ⟨h1, h2⟩ := Bool.and_eq_true_iff.mp h
    split at h2
    · rename_i C' bm k0 k1 k2 k3 n k5 hm hs
      simp only [Bool.and_eq_true, beq_iff_eq, Bool.not_eq_true'] at h1 h2
      obtain ⟨rfl, rfl, hdel, hdct, hv⟩ := h2
      obtain ⟨nm, bs, mro, ns, qn, hd, sn, sub, ab, col, del⟩ := cd
      dsimp only at hm hdel hdct
      subst hm hdel hdct h1
      have hsl : sl = #[k0, k1, k2, k3, some (.builtin "ValueError.__new__"), k5] := by
        obtain ⟨l⟩ := sl
        simp only at hs
        rw [hs]
      subst hsl
      exact ⟨nm, qn, ns, bs, bm, sn, sub, ab, col, dd, k0, k1, k2, k3, k5, ho, hv⟩
    · cases h2
  · cases h
/-- of the class x and its __init__, the text standing in this file -/
def suB (x : Str) (file : Str) (fl : List Str) (K : PySem.W.Frag) : Bool :=
  oexB K (He.ga K x) && (decide (PySem.W.findIn K (.ref (He.ga K x)) "__setattr__" = some (some (.builtin "object.__setattr__"))) && (decide (PySem.W.subIn K (.ref (He.ga K x)) (.type "BaseException") = some true) && (decide (PySem.W.typeIn K (.ref (He.ga K x)) = some (.type "type")) && (PySem.W.keepIn K (.ref (He.ga K x)) &&
  (decide (PySem.W.findIn K (.ref (He.ga K x)) "__init__" = some (some (.ref (He.fAd K (x, some "__init__"))))) && (decide (PySem.W.typeIn K (.ref (He.fAd K (x, some "__init__"))) = some (.type "function")) &&
  (decide (PySem.W.mroIn K (He.ga K x) (.ref (He.ga K x)) = some true) && (decide (PySem.W.nsIn K cStatics "thirdparty.any" = some none) && (decide (PySem.W.ks_superIn K (He.ga K x) (He.ga K x) "__init__" = some (some (.builtin "ValueError.__init__"))) && (decide (PySem.W.subIn K (.ref (He.ga K x)) (.type "ValueError") = some true) &&
  (fl.all fun n => decide (PySem.W.findIn K (.ref (He.ga K x)) n = some none)))))))))))) &&
  (match K.lookup (He.fAd K (x, some "__init__")) with
  | some ⟨_, _, .func fd, _⟩ => (match fd.closure, fd.code, fd.defaults with
    | [(_, c)], .ref cd, .none => (match K.lookup c, K.lookup cd with
      | some ⟨_, _, .cell (some v), _⟩, some ⟨_, _, .fields vs, _⟩ => v == .ref (He.ga K x) && (PySem.W.codeIn K fd.code fd.qualname && (match (vs[2]? : Option Value) with
        | some (Value.str y _) => decide (y = file)
        | _ => false))
      | _, _ => false)
    | _, _, _ => false)
  | _ => false)
/-- what follows -/
structure SuI (P : Program) (K : PySem.W.Frag) (x : Str) (d : He.DefD) (fl : List Str) : Prop where
  lk : ∃ oc od kV doc pm an cdv ct cc osl, K.lookup (He.fAd K (x, some "__init__")) = some ⟨oc, od, .func (PySem.W.ksFn d.name d.qual d.params d.body d.scope .none kV doc pm an cdv ct cc), osl⟩ ∧ PySem.W.codeIn K cdv d.qual = true ∧ ∀ slf, (∃ ar : Arg, (d.params.posonlyargs ++ d.params.args).head? = some ar ∧ ar.arg = slf) → SuC P K (He.ga K x) (He.fAd K (x, some "__init__")) cc cdv d.params slf
  iC : PySem.W.findIn K (.ref (He.ga K x)) "__init__" = some (some (.ref (He.fAd K (x, some "__init__"))))
  tI : PySem.W.typeIn K (.ref (He.fAd K (x, some "__init__"))) = some (.type "function")
  ot : OexC K (He.ga K x)
  fl : ∀ n ∈ fl, PySem.W.findIn K (.ref (He.ga K x)) n = some none
theorem su_of {P : Program} {K : PySem.W.Frag} {x file : Str} {d : He.DefD} {fl : List Str} (hd : d.at_ = (x, some ("__init__" : Str))) (h : fnS K d.at_ = valS d) (c : suB x file fl K = true) (hP : ((P.main.file : Str) == file) = true) (hT : (P.main.scope.names.lookup ("super" : Str)).isSome = false) : SuI P K x d fl := by
  unfold suB at c
  simp only [Bool.and_eq_true, decide_eq_true_eq, List.all_eq_true] at c
  obtain ⟨⟨c1, c2, c3, c4, c5, c6, c7, c8, c9, c10, c11, c12⟩, c13⟩ := c
  have ot : OexC K (He.ga K x) := ⟨oexB_ok c1, c2, c3, c4, c5⟩
  refine ⟨?_, c6, c7, ot, c12⟩
  rw [hd] at h
  unfold fnS at h
  cases q : K.lookup (He.fAd K (x, some "__init__")) with
  | none =>
    rw [q] at h
    cases h
  | some o =>
    obtain ⟨oc, od, dt, osl⟩ := o
    rw [q] at h c13
    cases dt with
    | func fd =>
      obtain ⟨n1, n2, n3, n4, n5, n6, n7, n8, n9, n10, n11, n12, n13, n14, n15⟩ := fd
      have e2 : (some (n1, n2, n3, n4, n5, n6, n7.map (·.1), n15) : FnS) = some (d.name, d.qual, d.params, FuncBody.stmts d.body, d.scope, mainGlobals, [("__class__" : Str)], builtinsNs) := h
      simp only [Option.some.injEq, Prod.mk.injEq] at e2
      obtain ⟨h1, h2, h3, h4, h5, h6, h7, h8⟩ := e2
      subst h1 h2 h3 h4 h5 h6 h8
      dsimp only at c13
      split at c13
      · rename_i y c0 cd
        have hy : y = "__class__" := by simpa using h7
        subst hy
        split at c13
        · rename_i v ccl cdd ccs cdcl cddd vs cdcs g1 g2
          simp only [Bool.and_eq_true, beq_iff_eq] at c13
          obtain ⟨k1, k2, k3⟩ := c13
          subst k1
          split at k3
          · rename_i y tf k4
            have k5 : y = file := of_decide_eq_true k3
            subst k5
            refine ⟨oc, od, n9, n10, n11, n12, _, n14, c0, osl, rfl, k2, fun slf ar => ⟨ot, ⟨_, _, _, _, q, rfl⟩, ar, ⟨cd, _, _, vs, _, y, tf, rfl, g2, k4, hP⟩, ⟨_, _, _, g1⟩, c8, c9, c10, c11, hT⟩⟩
          · cases k3
        · cases c13
      · cases c13
    | _ => cases h
/-! ### the head with such defs -/
abbrev AlY : Type := AlX × List FnS
def obsY (n : Nat) (fa : List He.Fa) (fn : List He.DefD) (ex : PySem.W.Frag → Bool) (su : List He.DefD) (g : Addr → Option Obj) : AlY := (obsX n fa fn ex g, su.map fun d => fnS (fragX n g) d.at_)
def hookY (n : Nat) (fa : List He.Fa) (fn : List He.DefD) (ex : PySem.W.Frag → Bool) (su : List He.DefD) : PySem.W.Hook where
  α := AlY
  obs := fun s => obsY n fa fn ex su s.heap.get?
  val := fun _ => ((He.valD fn, true), su.map valS)
  says := fun _ h => ∃ K : PySem.W.Frag, K.In h ∧ He.SaysD fa fn K ∧ ex K = true ∧ su.map (fun d => fnS K d.at_) = su.map valS
  of := fun _ _ e => ⟨_, He.frG_in, congrArg (fun z : AlY => z.1.1) e, congrArg (fun z : AlY => z.1.2) e, congrArg (fun z : AlY => z.2) e⟩
  keeps := fun _ _ _ ⟨K, hK, c⟩ k => ⟨K, PySem.W.Frag.In.keeps hK k, c⟩
def obU (n : Nat) (fa : List He.Fa) (fn : List He.DefD) (ex : PySem.W.Frag → Bool) (su : List He.DefD) (s : PySem.W.SharedT) : AlY := obsY n fa fn ex su (HandSHeadRun.getT s)
theorem obU_eq (n : Nat) (fa : List He.Fa) (fn : List He.DefD) (ex : PySem.W.Frag → Bool) (su : List He.DefD) (s : PySem.W.SharedT) : obU n fa fn ex su s = (hookY n fa fn ex su).obs s.abs := by
  have e : HandSHeadRun.getT s = s.abs.heap.get? := funext (HandSHeadRun.getT_eq s)
  show obsY n fa fn ex su (HandSHeadRun.getT s) = obsY n fa fn ex su s.abs.heap.get?
  rw [e]
theorem says_su {K : PySem.W.Frag} {su : List He.DefD} (e : su.map (fun d => fnS K d.at_) = su.map valS) (i : Nat) {d : He.DefD} (h : su[i]? = some d := by rfl) : fnS K d.at_ = valS d := by
  have e2 : (su.map fun d => fnS K d.at_)[i]? = (su.map valS)[i]? := by rw [e]
  rw [List.getElem?_map, List.getElem?_map, h] at e2
  exact Option.some.inj e2
end FD

set_option maxRecDepth 100000
set_option maxHeartbeats 4000000
namespace FD
open PySem PySem.Spec PyProof.Rows L2
/-- what the __init__ of an exception with whole numbers as its fields keeps -/
def spI (C : Addr) (fl : List Str) : Sp := fun vs H Q _ => ∃ (a : Addr) (G : Hp) (is : List Int), vs = V.ref a :: is.map V.int ∧ Same G H ∧ G a = none ∧ H a = some (exo a C none) ∧ is.length = fl.length ∧ (∀ i ∈ is, i.natAbs.log2 < 1920) ∧
  ∀ (H' G' : Hp) (dx : Addr), Same G G' → Same G' H' → (∀ b o, b ≠ a → H b = some o → H' b = some o) → (∀ b, H b ≠ none → G' b = G b) → H dx = none → G' dx = none → dx ≠ a → H' a = some (exo a C (some dx)) →
    H' dx = some (exd dx ((fl.zip (is.map V.int)).reverse)) → Q .non H'
section
variable {CX : CXT} {P : Program} {w : World} {K : PySem.W.Frag} {mg : Str → Option Value} {base : Heap} {d : He.DefD} {x n m : Str} {e : Expr} {p0 p1 p2 pos ps4 pa pb pc pd pa' pb' pc' pd' : Pos} {k : Nat} {ff : AF}
theorem upd2_ok {G G1 H H1 : Hp} {a dx C : Addr} {fs : List (Str × V)} {σ : List (Option V)} {s : S} {W : Value → Option Addr → St → Hp → Prop} (na : G a = none) (ea : H a = some (exo a C none)) (A1 : Ab K ⟨G, H, none, W⟩ G1 H1 σ s) (nx : H1 dx = none) (ne : dx ≠ a) {o : HO} :
    Same G1 (upd (upd H1 dx o) a (exo a C (some dx))) ∧ (∀ b o', b ≠ a → H b = some o' → (upd (upd H1 dx o) a (exo a C (some dx))) b = some o') ∧ (∀ b, H b ≠ none → G1 b = G b) ∧ H dx = none ∧ G1 dx = none := by
  have gd : G1 dx = none := by
    cases z : G1 dx with
    | none => rfl
    | some o => rw [A1.gh _ _ z] at nx; cases nx
  refine ⟨fun b o' e1 => ?_, fun b o' hb e1 => ?_, fun b hb => A1.gn b hb, ?_, gd⟩
  · have hb : b ≠ a := fun z => by
      rw [z, A1.gn a (by show H a ≠ none; rw [ea]; exact fun z => nomatch z)] at e1
      rw [show (⟨G, H, none, W⟩ : Cn).G0 a = G a from rfl, na] at e1
      cases e1
    have hd : b ≠ dx := fun z => by rw [z, gd] at e1; cases e1
    rw [upd_ne hb, upd_ne hd]
    exact A1.gh _ _ e1
  · have e2 := A1.fr b o' e1 (fun z => nomatch z)
    have hd : b ≠ dx := fun z => by rw [z, nx] at e2; cases e2
    rw [upd_ne hb, upd_ne hd]
    exact e2
  · cases z : H dx with
    | none => rfl
    | some o => rw [A1.fr dx o z (fun z => nomatch z)] at nx; cases nx
/-- one field -/
theorem init1 (S : SuI P K x d [n]) (hb : d.body = [.Expr (.Call (.Attribute (.Call (.Name "super" p0) [] [] p1) "__init__" p2) [e] [] pos) ps4, .Assign [.Attribute (.Name "self" pa) n pb] (.Name n pc) pd])
    (sc : SuScope ["self", n] ["self", n] d.scope) (hks : d.scope.names.lookup ("super" : Str) = some .globalImplicit) (hkc : d.scope.names.lookup ("__class__" : Str) = some .free) (hka : d.scope.names.lookup ("self" : Str) = some .local) (hkn : d.scope.names.lookup n = some .local)
    (hmg : mg "super" = none) (har : ∃ ar : Arg, (d.params.posonlyargs ++ d.params.args).head? = some ar ∧ ar.arg = "self")
    (hfa : ∀ (C : Cn) (f : Addr) (cd : Value) (cc : Addr) (A : Around) (outer : List Env) (s : Shared) (H : Hp) (E : XK), FA (cxS CX P w K mg base ["self", n] d.qual d.scope f cd cc A outer s H E) C [e] ff)
    (hff : ∀ (v : V) (i : Int), i.natAbs.log2 < 1920 → ∃ D s', ff ⟨[some (.dat (.raw v)), some (.dat (.int i))], spl0⟩ = some ([D], s'))
    (he : ∀ f cdv cc n, starEach [e] (PySem.W.ksEnv d.qual d.scope n f cdv cc) = (false, eval e (PySem.W.ksEnv d.qual d.scope n f cdv cc)) :: starEach [] (PySem.W.ksEnv d.qual d.scope n f cdv cc))
    (hc : ∀ f cdv cc n, ∃ pl : Sem Bool, eval (.Call (.Attribute (.Call (.Name "super" p0) [] [] p1) "__init__" p2) [e] [] pos) (PySem.W.ksEnv d.qual d.scope n f cdv cc) = (do
      let ov ← attributeBase (.Call (.Name "super" p0) [] [] p1) "__init__" (PySem.W.ksEnv d.qual d.scope n f cdv cc) (eval (.Call (.Name "super" p0) [] [] p1) (PySem.W.ksEnv d.qual d.scope n f cdv cc))
      standAt p2.atName
      let (fx, first) ← holding [ov] (getMethod ov "__init__" pl)
      callWith pos fx first (backTo pos (starEach [e] (PySem.W.ksEnv d.qual d.scope n f cdv cc))) []))
    (hsw : ∀ f cdv cc n, swapsWith (.Call (.Attribute (.Call (.Name "super" p0) [] [] p1) "__init__" p2) [e] [] pos) none ps4.line (PySem.W.ksEnv d.qual d.scope n f cdv cc) = pure false)
    (hin : ∀ f cdv cc n, interactive (PySem.W.ksEnv d.qual d.scope n f cdv cc) = false)
    (hs1 : ∀ f cdv cc n', swapsWith (.Name n pc) (some (.Attribute (.Name "self" pa) n pb)) pd.line (PySem.W.ksEnv d.qual d.scope n' f cdv cc) = pure false)
    (hdb : (n == ("__debug__" : Str)) = false) (hcd : (n == ("__classdict__" : Str)) = false) (hbi : ∀ (kV doc pm : Value) (an : Option Addr) (cdv ct : Value) (cc : Addr) (us : List Value), us.length = 2 → bindArgs (PySem.W.ksFn d.name d.qual d.params d.body d.scope .none kV doc pm an cdv ct cc) ⟨us, []⟩ = pure ([("self" : Str), n].zip us)) :
    ∃ fd, FnOk P w K mg base CX (k + 1) (He.fAd K (x, some "__init__")) fd ["self", n] (spI (He.ga K x) [n]) ∧ Binds K fd ["self", n] [] := by
  obtain ⟨oc, od, kV, doc, pm, an, cdv, ct, cc, osl, lk, hcd2, su⟩ := S.lk
  refine ⟨_, ?_, Binds.all (hbi kV doc pm an cdv ct cc)⟩
  rw [hb] at lk ⊢
  have T := su "self" har
  have hc2 : ∃ pl : Nat → Sem Bool, ∀ n, eval (.Call (.Attribute (.Call (.Name "super" p0) [] [] p1) "__init__" p2) [e] [] pos) (PySem.W.ksEnv d.qual d.scope n (He.fAd K (x, some "__init__")) cdv cc) = (do
      let ov ← attributeBase (.Call (.Name "super" p0) [] [] p1) "__init__" (PySem.W.ksEnv d.qual d.scope n (He.fAd K (x, some "__init__")) cdv cc) (eval (.Call (.Name "super" p0) [] [] p1) (PySem.W.ksEnv d.qual d.scope n (He.fAd K (x, some "__init__")) cdv cc))
      standAt p2.atName
      let (fx, first) ← holding [ov] (getMethod ov "__init__" (pl n))
      callWith pos fx first (backTo pos (starEach [e] (PySem.W.ksEnv d.qual d.scope n (He.fAd K (x, some "__init__")) cdv cc))) []) := ⟨fun n => Classical.choose (hc (He.fAd K (x, some "__init__")) cdv cc n), fun n => Classical.choose_spec (hc (He.fAd K (x, some "__init__")) cdv cc n)⟩
  obtain ⟨pl, hc3⟩ := hc2
  refine fn_init (pl := pl) lk hcd2 sc T hks hkc hka hmg rfl (fun vs H Q E h => ?_) (fun A outer s H vs Q E hr h => ?_) (he _ cdv cc) hc3 (hsw _ cdv cc) (hin _ cdv cc)
  · obtain ⟨a, G, is, rfl, _, _, _, hl, _⟩ := h
    rw [List.length_cons, List.length_map, hl]
    rfl
  · obtain ⟨a, G, is, rfl, g, na, ea, hl, hz, hq⟩ := h
    match is, hl, hz, hq with
    | [i], _, hz, hq =>
      have r : RpL K G [V.ref a, V.int i] [.raw (.ref a), .int i] := ⟨_, _, rfl, rfl, _, _, rfl, rfl, rfl⟩
      have A0 := ab_start (K := K) (W := noW) g r 0 spl0
      obtain ⟨ta, pa', qa⟩ := hfa ⟨G, H, none, noW⟩ (He.fAd K (x, some "__init__")) cdv cc A outer s H E
      obtain ⟨D, s', ef⟩ := hff (.ref a) i (hz i List.mem_cons_self)
      refine ⟨ta, _, a, rfl, ea, pa', pss_one (ps_ost (pe_var (i := 0) rfl (.inl hka) (by decide) (by decide)) (pe_var (i := 1) rfl (.inl hkn) hdb hcd) (hs1 _ cdv cc _)), ?_⟩
      refine qa G H _ _ _ _ A0 ef _ fun us H1 G1 g1 A1 r1 => ⟨by rw [r1.length, List.length_singleton]; decide, A1.fr a _ ea (fun z => nomatch z), ?_⟩
      refine ⟨.int i, rfl, .ref a, rfl, a, He.ga K x, rfl, S.ot, S.fl n List.mem_cons_self, .inl ⟨A1.fr a _ ea (fun z => nomatch z), fun dx nx ne => ?_⟩⟩
      obtain ⟨u1, u2, u3, u4, u5⟩ := upd2_ok (fs := []) na ea A1 nx ne (o := exd dx [(n, V.int i)])
      exact hq _ G1 dx g1 u1 u2 u3 u4 u5 ne upd_same (by rw [upd_ne ne, upd_same]; rfl)
/-- two fields -/
theorem init2 (S : SuI P K x d [n, m]) (hb : d.body = [.Expr (.Call (.Attribute (.Call (.Name "super" p0) [] [] p1) "__init__" p2) [e] [] pos) ps4, .Assign [.Attribute (.Name "self" pa) n pb] (.Name n pc) pd, .Assign [.Attribute (.Name "self" pa') m pb'] (.Name m pc') pd'])
    (sc : SuScope ["self", n, m] ["self", n, m] d.scope) (hks : d.scope.names.lookup ("super" : Str) = some .globalImplicit) (hkc : d.scope.names.lookup ("__class__" : Str) = some .free) (hka : d.scope.names.lookup ("self" : Str) = some .local) (hkn : d.scope.names.lookup n = some .local) (hkm : d.scope.names.lookup m = some .local)
    (hmg : mg "super" = none) (har : ∃ ar : Arg, (d.params.posonlyargs ++ d.params.args).head? = some ar ∧ ar.arg = "self")
    (hfa : ∀ (C : Cn) (f : Addr) (cd : Value) (cc : Addr) (A : Around) (outer : List Env) (s : Shared) (H : Hp) (E : XK), FA (cxS CX P w K mg base ["self", n, m] d.qual d.scope f cd cc A outer s H E) C [e] ff)
    (hff : ∀ (v : V) (i j : Int), i.natAbs.log2 < 1920 → j.natAbs.log2 < 1920 → ∃ D s', ff ⟨[some (.dat (.raw v)), some (.dat (.int i)), some (.dat (.int j))], spl0⟩ = some ([D], s'))
    (he : ∀ f cdv cc n, starEach [e] (PySem.W.ksEnv d.qual d.scope n f cdv cc) = (false, eval e (PySem.W.ksEnv d.qual d.scope n f cdv cc)) :: starEach [] (PySem.W.ksEnv d.qual d.scope n f cdv cc))
    (hc : ∀ f cdv cc n, ∃ pl : Sem Bool, eval (.Call (.Attribute (.Call (.Name "super" p0) [] [] p1) "__init__" p2) [e] [] pos) (PySem.W.ksEnv d.qual d.scope n f cdv cc) = (do
      let ov ← attributeBase (.Call (.Name "super" p0) [] [] p1) "__init__" (PySem.W.ksEnv d.qual d.scope n f cdv cc) (eval (.Call (.Name "super" p0) [] [] p1) (PySem.W.ksEnv d.qual d.scope n f cdv cc))
      standAt p2.atName
      let (fx, first) ← holding [ov] (getMethod ov "__init__" pl)
      callWith pos fx first (backTo pos (starEach [e] (PySem.W.ksEnv d.qual d.scope n f cdv cc))) []))
    (hsw : ∀ f cdv cc n, swapsWith (.Call (.Attribute (.Call (.Name "super" p0) [] [] p1) "__init__" p2) [e] [] pos) none ps4.line (PySem.W.ksEnv d.qual d.scope n f cdv cc) = pure false)
    (hin : ∀ f cdv cc n, interactive (PySem.W.ksEnv d.qual d.scope n f cdv cc) = false)
    (hs1 : ∀ f cdv cc n', swapsWith (.Name n pc) (some (.Attribute (.Name "self" pa) n pb)) pd.line (PySem.W.ksEnv d.qual d.scope n' f cdv cc) = pure false)
    (hs2 : ∀ f cdv cc n', swapsWith (.Name m pc') (some (.Attribute (.Name "self" pa') m pb')) pd'.line (PySem.W.ksEnv d.qual d.scope n' f cdv cc) = pure false)
    (hdb2 : (m == ("__debug__" : Str)) = false) (hcd22 : (m == ("__classdict__" : Str)) = false)
    (hdb : (n == ("__debug__" : Str)) = false) (hcd : (n == ("__classdict__" : Str)) = false) (hbi : ∀ (kV doc pm : Value) (an : Option Addr) (cdv ct : Value) (cc : Addr) (us : List Value), us.length = 3 → bindArgs (PySem.W.ksFn d.name d.qual d.params d.body d.scope .none kV doc pm an cdv ct cc) ⟨us, []⟩ = pure ([("self" : Str), n, m].zip us)) :
    ∃ fd, FnOk P w K mg base CX (k + 1) (He.fAd K (x, some "__init__")) fd ["self", n, m] (spI (He.ga K x) [n, m]) ∧ Binds K fd ["self", n, m] [] := by
  obtain ⟨oc, od, kV, doc, pm, an, cdv, ct, cc, osl, lk, hcd2, su⟩ := S.lk
  refine ⟨_, ?_, Binds.all (hbi kV doc pm an cdv ct cc)⟩
  rw [hb] at lk ⊢
  have T := su "self" har
  have hc2 : ∃ pl : Nat → Sem Bool, ∀ n, eval (.Call (.Attribute (.Call (.Name "super" p0) [] [] p1) "__init__" p2) [e] [] pos) (PySem.W.ksEnv d.qual d.scope n (He.fAd K (x, some "__init__")) cdv cc) = (do
      let ov ← attributeBase (.Call (.Name "super" p0) [] [] p1) "__init__" (PySem.W.ksEnv d.qual d.scope n (He.fAd K (x, some "__init__")) cdv cc) (eval (.Call (.Name "super" p0) [] [] p1) (PySem.W.ksEnv d.qual d.scope n (He.fAd K (x, some "__init__")) cdv cc))
      standAt p2.atName
      let (fx, first) ← holding [ov] (getMethod ov "__init__" (pl n))
      callWith pos fx first (backTo pos (starEach [e] (PySem.W.ksEnv d.qual d.scope n (He.fAd K (x, some "__init__")) cdv cc))) []) := ⟨fun n => Classical.choose (hc (He.fAd K (x, some "__init__")) cdv cc n), fun n => Classical.choose_spec (hc (He.fAd K (x, some "__init__")) cdv cc n)⟩
  obtain ⟨pl, hc3⟩ := hc2
  refine fn_init (pl := pl) lk hcd2 sc T hks hkc hka hmg rfl (fun vs H Q E h => ?_) (fun A outer s H vs Q E hr h => ?_) (he _ cdv cc) hc3 (hsw _ cdv cc) (hin _ cdv cc)
  · obtain ⟨a, G, is, rfl, _, _, _, hl, _⟩ := h
    rw [List.length_cons, List.length_map, hl]
    rfl
  · obtain ⟨a, G, is, rfl, g, na, ea, hl, hz, hq⟩ := h
    match is, hl, hz, hq with
    | [i, j], _, hz, hq =>
      have r : RpL K G [V.ref a, V.int i, V.int j] [.raw (.ref a), .int i, .int j] := ⟨_, _, rfl, rfl, _, _, rfl, rfl, _, _, rfl, rfl, rfl⟩
      have A0 := ab_start (K := K) (W := noW) g r 0 spl0
      obtain ⟨ta, pa', qa⟩ := hfa ⟨G, H, none, noW⟩ (He.fAd K (x, some "__init__")) cdv cc A outer s H E
      obtain ⟨D, s', ef⟩ := hff (.ref a) i j (hz i List.mem_cons_self) (hz j (List.mem_cons_of_mem _ List.mem_cons_self))
      refine ⟨ta, _, a, rfl, ea, pa', pss_cons (ps_ost (pe_var (i := 0) rfl (.inl hka) (by decide) (by decide)) (pe_var (i := 1) rfl (.inl hkn) hdb hcd) (hs1 _ cdv cc _)) (pss_one (ps_ost (pe_var (i := 0) rfl (.inl hka) (by decide) (by decide)) (pe_var (i := 2) rfl (.inl hkm) hdb2 hcd22) (hs2 _ cdv cc _))), ?_⟩
      refine qa G H _ _ _ _ A0 ef _ fun us H1 G1 g1 A1 r1 => ⟨by rw [r1.length, List.length_singleton]; decide, A1.fr a _ ea (fun z => nomatch z), ?_⟩
      refine ⟨.int i, rfl, .ref a, rfl, a, He.ga K x, rfl, S.ot, S.fl n List.mem_cons_self, .inl ⟨A1.fr a _ ea (fun z => nomatch z), fun dx nx ne => ?_⟩⟩
      refine ⟨.int j, rfl, .ref a, rfl, a, He.ga K x, rfl, S.ot, S.fl m (List.mem_cons_of_mem _ List.mem_cons_self), .inr ⟨dx, [(n, V.int i)], upd_same, by rw [upd_ne ne, upd_same], by rw [List.length_singleton]; decide, ?_⟩⟩
      have e9 : upd (upd (upd H1 dx (exd dx [(n, V.int i)])) a (exo a (He.ga K x) (some dx))) dx (exd dx [(m, V.int j), (n, V.int i)]) = upd (upd H1 dx (exd dx [(m, V.int j), (n, V.int i)])) a (exo a (He.ga K x) (some dx)) := by
        funext b
        by_cases hb1 : b = dx
        · subst hb1
          rw [upd_same, upd_ne ne, upd_same]
        · by_cases hb2 : b = a
          · subst hb2
            rw [upd_ne hb1, upd_same, upd_same]
          · rw [upd_ne hb1, upd_ne hb2, upd_ne hb1, upd_ne hb2, upd_ne hb1]
      show Q .non (upd (upd (upd H1 dx (exd dx [(n, V.int i)])) a (exo a (He.ga K x) (some dx))) dx (exd dx [(m, V.int j), (n, V.int i)]))
      rw [e9]
      obtain ⟨u1, u2, u3, u4, u5⟩ := upd2_ok (fs := []) na ea A1 nx ne (o := exd dx [(m, V.int j), (n, V.int i)])
      exact hq _ G1 dx g1 u1 u2 u3 u4 u5 ne upd_same (by rw [upd_ne ne, upd_same]; rfl)
end
end FD

set_option maxRecDepth 100000
set_option maxHeartbeats 4000000
namespace FD
open PySem PySem.Spec PyProof.Rows L2
/-! ## an own exception as a value; its fields -/
def tMkV (C : Addr) (sp : Sp) (ta : TA) : TE := fun σ H Q => ta σ H fun vs H1 => vs.length ≤ 1000 ∧ ∀ a, H1 a = none → sp (.ref a :: vs) (upd H1 a (exo a C none))
  (fun v H2 => v = .non ∧ ∃ (d : Addr) (fs : List (Str × V)), H2 a = some (exo a C (some d)) ∧ H2 d = some (exd d fs) ∧ Q (.ref a) (upd (upd H2 d (.xd fs)) a (ExK (.ref C) (some d) a))) (fun _ _ _ => False)
section
variable {X : Cx} {x : Str} {e : Expr} {es : List Expr} {p pos : Pos} {ta : TA}
theorem pe_oex {CX : CXT} {C fI : Addr} {k : Nat} {fd : FuncData} {ps : List Str} {sp : Sp} (T : OexC X.K C) (iC : PySem.W.findIn X.K (.ref C) "__init__" = some (some (.ref fI))) (tI : PySem.W.typeIn X.K (.ref fI) = some (.type "function"))
    (F1 : FnOk X.prog X.w X.K X.mg X.base CX k fI fd ps sp) (hr : Room (k + 1) X.A) (hb : Binds X.K fd ps []) (hx : Passes CX X (fun _ _ _ => False)) (hg : Gl X x) (hm : X.mg x = some (.ref C)) (ha : PA X (e :: es) ta)
    (hdb : (x == ("__debug__" : Str)) = false := by decide) (he : starEach (e :: es) X.env = (false, eval e X.env) :: starEach es X.env := by rfl) (hpl : (backTo pos (starEach es X.env)).any (·.1) = false := by rfl) :
    PE X (.Call (.Name x p) (e :: es) [] pos) (tMkV C sp ta) := by
  refine ⟨fun pins s σ H Q I h => ?_⟩
  obtain ⟨nm, q, N, bs, bm, sn, sub, ab, col, dd, k0, k1, k2, k3, k5, hC, hbm⟩ := T.cls
  refine wpAny_Call_Name_kw (ld_glob I hg hm ?_ hdb)
  refine PySem.W.callWith_K (h₀ := X.base) I.ok.mod.kin T.kC (thn (ha.run pos pins s σ H _ I h) fun us s1 ⟨vs, H1, I1, r1, hz, q1⟩ => ⟨I1.kIn, ?_⟩) he hpl
  show wpAny _ _ (call (.ref C) us) _ _ _
  obtain ⟨hp, g, dr, tk, os⟩ := s1
  have hsz : hp.objs.size ≤ hp.objs.size + 1 := Nat.le_succ _
  have hn : H1 (hp.objs.size + 1) = none := I1.hok.fresh hsz
  have hq := q1 (hp.objs.size + 1) hn
  have kk : ∀ b o, hp.get? b = some o → ((hp.push (PySem.W.kdv_tup us)).push (PySem.HandSPX.excO C hp.objs.size)).get? b = some o := fun b o e => Heap.get?_push_of_some _ (Heap.get?_push_of_some _ e)
  have hget : ((hp.push (PySem.W.kdv_tup us)).push (PySem.HandSPX.excO C hp.objs.size)).get? (hp.objs.size + 1) = some (PySem.HandSPX.excO C hp.objs.size) := by heap_get
  have I2 : L2.Inv X pins σ (upd H1 (hp.objs.size + 1) (exo (hp.objs.size + 1) C none)) ⟨(hp.push (PySem.W.kdv_tup us)).push (PySem.HandSPX.excO C hp.objs.size), g, dr, tk, os⟩ :=
    I1.laid (t' := tk) (a := hp.objs.size + 1) (o := exo (hp.objs.size + 1) C none) (h' := (hp.push (PySem.W.kdv_tup us)).push (PySem.HandSPX.excO C hp.objs.size)) kk hsz (exo_ok hget)
  have r2 : Vals (V.ref (hp.objs.size + 1) :: vs) (Value.ref (hp.objs.size + 1) :: us) := .cons rfl r1
  have hl : (Value.ref (hp.objs.size + 1) :: us).length = ps.length := by
    have e := r2.length
    rw [F1.len _ _ _ _ hq] at e
    exact e.symm
  have hus : us.length ≤ sizeLine := by
    rw [← Paired.length r1, sizeLine_eq]
    omega
  have bnd := hb ⟨(hp.push (PySem.W.kdv_tup us)).push (PySem.HandSPX.excO C hp.objs.size), g, dr, tk, os⟩ (Value.ref (hp.objs.size + 1) :: us) I2.kIn (by rw [List.append_nil]; exact hl)
  rw [List.append_nil] at bnd
  refine wpAny_call (PySem.HandSPX.call_own F.excBase_ValueError (fun Y => PySem.HandSPX.refsVE_contains Y bm hbm) (I1.kIn _ _ hC) (PySem.W.looks_findIn I1.kIn iC) (fun self => PySem.W.bind_fn I1.kIn self tI) hus
    (codeAny_mono (F1.run _ X.stack _ _ ⟨Value.ref (hp.objs.size + 1) :: us, []⟩ (Value.ref (hp.objs.size + 1) :: us) _ _ (fun _ _ _ => False) (hr.make C us []) (I2.env0.make C us []) bnd r2 hq) fun r s' hq' => ?_))
  cases r with
  | error er => exact hx pins σ _ _ er s' I2 hq'
  | ok fl =>
    cases fl with
    | ret u =>
      have I3 := I2.after hq'
      obtain ⟨v, H2, J, rv, ev, d, fs, ea, ed, q2⟩ := I3
      subst ev
      refine ⟨rv, ?_⟩
      obtain ⟨t0, hoe⟩ := exo_at J.hok ea
      obtain ⟨mA, hns, rel⟩ := exd_at J.hok ed
      have hda : d ≠ hp.objs.size + 1 := fun z => by
        obtain ⟨o, es, ep, e1, e2, _⟩ := hns
        rw [z, hoe] at e1
        have z2 := Option.some.inj e1
        subst z2
        cases e2
      obtain ⟨h2, g2, d2, t2, os2⟩ := s'
      obtain ⟨od, hod, _⟩ := lookIn_ns hns
      have J1 := J.write (t' := t2) (x := d) (e := d) (o := .xd fs) (by rw [ed]; exact True.intro) (.inl rfl) (fun b u _ z => z) ⟨od, hod⟩ ⟨mA, hns, rel⟩
      have ea2 : (upd H2 d (.xd fs)) (hp.objs.size + 1) = some (exo (hp.objs.size + 1) C (some d)) := by rw [upd_ne hda.symm]; exact ea
      have J2 := J1.write (t' := t2) (x := hp.objs.size + 1) (e := hp.objs.size + 1) (o := ExK (.ref C) (some d) (hp.objs.size + 1)) (by rw [ea2]; exact True.intro) (.inl rfl) (fun b u _ z => z) ⟨_, hoe⟩ (exK_ok hoe ⟨rfl, rfl⟩ rfl)
      exact ⟨.ref (hp.objs.size + 1), _, J2, rfl, q2⟩
    | next => exact False.elim hq'
    | brk => exact False.elim hq'
    | cont => exact False.elim hq'
end
def allI : List DV → Option (List Int)
  | [] => some []
  | .int i :: ds => (allI ds).map (i :: ·)
  | _ :: _ => none
theorem allI_rp {K : PySem.W.Frag} {G : Hp} : ∀ {ds : List DV} {is : List Int} {vs : List V}, allI ds = some is → RpL K G vs ds → vs = is.map V.int
  | [], is, vs, e, r => by
    cases e
    exact r
  | .int i :: ds, is, vs, e, r => by
    obtain ⟨v, rest, rfl, h1, h2⟩ := r
    unfold allI at e
    obtain ⟨js, e1, rfl⟩ := Option.map_eq_some_iff.mp e
    rw [allI_rp e1 h2, show v = V.int i from h1]
    rfl
  | .non :: _, _, _, e, _ | .bl _ :: _, _, _, e, _ | .str _ :: _, _, _, e, _ | .tup _ :: _, _, _, e, _ | .lst _ :: _, _, _, e, _ | .scr _ :: _, _, _, e, _ | .raw _ :: _, _, _, e, _ | .exc _ _ :: _, _, _, e, _ => by cases e
/-- such an exception, made -/
def dMk (x : Str) (fl : List Str) : List DV → Option DV := fun ds => match allI ds with
  | some is => if is.length = fl.length ∧ is.length ≤ 1000 ∧ ∀ i ∈ is, i.natAbs.log2 < 1920 then some (.exc x (fl.zip is).reverse) else none
  | none => none
theorem zip_int (fl : List Str) (is : List Int) : (fl.zip (is.map V.int)).reverse = ((fl.zip is).reverse).map fun p => (p.1, V.int p.2) := by
  rw [List.map_reverse]
  congr 1
  induction fl generalizing is with
  | nil => rfl
  | cons f fl ih => cases is with
    | nil => rfl
    | cons i is => rw [List.map_cons, List.zip_cons_cons, List.zip_cons_cons, ih, List.map_cons]
section
variable {X : Cx} {C : Cn} {x n : Str} {e : Expr} {es : List Expr} {p pos : Pos} {ff : AF} {f : EF} {k j : Nat}
theorem fe_mk {fI : Addr} {fd : FuncData} {ps fl : List Str} (T : OexC X.K (He.ga X.K x)) (iC : PySem.W.findIn X.K (.ref (He.ga X.K x)) "__init__" = some (some (.ref fI))) (tI : PySem.W.typeIn X.K (.ref fI) = some (.type "function"))
    (F1 : FnOk X.prog X.w X.K X.mg X.base CX0 j fI fd ps (spI (He.ga X.K x) fl)) (hr : Rm k X.A) (hj : j + 1 ≤ k) (hb : Binds X.K fd ps []) (hm : X.mg x = some (.ref (He.ga X.K x))) (ha : FA X C (e :: es) ff) (hg : Gl X x := by rfl)
    (hdb : (x == ("__debug__" : Str)) = false := by decide) (he : starEach (e :: es) X.env = (false, eval e X.env) :: starEach es X.env := by rfl) (hpl : (backTo pos (starEach es X.env)).any (·.1) = false := by rfl) :
    FE X C (.Call (.Name x p) (e :: es) [] pos) (eA ff (dMk x fl)) := by
  obtain ⟨ta, p1, q1⟩ := ha
  refine ⟨_, pe_oex T iC tI F1 (hr.rm.mono hj) hb pass0 hg hm p1 hdb he hpl, ?_⟩
  intro G H σ s d s' A e1 Q k1
  unfold eA at e1
  split at e1
  · rename_i ds s1 e2
    split at e1
    · rename_i z e3
      cases e1
      refine q1 G H σ s ds s' A e2 _ fun vs H1 G1 g1 A1 r => ?_
      unfold dMk at e3
      split at e3
      · rename_i is e4
        split at e3
        · rename_i ok
          cases e3
          have ev := allI_rp e4 r
          subst ev
          refine ⟨by rw [List.length_map]; exact ok.2.1, fun a na => ⟨a, G1, is, rfl, ?_, ?_, upd_same, ok.1, ok.2.2, fun H' G' dx g2 gh hk gn nd gd ne ea ed => ?_⟩⟩
          · intro b o eb
            have : b ≠ a := fun z => by rw [z] at eb; rw [A1.gh _ _ eb] at na; cases na
            rw [upd_ne this]
            exact A1.gh _ _ eb
          · cases z : G1 a with
            | none => rfl
            | some o => rw [A1.gh _ _ z] at na; cases na
          · have nd1 : H1 dx = none := by rw [upd_ne ne] at nd; exact nd
            have na' : G' a = none := by
              rw [gn a (by rw [upd_same]; exact fun z => nomatch z)]
              cases z : G1 a with
              | none => rfl
              | some o => rw [A1.gh _ _ z] at na; cases na
            refine ⟨rfl, dx, _, ea, ed, ?_⟩
            have Fw1 : Fw G1 H1 (upd (upd G' dx (.xd ((fl.zip (is.map V.int)).reverse))) a (ExK (.ref (He.ga X.K x)) (some dx) a)) (upd (upd H' dx (.xd ((fl.zip (is.map V.int)).reverse))) a (ExK (.ref (He.ga X.K x)) (some dx) a)) none := {
              g := fun b o eb => by
                have hb1 : b ≠ a := fun z => by rw [z] at eb; rw [A1.gh _ _ eb] at na; cases na
                have hb2 : b ≠ dx := fun z => by rw [z] at eb; rw [A1.gh _ _ eb] at nd1; cases nd1
                rw [upd_ne hb1, upd_ne hb2]
                exact g2 _ _ eb
              gh := fun b o eb => by
                by_cases hb1 : b = a
                · subst hb1
                  rw [upd_same] at eb ⊢
                  exact eb
                · rw [upd_ne hb1] at eb ⊢
                  by_cases hb2 : b = dx
                  · subst hb2
                    rw [upd_same] at eb ⊢
                    exact eb
                  · rw [upd_ne hb2] at eb ⊢
                    exact gh _ _ eb
              h := fun b o eb _ => by
                have hb1 : b ≠ a := fun z => by rw [z, na] at eb; cases eb
                have hb2 : b ≠ dx := fun z => by rw [z, nd1] at eb; cases eb
                rw [upd_ne hb1, upd_ne hb2]
                exact hk b o hb1 (by rw [upd_ne hb1]; exact eb)
              n := fun b hb => by
                have hb1 : b ≠ a := fun z => hb (by rw [z]; exact na)
                have hb2 : b ≠ dx := fun z => hb (by rw [z]; exact nd1)
                rw [upd_ne hb1, upd_ne hb2]
                exact gn b (by rw [upd_ne hb1]; exact hb) }
            refine k1 (.ref a) _ _ (g1.trans Fw1.g) (A1.fw0 Fw1) ⟨a, some dx, rfl, upd_same, ?_⟩
            show _ = some _
            rw [upd_ne ne, upd_same, zip_int]
        · cases e3
      · cases e3
    · cases e1
  · cases e1
end
end FD

set_option maxRecDepth 100000
set_option maxHeartbeats 4000000
namespace FD
open PySem PySem.Spec PyProof.Rows L2
section
variable {X : Cx} {C : Cn} {x n : Str} {e : Expr} {p pos : Pos} {te : TE} {f : EF}
/-- an own exception without own __init__, as a value -/
theorem pe_exv {D : Addr} {bmB : List Value} {B newId initId : String} (F : ExcBaseFacts B newId initId bmB) (q : PySem.W.excIn X.K D bmB newId = true) (gC : X.mg x = some (.ref D)) (kC : PySem.W.keepIn X.K (.ref D) = true) (hg : Gl X x)
    (he : PE X e te) (hs : starEach [e] X.env = (false, eval e X.env) :: starEach [] X.env := by rfl) (hdb : (x == ("__debug__" : Str)) = false := by decide) :
    PE X (.Call (.Name x p) [e] [] pos) (fun σ H Q => te σ H fun _ H1 => ∀ a, H1 a = none → Q (.ref a) (upd H1 a (ExK (.ref D) none a))) := by
  refine ⟨fun pins s σ H Q I h => ?_⟩
  refine wpAny_Call_Name_kw (ld_glob I hg gC ?_ hdb)
  refine PySem.W.callWith_K (h₀ := X.base) I.ok.mod.kin kC ?_ hs (by rfl)
  rw [hs]
  show wpAny _ _ (spliced ((false, eval e X.env) :: backTo pos (starEach [] X.env))) _ _ s
  refine Calls.spliced_cons (thn (he.run pins s σ H _ I h) fun u s1 ⟨v, H1, I1, r1, q1⟩ => ?_)
  refine Calls.spliced_nil ⟨I1.kIn, ?_⟩
  show wpAny _ _ (call (.ref D) [u]) _ _ _
  obtain ⟨bm, N, nm, qn, bs, hdct, sn, sub, ab, col, dd, k0, k1, k2, k3, k5, mN, hC, hN, hni, T⟩ := exc_obj I1.kIn q
  refine wpAny_call_exc_subT F T hC hN hni (fun h' a hm => ?_) (by show 1 ≤ sizeLine; rw [sizeLine_eq]; omega)
  have hn : H1 a = none := I1.hok.gone hm.new
  obtain ⟨t, ht, _, _⟩ := hm.there
  exact ⟨.ref a, upd H1 a (ExK (.ref D) none a), I1.laidN hm.keeps hm.new hn (exK_ok ht ⟨rfl, rfl⟩ rfl), rfl, q1 a hn⟩
def eMk0 (x : Str) (f : EF) : EF := fun s => match f s with
  | some (_, s1) => some (.exc x [], s1)
  | none => none
theorem fe_mk0 (R : RzF X x) (he : FE X C e f) (hg : Gl X x := by rfl) (hs : starEach [e] X.env = (false, eval e X.env) :: starEach [] X.env := by rfl) (hdb : (x == ("__debug__" : Str)) = false := by decide) : FE X C (.Call (.Name x p) [e] [] pos) (eMk0 x f) := by
  obtain ⟨te, p1, q1⟩ := he
  obtain ⟨c1, c2, c3, c4⟩ := He.exc_ok R.ok
  refine ⟨_, pe_exv PySem.F.excBase_ValueError c1 R.gl c2 hg p1 hs hdb, ?_⟩
  intro G H σ s d s' A e1 Q k
  unfold eMk0 at e1
  split at e1
  · rename_i d0 s1 e2
    cases e1
    refine q1 G H σ s _ _ A e2 _ fun v H1 G1 g1 A1 r => fun a na => ?_
    have Fw1 := Fw.add (o := ExK (.ref (He.ga X.K x)) none a) A1.gh na
    exact k (.ref a) _ _ (g1.trans Fw1.g) (A1.fw0 Fw1) ⟨a, none, rfl, upd_same, rfl⟩
  · cases e1
/-! ## a field of a kept exception -/
def tXfK (K : PySem.W.Frag) (n : Str) (te : TE) : TE := fun σ H Q => te σ H fun x H1 => ∃ (a D dd : Addr) (fs : List (Str × V)) (v : V), x = .ref a ∧ H1 a = some (ExK (.ref D) (some dd) a) ∧ H1 dd = some (.xd fs) ∧ XfC K D ∧ PySem.W.findIn K (.ref D) n = some none ∧ fs.lookup n = some v ∧ Q v H1
theorem pe_xfK (he : PE X e te) (hb : attributeBase e n X.env (eval e X.env) = eval e X.env := by rfl) : PE X (.Attribute e n pos) (tXfK X.K n te) := by
  refine ⟨fun pins s σ H Q I h => ?_⟩
  refine attr_of hb (thn (he.run pins s σ H _ I h) fun u s1 hh => ?_)
  obtain ⟨y, H1, I1, rx, a, D, dd, fs, v, ex, ea, ed, T, hno, l, q⟩ := hh
  subst ex
  obtain rfl : u = Value.ref a := rx
  obtain ⟨⟨oe, vs, g, ⟨z1, z2⟩, dt⟩, _⟩ := (show ObjOk X.prog X.w H1 s1.heap a (ExK (.ref D) (some dd) a) from I1.hok a _ ea)
  have hx : ObjOk X.prog X.w H1 s1.heap dd (.xd fs) := I1.hok dd _ ed
  obtain ⟨mA, hns, hr⟩ := hx
  obtain ⟨od, ho, hl⟩ := lookIn_ns hns
  obtain ⟨u, hu, ru⟩ := RelO.some_of (v := v) (o := mA n) (by rw [← l]; exact hr n)
  have J : PySem.W.InstAt s1.heap a oe D (some od) := ⟨g, z1, by unfold PySem.W.notCls; rw [dt] <;> rfl, by rw [z2]; exact ho⟩
  exact HandSPX.exc_get I1.kIn J T.ga T.gg T.exC (PySem.W.findObj_own T.hdC hno rfl (by rw [hl, hu])) (handed_of ru) ⟨v, H1, I1.tok _, ru, q⟩
def xfkB (c n : Str) (K : PySem.W.Frag) : Bool := xfB K (He.ga K c) && decide (PySem.W.findIn K (.ref (He.ga K c)) n = some none)
def eFld (tab : List Str) (n : Str) (f : EF) : EF := fun s => match f s with
  | some (.exc c fs, s1) => if c ∈ tab then match fs.lookup n with
    | some i => some (.int i, s1)
    | none => none
    else none
  | _ => none
theorem look_int {n : Str} : ∀ {fs : List (Str × Int)} {i : Int}, fs.lookup n = some i → (fs.map fun p => (p.1, V.int p.2)).lookup n = some (V.int i)
  | [], _, h => by cases h
  | (m, j) :: fs, i, h => by
    rw [List.map_cons, List.lookup_cons]
    rw [List.lookup_cons] at h
    cases z : (n == m) with
    | true =>
      rw [z] at h
      cases h
      rfl
    | false =>
      rw [z] at h
      exact look_int h
theorem fe_fld {tab : List Str} (he : FE X C e f) (ht : ∀ c ∈ tab, xfkB c n X.K = true) (hb : attributeBase e n X.env (eval e X.env) = eval e X.env := by rfl) : FE X C (.Attribute e n pos) (eFld tab n f) := by
  obtain ⟨te, p1, q1⟩ := he
  refine ⟨_, pe_xfK p1 hb, ?_⟩
  intro G H σ s d s' A e1 Q k
  unfold eFld at e1
  split at e1
  · rename_i c fs s1 e2
    split at e1
    · rename_i hc
      split at e1
      · rename_i i e3
        cases e1
        refine q1 G H σ s _ _ A e2 _ fun v H1 G1 g1 A1 r => ?_
        obtain ⟨a, dx, rfl, ha, hx⟩ := r
        cases dx with
        | none =>
          rw [show fs = [] from hx] at e3
          cases e3
        | some dd =>
          obtain ⟨x1, x2⟩ := Bool.and_eq_true_iff.mp (ht c hc)
          exact ⟨a, _, dd, _, _, rfl, A1.gh _ _ ha, A1.gh _ _ hx, xfB_ok x1, of_decide_eq_true x2, look_int e3, k _ H1 G1 g1 A1 rfl⟩
      · cases e1
    · cases e1
  · cases e1
end
end FD

set_option maxRecDepth 100000
set_option maxHeartbeats 4000000
namespace FD
open PySem PySem.Spec PyProof.Rows L2
/-- an own exception class whose instances have whole numbers as fields: what a law's head gives of it -/
structure MkOk (P : Program) (w : World) (K : PySem.W.Frag) (mg : Str → Option Value) (base : Heap) (x : Str) (ps fl : List Str) : Prop where
  ot : OexC K (He.ga K x)
  iC : PySem.W.findIn K (.ref (He.ga K x)) "__init__" = some (some (.ref (He.fAd K (x, some "__init__"))))
  tI : PySem.W.typeIn K (.ref (He.fAd K (x, some "__init__"))) = some (.type "function")
  fn : ∃ fd, FnOk P w K mg base CX0 1 (He.fAd K (x, some "__init__")) fd ps (spI (He.ga K x) fl) ∧ Binds K fd ps []
  gl : mg x = some (.ref (He.ga K x))
theorem fe_mkI {X : Cx} {C : Cn} {x : Str} {e : Expr} {es : List Expr} {p pos : Pos} {ff : AF} {k : Nat} {ps fl : List Str} (M : MkOk X.prog X.w X.K X.mg X.base x ps fl) (hr : Rm k X.A) (hk : 2 ≤ k) (ha : FA X C (e :: es) ff) (hg : Gl X x := by rfl)
    (hdb : (x == ("__debug__" : Str)) = false := by decide) (he : starEach (e :: es) X.env = (false, eval e X.env) :: starEach es X.env := by rfl) (hpl : (backTo pos (starEach es X.env)).any (·.1) = false := by rfl) :
    FE X C (.Call (.Name x p) (e :: es) [] pos) (eA ff (dMk x fl)) := by
  obtain ⟨fd, F, B⟩ := M.fn
  exact fe_mk M.ot M.iC M.tI F hr hk B M.gl ha hg hdb he hpl
/-- a statement of a class's text -/
def inS (s : Stmt) (i : Nat) : Stmt := match s with
  | .ClassDef _ _ _ body .. => body.getD i (.Pass ⟨0, 0, 0, 0⟩)
  | _ => .Pass ⟨0, 0, 0, 0⟩
/-! ### the text of such an error -/
theorem len_str {n : Int} (h : n.natAbs.log2 < 1920) : (Str.ofString (toString n)).length ≤ 4301 := by
  have e := int_text_length_le10 (k := 4300) (by decide) (lt_pow (show n.natAbs.log2 < 12900 by omega))
  rw [PySem.ofString_length]
  exact e
theorem js2_ok {a : Str} {f : EF} {s : S} {n : Int} (ha : a.length ≤ 100) (hn : n.natAbs.log2 < 1920) (hf : f s = some (.int n, s)) : ∃ x, eJs [eC (.str a), FD.e1 f dFmt] s = some (.str x, s) := by
  have l1 := len_str hn
  have big := sizeLine_eq
  have e0 : Str.empty.length = 0 := rfl
  have q1 : (Str.empty ++ a).length ≤ sizeLine := by rw [strLen_append]; omega
  have q2 : (Str.empty ++ a ++ Str.ofString (toString n)).length ≤ sizeLine := by rw [strLen_append, strLen_append]; omega
  refine ⟨Str.empty ++ a ++ Str.ofString (toString n), ?_⟩
  unfold eJs
  simp only [eJn, eC, FD.e1, dFmt, hf, hn, if_true, q1, q2]
theorem js4_ok {a b : Str} {f g : EF} {s : S} {n m : Int} (ha : a.length ≤ 100) (hb : b.length ≤ 100) (hn : n.natAbs.log2 < 1920) (hm : m.natAbs.log2 < 1920) (hf : f s = some (.int n, s)) (hg : g s = some (.int m, s)) : ∃ x, eJs [eC (.str a), FD.e1 f dFmt, eC (.str b), FD.e1 g dFmt] s = some (.str x, s) := by
  have l1 := len_str hn
  have l2 := len_str hm
  have big := sizeLine_eq
  have e0 : Str.empty.length = 0 := rfl
  have q1 : (Str.empty ++ a).length ≤ sizeLine := by rw [strLen_append]; omega
  have q2 : (Str.empty ++ a ++ Str.ofString (toString n)).length ≤ sizeLine := by rw [strLen_append, strLen_append]; omega
  have q3 : (Str.empty ++ a ++ Str.ofString (toString n) ++ b).length ≤ sizeLine := by rw [strLen_append, strLen_append, strLen_append]; omega
  have q4 : (Str.empty ++ a ++ Str.ofString (toString n) ++ b ++ Str.ofString (toString m)).length ≤ sizeLine := by rw [strLen_append, strLen_append, strLen_append, strLen_append]; omega
  refine ⟨Str.empty ++ a ++ Str.ofString (toString n) ++ b ++ Str.ofString (toString m), ?_⟩
  unfold eJs
  simp only [eJn, eC, FD.e1, dFmt, hf, hg, hn, hm, if_true, q1, q2, q3, q4]
end FD

set_option maxRecDepth 100000
set_option maxHeartbeats 4000000
set_option exponentiation.threshold 30000
namespace T4.L6
open PySem L2 FD
/-! ## the kinds of errors -/
def b_law_error_kind : SF :=
  sSeq (sAsg (eA (aCons (dIsC [("SyntaxProblem", true), ("TooMany", false), ("InvalidNumber", false), ("ZeroDivisor", false), ("OtherRoot", false), ("NoVariable", false), ("OutOfRange", false), ("Incompatible", false), ("NotReached", false), ("NoMark", false), ("InvalidCommand", false)] (eV 0)) (aCons (dIsC [("SyntaxProblem", false), ("TooMany", true), ("InvalidNumber", false), ("ZeroDivisor", false), ("OtherRoot", false), ("NoVariable", false), ("OutOfRange", false), ("Incompatible", false), ("NotReached", false), ("NoMark", false), ("InvalidCommand", false)] (eV 0)) (aCons (dIsC [("SyntaxProblem", false), ("TooMany", false), ("InvalidNumber", true), ("ZeroDivisor", false), ("OtherRoot", false), ("NoVariable", false), ("OutOfRange", false), ("Incompatible", false), ("NotReached", false), ("NoMark", false), ("InvalidCommand", false)] (eV 0)) (aNil)))) oLst) (gNm 1))
  (sSeq (sAsg (e2 (eV 1) (eA (aCons (dIsC [("SyntaxProblem", false), ("TooMany", false), ("InvalidNumber", false), ("ZeroDivisor", true), ("OtherRoot", false), ("NoVariable", false), ("OutOfRange", false), ("Incompatible", false), ("NotReached", false), ("NoMark", false), ("InvalidCommand", false)] (eV 0)) (aCons (dIsC [("SyntaxProblem", false), ("TooMany", false), ("InvalidNumber", false), ("ZeroDivisor", false), ("OtherRoot", true), ("NoVariable", false), ("OutOfRange", false), ("Incompatible", false), ("NotReached", false), ("NoMark", false), ("InvalidCommand", false)] (eV 0)) (aCons (dIsC [("SyntaxProblem", false), ("TooMany", false), ("InvalidNumber", false), ("ZeroDivisor", false), ("OtherRoot", false), ("NoVariable", true), ("OutOfRange", false), ("Incompatible", false), ("NotReached", false), ("NoMark", false), ("InvalidCommand", false)] (eV 0)) (aNil)))) oLst) dAdd) (gNm 1))
  (sSeq (sAsg (e2 (eV 1) (eA (aCons (dIsC [("SyntaxProblem", false), ("TooMany", false), ("InvalidNumber", false), ("ZeroDivisor", false), ("OtherRoot", false), ("NoVariable", false), ("OutOfRange", true), ("Incompatible", false), ("NotReached", false), ("NoMark", false), ("InvalidCommand", false)] (eV 0)) (aCons (dIsC [("SyntaxProblem", false), ("TooMany", false), ("InvalidNumber", false), ("ZeroDivisor", false), ("OtherRoot", false), ("NoVariable", false), ("OutOfRange", false), ("Incompatible", true), ("NotReached", false), ("NoMark", false), ("InvalidCommand", false)] (eV 0)) (aCons (dIsC [("SyntaxProblem", false), ("TooMany", false), ("InvalidNumber", false), ("ZeroDivisor", false), ("OtherRoot", false), ("NoVariable", false), ("OutOfRange", false), ("Incompatible", false), ("NotReached", true), ("NoMark", false), ("InvalidCommand", false)] (eV 0)) (aNil)))) oLst) dAdd) (gNm 1))
  (sSeq (sAsg (e2 (eV 1) (eA (aCons (dIsC [("SyntaxProblem", false), ("TooMany", false), ("InvalidNumber", false), ("ZeroDivisor", false), ("OtherRoot", false), ("NoVariable", false), ("OutOfRange", false), ("Incompatible", false), ("NotReached", false), ("NoMark", true), ("InvalidCommand", false)] (eV 0)) (aCons (dIsC [("SyntaxProblem", false), ("TooMany", false), ("InvalidNumber", false), ("ZeroDivisor", false), ("OtherRoot", false), ("NoVariable", false), ("OutOfRange", false), ("Incompatible", false), ("NotReached", false), ("NoMark", false), ("InvalidCommand", true)] (eV 0)) (aNil))) oLst) dAdd) (gNm 1))
  (sSeq (sIf (tOo (tBl (e2 (e1 (eV 1) dBcount) (eC (.int 1)) dNe)) (tNo (tTr (dIsC [("SyntaxProblem", true), ("TooMany", true), ("InvalidNumber", true), ("ZeroDivisor", true), ("OtherRoot", true), ("NoVariable", true), ("OutOfRange", true), ("Incompatible", true), ("NotReached", true), ("NoMark", true), ("InvalidCommand", true)] (eV 0))))) (sRt (eC (.str "odd"))) (sNx))
  (sSeq (sAsg (eA (aCons (eC (.str "syntax")) (aCons (eC (.str "many")) (aCons (eC (.str "number")) (aCons (eC (.str "zero")) (aCons (eC (.str "root")) (aCons (eC (.str "variable")) (aCons (eC (.str "range")) (aCons (eC (.str "differ")) (aCons (eC (.str "reached")) (aCons (eC (.str "mark")) (aCons (eC (.str "command")) (aNil)))))))))))) oLst) (gNm 2))
  (sRt (eIxN 2 (e1 (eV 1) dBindex))))))))
def m_law_error_kind : List DV → Option DV := bodyP 1 3 b_law_error_kind
theorem t_law_error_kind : ∀ ds d, m_law_error_kind ds = some d → bodyP 1 3 b_law_error_kind ds = some d := fun _ _ h => h
theorem kind1 (fs) : m_law_error_kind [.exc "SyntaxProblem" fs] = some (.str "syntax") := rfl
theorem kind2 (fs) : m_law_error_kind [.exc "TooMany" fs] = some (.str "many") := rfl
theorem kind3 (fs) : m_law_error_kind [.exc "InvalidNumber" fs] = some (.str "number") := rfl
theorem kind4 (fs) : m_law_error_kind [.exc "ZeroDivisor" fs] = some (.str "zero") := rfl
theorem kind5 (fs) : m_law_error_kind [.exc "OtherRoot" fs] = some (.str "root") := rfl
theorem kind6 (fs) : m_law_error_kind [.exc "NoVariable" fs] = some (.str "variable") := rfl
theorem kind7 (fs) : m_law_error_kind [.exc "OutOfRange" fs] = some (.str "range") := rfl
theorem kind8 (fs) : m_law_error_kind [.exc "Incompatible" fs] = some (.str "differ") := rfl
theorem kind9 (fs) : m_law_error_kind [.exc "NotReached" fs] = some (.str "reached") := rfl
theorem kind10 (fs) : m_law_error_kind [.exc "NoMark" fs] = some (.str "mark") := rfl
theorem kind11 (fs) : m_law_error_kind [.exc "InvalidCommand" fs] = some (.str "command") := rfl
def all6 : List Str := ["SyntaxProblem", "TooMany", "InvalidNumber", "ZeroDivisor", "OtherRoot", "NoVariable", "OutOfRange", "Incompatible", "NotReached", "NoMark", "InvalidCommand"]
def words6 : List Str := ["syntax", "many", "number", "zero", "root", "variable", "range", "differ", "reached", "mark", "command"]
def tab6 : List (Str × Bool) := [("SyntaxProblem", true), ("TooMany", true), ("InvalidNumber", true), ("ZeroDivisor", true), ("OtherRoot", true), ("NoVariable", true), ("OutOfRange", true), ("Incompatible", true), ("NotReached", true), ("NoMark", true), ("InvalidCommand", true)]
theorem seq_nx {a b : SF} {s s1 : S} (h : a s = some (.nx s1)) : sSeq a b s = b s1 := by
  unfold sSeq
  rw [h]
theorem dNe_txt {a b : Str} {r : Bool} (h1 : SeqAt.shaped (.str a) = true) (h2 : SeqAt.shaped (.str b) = true) (h3 : (PyData.str a).eqv (.str b) = r) : dNe (.str a) (.str b) = some (.bl (!r)) := by
  have e1 : toPy (.str a) = some (.str a) := rfl
  have e2 : toPy (.str b) = some (.str b) := rfl
  unfold dNe
  simp only [e1, e2, h1, h2, h3, Bool.and_self, if_true]
theorem ne_txt6 : ∀ w ∈ words6, dNe (.str w) (.str w) = some (.bl false) := by
  have : words6.all (fun w => SeqAt.shaped (.str w) && (PyData.str w).eqv (.str w)) = true := by decide +kernel
  intro w hw
  have h := List.all_eq_true.mp this w hw
  obtain ⟨h1, h2⟩ := Bool.and_eq_true_iff.mp h
  exact dNe_txt (r := true) h1 h1 h2
section
variable {a0 a2 a3 a4 a5 a6 a7 a8 a9 a10 : Option SV} {sp sp1 sp2 sp3 : Spl} {u1 u2 u3 : Int} {v : DV}
abbrev z11 (a0 a2 a3 a4 a5 a6 a7 a8 a9 a10 : Option SV) (sp : Spl) : S := ⟨[a0, some .spl, a2, a3, a4, a5, a6, a7, a8, a9, a10], sp⟩
theorem p1_ok {U : List DV → Spl → Option (DV × Spl)} (c1 : U [.int 1000] sp = some (.int u1, sp1)) (c2 : U [.int 1000] sp1 = some (.int u2, sp2)) (c3 : U [.int 1000] sp2 = some (.int u3, sp3)) :
    (sAsg (eL (lCp (iRg1 (aCons (eC (.int 3)) (aNil))) 10 (tY) (eS 1 (aCons (eC (.int 1000)) (aNil)) U))) (gLs 3 (gCo (gNm 2) (gCo (gNm 3) (gCo (gNm 4) (gNi)))))) (z11 a0 a2 a3 a4 a5 a6 a7 a8 a9 a10 sp) =
      some (.nx (z11 a0 (some (.dat (.int u1))) (some (.dat (.int u2))) (some (.dat (.int u3))) a5 a6 a7 a8 a9 none sp3)) := by
  have hr : rngD 0 (Int.toNat 3) = [.int (0 + ((0 : Nat) : Int)), .int (0 + ((1 : Nat) : Int)), .int (0 + ((2 : Nat) : Int))] := rfl
  have h12 : inR 3 = true := rfl
  have k0 : (0 : Nat) < sizeLine := by decide
  have k1 : (1 : Nat) < sizeLine := by decide
  have k2 : (2 : Nat) < sizeLine := by decide
  unfold z11
  simp only [sAsg, eL, lCp, iRg1, aCons, aNil, eC, h12, hr, cpN, tY, eS, c1, c2, c3, k0, k1, k2, gLs, gCo, gNm, gNi, List.length_cons, List.length_nil, Nat.reduceAdd, List.nil_append, List.cons_append, if_true, List.getElem?_cons_zero, List.getElem?_cons_succ, List.set_cons_succ, List.set_cons_zero]
theorem loop6 {EK : List DV → Option DV} : ∀ (ps : List (Str × Str × List (Str × Int))) (a8 a9 : Option SV), (∀ p ∈ ps, p.1 ∈ words6 ∧ EK [.exc p.2.1 p.2.2] = some (.str p.1) ∧ tab6.lookup p.2.1 = some true) →
    ∃ b8 b9, frN (ps.map fun p => .tup [.str p.1, .exc p.2.1 p.2.2]) (gTp 2 (gCo (gNm 8) (gCo (gNm 9) (gNi)))) (sIf (tOo (tBl (FD.e2 (eA (aCons (eV 9) (aNil)) EK) (eV 8) dNe)) (tNo (tTr (dIsC tab6 (eV 9))))) (sRt (eC (.bl false))) (sNx)) (z11 a0 a2 a3 a4 a5 a6 a7 a8 a9 a10 sp) =
      some (.nx (z11 a0 a2 a3 a4 a5 a6 a7 b8 b9 a10 sp))
  | [], a8, a9, _ => ⟨a8, a9, rfl⟩
  | (w, c, fs) :: ps, a8, a9, h => by
    obtain ⟨h1, h2, h3⟩ := h _ List.mem_cons_self
    obtain ⟨b8, b9, ih⟩ := loop6 ps (some (.dat (.str w))) (some (.dat (.exc c fs))) (fun p hp => h p (List.mem_cons_of_mem _ hp))
    refine ⟨b8, b9, ?_⟩
    have n := ne_txt6 w h1
    have tr : ∀ b, truD (.bl b) = some b := fun _ => rfl
    dsimp only at h2 h3
    generalize tab6 = TB at *
    have st : (sIf (tOo (tBl (FD.e2 (eA (aCons (eV 9) (aNil)) EK) (eV 8) dNe)) (tNo (tTr (dIsC TB (eV 9))))) (sRt (eC (.bl false))) (sNx)) (z11 a0 a2 a3 a4 a5 a6 a7 (some (.dat (.str w))) (some (.dat (.exc c fs))) a10 sp) = some (.nx (z11 a0 a2 a3 a4 a5 a6 a7 (some (.dat (.str w))) (some (.dat (.exc c fs))) a10 sp)) := by
      unfold z11
      simp only [sIf, tOo, tBl, tNo, tTr, FD.e2, eA, aCons, aNil, eV, dIsC, h2, h3, n, tr, sNx, Bool.not_true, List.getElem?_cons_zero, List.getElem?_cons_succ]
    rw [List.map_cons]
    generalize (sIf (tOo (tBl (FD.e2 (eA (aCons (eV 9) (aNil)) EK) (eV 8) dNe)) (tNo (tTr (dIsC TB (eV 9))))) (sRt (eC (.bl false))) (sNx)) = B at *
    unfold z11 at *
    simp only [frN, gTp, gCo, gNm, gNi, List.length_cons, List.length_nil, Nat.reduceAdd, if_true, List.set_cons_succ, List.set_cons_zero, st, ih]
end
def pairs6 (u1 u2 u3 : Int) : List (Str × Str × List (Str × Int)) := [("syntax", "SyntaxProblem", [("column", u2), ("line", u1)]), ("many", "TooMany", [("limit", u3)]), ("number", "InvalidNumber", []), ("zero", "ZeroDivisor", []), ("root", "OtherRoot", []), ("variable", "NoVariable", []), ("range", "OutOfRange", []), ("differ", "Incompatible", []), ("reached", "NotReached", []), ("mark", "NoMark", []), ("command", "InvalidCommand", [])]
def er10 (u1 u2 u3 : Int) : DV := .lst [.exc "SyntaxProblem" [("column", u2), ("line", u1)], .exc "TooMany" [("limit", u3)], .exc "InvalidNumber" [], .exc "ZeroDivisor" [], .exc "OtherRoot" [], .exc "NoVariable" [], .exc "OutOfRange" [], .exc "Incompatible" [], .exc "NotReached" [], .exc "NoMark" []]
def wo11 : DV := .lst (words6.map DV.str)
def er11 (u1 u2 u3 : Int) : DV := .lst [.exc "SyntaxProblem" [("column", u2), ("line", u1)], .exc "TooMany" [("limit", u3)], .exc "InvalidNumber" [], .exc "ZeroDivisor" [], .exc "OtherRoot" [], .exc "NoVariable" [], .exc "OutOfRange" [], .exc "Incompatible" [], .exc "NotReached" [], .exc "NoMark" [], .exc "InvalidCommand" []]
section
variable {a0 a2 a3 a4 a5 a6 a7 a8 a9 a10 : Option SV} {sp sp1 sp2 sp3 : Spl} {u1 u2 u3 : Int} {v : DV}
theorem p2_ok {C : List DV → Spl → Option (DV × Spl)} (c : C [.lst [.str "", .str "x", .str "not a number"]] sp = some (v, sp1)) :
    (sAsg (eS 1 (aCons (eA (aCons (eC (.str "")) (aCons (eC (.str "x")) (aCons (eC (.str "not a number")) (aNil)))) oLst) (aNil)) C) (gNm 5)) (z11 a0 a2 a3 a4 a5 a6 a7 a8 a9 a10 sp) = some (.nx (z11 a0 a2 a3 a4 (some (.dat v)) a6 a7 a8 a9 a10 sp1)) := by
  have k3 : (3 : Nat) ≤ sizeLine := by decide
  unfold z11
  simp only [sAsg, eS, eA, oLst, aCons, aNil, eC, k3, c, gNm, List.length_cons, List.length_nil, Nat.reduceAdd, if_true, List.getElem?_cons_zero, List.getElem?_cons_succ, List.set_cons_succ, List.set_cons_zero]
def er5 (u1 u2 u3 : Int) : DV := .lst [.exc "SyntaxProblem" [("column", u2), ("line", u1)], .exc "TooMany" [("limit", u3)], .exc "InvalidNumber" [], .exc "ZeroDivisor" [], .exc "OtherRoot" []]
theorem p3_ok (mk1 : dMk "SyntaxProblem" ["line", "column"] [.int u1, .int u2] = some (.exc "SyntaxProblem" [("column", u2), ("line", u1)])) (mk2 : dMk "TooMany" ["limit"] [.int u3] = some (.exc "TooMany" [("limit", u3)])) :
    ((sAsg (eA (aCons (eA (aCons (eV 2) (aCons (eV 3) (aNil))) (dMk "SyntaxProblem" ["line", "column"])) (aCons (eA (aCons (eV 4) (aNil)) (dMk "TooMany" ["limit"])) (aCons (eMk0 "InvalidNumber" (eV 5)) (aCons (eMk0 "ZeroDivisor" (eV 5)) (aCons (eMk0 "OtherRoot" (eV 5)) (aNil)))))) oLst) (gNm 6)) (z11 a0 (some (.dat (.int u1))) (some (.dat (.int u2))) (some (.dat (.int u3))) (some (.dat v)) a6 a7 a8 a9 a10 sp) =
      some (.nx (z11 a0 (some (.dat (.int u1))) (some (.dat (.int u2))) (some (.dat (.int u3))) (some (.dat v)) (some (.dat (er5 u1 u2 u3))) a7 a8 a9 a10 sp))) ∧
    ((sAsg (FD.e2 (eV 6) (eA (aCons (eMk0 "NoVariable" (eV 5)) (aCons (eMk0 "OutOfRange" (eV 5)) (aCons (eMk0 "Incompatible" (eV 5)) (aCons (eMk0 "NotReached" (eV 5)) (aCons (eMk0 "NoMark" (eV 5)) (aNil)))))) oLst) dAdd) (gNm 6)) (z11 a0 (some (.dat (.int u1))) (some (.dat (.int u2))) (some (.dat (.int u3))) (some (.dat v)) (some (.dat (er5 u1 u2 u3))) a7 a8 a9 a10 sp) =
      some (.nx (z11 a0 (some (.dat (.int u1))) (some (.dat (.int u2))) (some (.dat (.int u3))) (some (.dat v)) (some (.dat (er10 u1 u2 u3))) a7 a8 a9 a10 sp))) := by
  have k5 : (5 : Nat) ≤ sizeLine := by decide
  have ad : dAdd (er5 u1 u2 u3) (.lst [.exc "NoVariable" [], .exc "OutOfRange" [], .exc "Incompatible" [], .exc "NotReached" [], .exc "NoMark" []]) = some (er10 u1 u2 u3) := rfl
  constructor
  · unfold z11 er5
    generalize dMk = MK at *
    simp only [sAsg, eA, oLst, aCons, aNil, eV, eMk0, mk1, mk2, k5, gNm, List.length_cons, List.length_nil, Nat.reduceAdd, if_true, List.getElem?_cons_zero, List.getElem?_cons_succ, List.set_cons_succ, List.set_cons_zero]
  · generalize er5 u1 u2 u3 = E5 at *
    generalize er10 u1 u2 u3 = E10 at *
    unfold z11
    generalize dAdd = AD at *
    simp only [sAsg, FD.e2, eA, oLst, aCons, aNil, eV, eMk0, ad, k5, gNm, List.length_cons, List.length_nil, Nat.reduceAdd, if_true, List.getElem?_cons_zero, List.getElem?_cons_succ, List.set_cons_succ, List.set_cons_zero]
theorem p5_ok : (sAsg (eA (aCons (eC (.str "syntax")) (aCons (eC (.str "many")) (aCons (eC (.str "number")) (aCons (eC (.str "zero")) (aCons (eC (.str "root")) (aCons (eC (.str "variable")) (aCons (eC (.str "range")) (aCons (eC (.str "differ")) (aCons (eC (.str "reached")) (aCons (eC (.str "mark")) (aCons (eC (.str "command")) (aNil)))))))))))) oLst) (gNm 7)) (z11 a0 a2 a3 a4 a5 a6 a7 a8 a9 a10 sp) =
    some (.nx (z11 a0 a2 a3 a4 a5 a6 (some (.dat wo11)) a8 a9 a10 sp)) := by
  have k11 : (11 : Nat) ≤ sizeLine := by decide
  unfold z11 wo11 words6
  simp only [sAsg, eA, oLst, aCons, aNil, eC, k11, gNm, List.map_cons, List.map_nil, List.length_cons, List.length_nil, Nat.reduceAdd, if_true, List.getElem?_cons_zero, List.getElem?_cons_succ, List.set_cons_succ, List.set_cons_zero]
theorem p6_ok {EK : List DV → Option DV} {b8 b9 : Option SV} (lp : frN ((pairs6 u1 u2 u3).map fun p => .tup [.str p.1, .exc p.2.1 p.2.2]) (gTp 2 (gCo (gNm 8) (gCo (gNm 9) (gNi)))) (sIf (tOo (tBl (FD.e2 (eA (aCons (eV 9) (aNil)) EK) (eV 8) dNe)) (tNo (tTr (dIsC tab6 (eV 9))))) (sRt (eC (.bl false))) (sNx)) (z11 a0 a2 a3 a4 (some (.dat v)) (some (.dat (er10 u1 u2 u3))) (some (.dat wo11)) a8 a9 a10 sp) =
      some (.nx (z11 a0 a2 a3 a4 (some (.dat v)) (some (.dat (er10 u1 u2 u3))) (some (.dat wo11)) b8 b9 a10 sp))) :
    sFr (iZl (aCons (eV 7) (aCons (FD.e2 (eV 6) (eA (aCons (eMk0 "InvalidCommand" (eV 5)) (aNil)) oLst) dAdd) (aNil)))) (gTp 2 (gCo (gNm 8) (gCo (gNm 9) (gNi)))) (sIf (tOo (tBl (FD.e2 (eA (aCons (eV 9) (aNil)) EK) (eV 8) dNe)) (tNo (tTr (dIsC tab6 (eV 9))))) (sRt (eC (.bl false))) (sNx)) (z11 a0 a2 a3 a4 (some (.dat v)) (some (.dat (er10 u1 u2 u3))) (some (.dat wo11)) a8 a9 a10 sp) =
      some (.nx (z11 a0 a2 a3 a4 (some (.dat v)) (some (.dat (er10 u1 u2 u3))) (some (.dat wo11)) b8 b9 a10 sp)) := by
  have k1 : (1 : Nat) ≤ sizeLine := by decide
  have ad : dAdd (er10 u1 u2 u3) (.lst [.exc "InvalidCommand" []]) = some (er11 u1 u2 u3) := rfl
  have zp : iZl (aCons (eV 7) (aCons (FD.e2 (eV 6) (eA (aCons (eMk0 "InvalidCommand" (eV 5)) (aNil)) oLst) dAdd) (aNil))) (z11 a0 a2 a3 a4 (some (.dat v)) (some (.dat (er10 u1 u2 u3))) (some (.dat wo11)) a8 a9 a10 sp) = some ((pairs6 u1 u2 u3).map (fun p => .tup [.str p.1, .exc p.2.1 p.2.2]), z11 a0 a2 a3 a4 (some (.dat v)) (some (.dat (er10 u1 u2 u3))) (some (.dat wo11)) a8 a9 a10 sp) := by
    have e0 : (aCons (eV 7) (aCons (FD.e2 (eV 6) (eA (aCons (eMk0 "InvalidCommand" (eV 5)) (aNil)) oLst) dAdd) (aNil))) (z11 a0 a2 a3 a4 (some (.dat v)) (some (.dat (er10 u1 u2 u3))) (some (.dat wo11)) a8 a9 a10 sp) = some ([wo11, er11 u1 u2 u3], z11 a0 a2 a3 a4 (some (.dat v)) (some (.dat (er10 u1 u2 u3))) (some (.dat wo11)) a8 a9 a10 sp) := by
      generalize er10 u1 u2 u3 = E10 at *
      generalize er11 u1 u2 u3 = E11 at *
      generalize wo11 = WW at *
      unfold z11
      generalize dAdd = AD at *
      simp only [FD.e2, eA, oLst, aCons, aNil, eV, eMk0, ad, k1, List.length_cons, List.length_nil, Nat.reduceAdd, if_true, List.getElem?_cons_zero, List.getElem?_cons_succ]
    unfold iZl
    rw [e0]
    rfl
  generalize (pairs6 u1 u2 u3).map (fun p => DV.tup [.str p.1, .exc p.2.1 p.2.2]) = PP at *
  unfold sFr
  rw [zp]
  exact lp
theorem p7_ok {AL : List DV → Option DV} (al : AL [.lst [.int u1, .int u2, .int u3], .lst [.int u1, .int u2, .int u3]] = some (.bl true)) :
    (sRt (eA (aCons (eA (aCons (eFld ["SyntaxProblem"] "line" (eIxN 6 (eC (.int 0)))) (aCons (eFld ["SyntaxProblem"] "column" (eIxN 6 (eC (.int 0)))) (aCons (eFld ["TooMany"] "limit" (eIxN 6 (eC (.int 1)))) (aNil)))) oLst) (aCons (eA (aCons (eV 2) (aCons (eV 3) (aCons (eV 4) (aNil)))) oLst) (aNil))) AL)) (z11 a0 (some (.dat (.int u1))) (some (.dat (.int u2))) (some (.dat (.int u3))) a5 (some (.dat (er10 u1 u2 u3))) a7 a8 a9 a10 sp) =
      some (.rt (.bl true) (z11 a0 (some (.dat (.int u1))) (some (.dat (.int u2))) (some (.dat (.int u3))) a5 (some (.dat (er10 u1 u2 u3))) a7 a8 a9 a10 sp)) := by
  have k3 : (3 : Nat) ≤ sizeLine := by decide
  have i0 : dIx (er10 u1 u2 u3) (.int 0) = some (.exc "SyntaxProblem" [("column", u2), ("line", u1)]) := rfl
  have i1 : dIx (er10 u1 u2 u3) (.int 1) = some (.exc "TooMany" [("limit", u3)]) := rfl
  have f1 : ("SyntaxProblem" : Str) ∈ (["SyntaxProblem"] : List Str) := by decide
  have f2 : ("TooMany" : Str) ∈ (["TooMany"] : List Str) := by decide
  have l1 : ([("column", u2), ("line", u1)] : List (Str × Int)).lookup ("line" : Str) = some u1 := rfl
  have l2 : ([("column", u2), ("line", u1)] : List (Str × Int)).lookup ("column" : Str) = some u2 := rfl
  have l3 : ([("limit", u3)] : List (Str × Int)).lookup ("limit" : Str) = some u3 := rfl
  generalize er10 u1 u2 u3 = E10 at *
  unfold z11
  simp only [sRt, eFld, eIxN, FD.peek, eA, oLst, aCons, aNil, eV, eC, i0, i1, f1, f2, l1, l2, l3, al, k3, List.length_cons, List.length_nil, Nat.reduceAdd, if_true, List.getElem?_cons_zero, List.getElem?_cons_succ]
end
def b_law : SF :=
  sSeq (sAsg (eL (lCp (iRg1 (aCons (eC (.int 3)) (aNil))) 10 (tY) (eS 1 (aCons (eC (.int 1000)) (aNil)) m_law_upto))) (gLs 3 (gCo (gNm 2) (gCo (gNm 3) (gCo (gNm 4) (gNi))))))
  (sSeq (sAsg (eS 1 (aCons (eA (aCons (eC (.str "")) (aCons (eC (.str "x")) (aCons (eC (.str "not a number")) (aNil)))) oLst) (aNil)) m_law_choice) (gNm 5))
  (sSeq (sAsg (eA (aCons (eA (aCons (eV 2) (aCons (eV 3) (aNil))) (dMk "SyntaxProblem" ["line", "column"])) (aCons (eA (aCons (eV 4) (aNil)) (dMk "TooMany" ["limit"])) (aCons (eMk0 "InvalidNumber" (eV 5)) (aCons (eMk0 "ZeroDivisor" (eV 5)) (aCons (eMk0 "OtherRoot" (eV 5)) (aNil)))))) oLst) (gNm 6))
  (sSeq (sAsg (e2 (eV 6) (eA (aCons (eMk0 "NoVariable" (eV 5)) (aCons (eMk0 "OutOfRange" (eV 5)) (aCons (eMk0 "Incompatible" (eV 5)) (aCons (eMk0 "NotReached" (eV 5)) (aCons (eMk0 "NoMark" (eV 5)) (aNil)))))) oLst) dAdd) (gNm 6))
  (sSeq (sAsg (eA (aCons (eC (.str "syntax")) (aCons (eC (.str "many")) (aCons (eC (.str "number")) (aCons (eC (.str "zero")) (aCons (eC (.str "root")) (aCons (eC (.str "variable")) (aCons (eC (.str "range")) (aCons (eC (.str "differ")) (aCons (eC (.str "reached")) (aCons (eC (.str "mark")) (aCons (eC (.str "command")) (aNil)))))))))))) oLst) (gNm 7))
  (sSeq (sFr (iZl (aCons (eV 7) (aCons (e2 (eV 6) (eA (aCons (eMk0 "InvalidCommand" (eV 5)) (aNil)) oLst) dAdd) (aNil)))) (gTp 2 (gCo (gNm 8) (gCo (gNm 9) (gNi)))) (sIf (tOo (tBl (e2 (eA (aCons (eV 9) (aNil)) m_law_error_kind) (eV 8) dNe)) (tNo (tTr (dIsC [("SyntaxProblem", true), ("TooMany", true), ("InvalidNumber", true), ("ZeroDivisor", true), ("OtherRoot", true), ("NoVariable", true), ("OutOfRange", true), ("Incompatible", true), ("NotReached", true), ("NoMark", true), ("InvalidCommand", true)] (eV 9))))) (sRt (eC (.bl false))) (sNx)))
  (sRt (eA (aCons (eA (aCons (eFld ["SyntaxProblem"] "line" (eIxN 6 (eC (.int 0)))) (aCons (eFld ["SyntaxProblem"] "column" (eIxN 6 (eC (.int 0)))) (aCons (eFld ["TooMany"] "limit" (eIxN 6 (eC (.int 1)))) (aNil)))) oLst) (aCons (eA (aCons (eV 2) (aCons (eV 3) (aCons (eV 4) (aNil)))) oLst) (aNil))) m_law_alike)))))))
theorem law_ok (ns : List Int) (h : ns.length ≤ 63) : ∃ nums s', sf ns = some nums ∧ b_law ⟨some (.dat (.scr ns)) :: some .spl :: List.replicate (11 - 2) none, ⟨nums, 0, 0, 0⟩⟩ = some (.rt (.bl true) s') := by
  have hp : Pl 0 ⟨sfN ns, 0, 0, 0⟩ := Nat.le_refl 0
  generalize hsp : (⟨sfN ns, 0, 0, 0⟩ : Spl) = sp0 at *
  have c1 : m_law_upto [.int 1000] sp0 = _ := c_upto hp (by decide) (lt_up (a := 20) (by decide)) (by omega)
  have v1 := upV_lt (s := sp0) (b := 1000) (by decide)
  have p1 := pl_up (b := 1000) hp
  generalize upS sp0 1000 = sp1 at *
  generalize upV sp0 1000 = u1 at *
  have c2 : m_law_upto [.int 1000] sp1 = _ := c_upto p1 (by decide) (lt_up (a := 20) (by decide)) (by omega)
  have v2 := upV_lt (s := sp1) (b := 1000) (by decide)
  have p2 := pl_up (b := 1000) p1
  generalize upS sp1 1000 = sp2 at *
  generalize upV sp1 1000 = u2 at *
  have c3 : m_law_upto [.int 1000] sp2 = _ := c_upto p2 (by decide) (lt_up (a := 20) (by decide)) (by omega)
  have v3 := upV_lt (s := sp2) (b := 1000) (by decide)
  have p3 := pl_up (b := 1000) p2
  generalize upS sp2 1000 = sp3 at *
  generalize upV sp2 1000 = u3 at *
  obtain ⟨v, c4, hv⟩ := choice_at [.str "", .str "x", .str "not a number"] sp3 3 p3 (by omega) (by simp) (by simp)
  have c4' : m_law_choice [.lst [.str "", .str "x", .str "not a number"]] sp3 = some (v, upS sp3 3) := c4
  clear c4 hv
  have lg : ∀ u : Int, 0 ≤ u ∧ u < 1000 → u.natAbs.log2 < 1920 := fun u hu => by
    have : u.natAbs < 2 ^ 10 := by omega
    have := log2_lt_of this
    omega
  have mk1 : dMk "SyntaxProblem" ["line", "column"] [.int u1, .int u2] = some (.exc "SyntaxProblem" [("column", u2), ("line", u1)]) := by
    refine if_pos ⟨rfl, by show (2 : Nat) ≤ 1000; decide, fun i hi => ?_⟩
    have hi : i ∈ [u1, u2] := hi
    simp only [List.mem_cons, List.not_mem_nil, or_false] at hi
    rcases hi with e | e <;> rw [e] <;> apply lg <;> assumption
  have mk2 : dMk "TooMany" ["limit"] [.int u3] = some (.exc "TooMany" [("limit", u3)]) := by
    refine if_pos ⟨rfl, by show (1 : Nat) ≤ 1000; decide, fun i hi => ?_⟩
    have hi : i ∈ [u3] := hi
    simp only [List.mem_cons, List.not_mem_nil, or_false] at hi
    rw [hi]
    exact lg _ v3
  have al : m_law_alike [.lst [.int u1, .int u2, .int u3], .lst [.int u1, .int u2, .int u3]] = some (.bl true) := by
    refine alike_of (p := .list [.int u1, .int u2, .int u3]) rfl ?_ rfl (by simp [PyData.depth, PyData.depthAll]) (by simp [wid, wids])
    have z1 : u1.natAbs < 2 ^ 10 := by omega
    have z2 : u2.natAbs < 2 ^ 10 := by omega
    have z3 : u3.natAbs < 2 ^ 10 := by omega
    simp only [okW, okWs, log_sz z1, log_sz z2, log_sz z3, Bool.and_self]
  have l6 : ∀ p ∈ pairs6 u1 u2 u3, p.1 ∈ words6 ∧ m_law_error_kind [.exc p.2.1 p.2.2] = some (.str p.1) ∧ tab6.lookup p.2.1 = some true := by
    unfold pairs6
    intro p hp
    simp only [List.mem_cons, List.not_mem_nil, or_false] at hp
    rcases hp with e | e | e | e | e | e | e | e | e | e | e <;> subst e
    · exact ⟨(by decide : ("syntax" : Str) ∈ words6), kind1 _, (by decide : tab6.lookup ("SyntaxProblem" : Str) = some true)⟩
    · exact ⟨(by decide : ("many" : Str) ∈ words6), kind2 _, (by decide : tab6.lookup ("TooMany" : Str) = some true)⟩
    · exact ⟨by decide, kind3 _, by decide⟩
    · exact ⟨by decide, kind4 _, by decide⟩
    · exact ⟨by decide, kind5 _, by decide⟩
    · exact ⟨by decide, kind6 _, by decide⟩
    · exact ⟨by decide, kind7 _, by decide⟩
    · exact ⟨by decide, kind8 _, by decide⟩
    · exact ⟨by decide, kind9 _, by decide⟩
    · exact ⟨by decide, kind10 _, by decide⟩
    · exact ⟨by decide, kind11 _, by decide⟩
  obtain ⟨b8, b9, lp⟩ := loop6 (a0 := some (.dat (.scr ns))) (a2 := some (.dat (.int u1))) (a3 := some (.dat (.int u2))) (a4 := some (.dat (.int u3))) (a5 := some (.dat v)) (a6 := some (.dat (er10 u1 u2 u3))) (a7 := some (.dat wo11)) (a10 := none) (sp := upS sp3 3) (EK := m_law_error_kind) (pairs6 u1 u2 u3) none none l6
  have q1 := p1_ok (a0 := some (.dat (.scr ns))) (a2 := none) (a3 := none) (a4 := none) (a5 := none) (a6 := none) (a7 := none) (a8 := none) (a9 := none) (a10 := none) c1 c2 c3
  have q2 := p2_ok (a0 := some (.dat (.scr ns))) (a2 := some (.dat (.int u1))) (a3 := some (.dat (.int u2))) (a4 := some (.dat (.int u3))) (a5 := none) (a6 := none) (a7 := none) (a8 := none) (a9 := none) (a10 := none) c4'
  have q3 := p3_ok (a0 := some (.dat (.scr ns))) (a6 := none) (a7 := none) (a8 := none) (a9 := none) (a10 := none) (sp := upS sp3 3) (v := v) mk1 mk2
  have q5 := p5_ok (a0 := some (.dat (.scr ns))) (a2 := some (.dat (.int u1))) (a3 := some (.dat (.int u2))) (a4 := some (.dat (.int u3))) (a5 := some (.dat v)) (a6 := some (.dat (er10 u1 u2 u3))) (a7 := none) (a8 := none) (a9 := none) (a10 := none) (sp := upS sp3 3)
  have q6 := p6_ok lp
  have q7 := p7_ok (a0 := some (.dat (.scr ns))) (a5 := some (.dat v)) (a7 := some (.dat wo11)) (a8 := b8) (a9 := b9) (a10 := none) (sp := upS sp3 3) al
  have R : b_law (z11 (some (.dat (.scr ns))) none none none none none none none none none sp0) = _ := (seq_nx q1).trans ((seq_nx q2).trans ((seq_nx q3.1).trans ((seq_nx q3.2).trans ((seq_nx q5).trans ((seq_nx q6).trans q7)))))
  rw [← hsp] at R
  exact ⟨sfN ns, _, if_pos h, R⟩
end T4.L6

set_option maxRecDepth 100000
set_option maxHeartbeats 0
namespace T4.L6
open PySem PySem.Spec PyProof.Rows L2 FD
def topS (i : Nat) : Stmt := PySem.Challenge.pw_twospeeds_k06_errors.main.body.getD i (.Pass ⟨0, 0, 0, 0⟩)
abbrev st_law_stirred : Stmt := topS 14
theorem sc_law_stirred : FnScope ["cell", "place", "modulus", "value", "turn"] ["cell", "place"] (defScope st_law_stirred) := ⟨rfl, rfl, rfl, by decide +kernel, rfl, by decide +kernel, by decide +kernel⟩
abbrev st_law_spool_of : Stmt := topS 15
theorem sc_law_spool_of : FnScope ["script", "cell", "numbers", "place"] ["script"] (defScope st_law_spool_of) := ⟨rfl, rfl, rfl, by decide +kernel, rfl, by decide +kernel, by decide +kernel⟩
abbrev st_law_upto : Stmt := topS 16
theorem sc_law_upto : FnScope ["spool", "bound", "numbers", "place", "cell", "found"] ["spool", "bound"] (defScope st_law_upto) := ⟨rfl, rfl, rfl, by decide +kernel, rfl, by decide +kernel, by decide +kernel⟩
abbrev st_law_choice : Stmt := topS 17
theorem sc_law_choice : FnScope ["spool", "items"] ["spool", "items"] (defScope st_law_choice) := ⟨rfl, rfl, rfl, by decide +kernel, rfl, by decide +kernel, by decide +kernel⟩
abbrev st_law_alike : Stmt := topS 18
theorem sc_law_alike : FnScope ["one", "other"] ["one", "other"] (defScope st_law_alike) := ⟨rfl, rfl, rfl, by decide +kernel, rfl, by decide +kernel, by decide +kernel⟩
abbrev st_law_error_kind : Stmt := topS 19
theorem sc_law_error_kind : FnScope ["error", "found", "words"] ["error"] (defScope st_law_error_kind) := ⟨rfl, rfl, rfl, by decide +kernel, rfl, by decide +kernel, by decide +kernel⟩
abbrev st_law : Stmt := topS 20
theorem sc_law : FnScope ["script", "spool", "line", "spot", "limit", "text", "errors", "words", "word", "error", "turn"] ["script"] (defScope st_law) := ⟨rfl, rfl, rfl, by decide +kernel, rfl, by decide +kernel, by decide +kernel⟩
abbrev st_init_SyntaxProblem : Stmt := inS (topS 2) 0
theorem sc_init_SyntaxProblem : SuScope ["self", "line", "column"] ["self", "line", "column"] (defScope st_init_SyntaxProblem) := ⟨rfl, rfl, rfl, by decide +kernel, rfl, by decide +kernel, by decide +kernel, fun y h => by
  have h2 : (y, NameKind.free) ∈ (defScope st_init_SyntaxProblem).names := PySem.mem_of_lookup h
  have h3 : ∀ z ∈ (defScope st_init_SyntaxProblem).names, z.2 = .free → z.1 = "__class__" := by decide +kernel
  exact h3 _ h2 rfl⟩
def d_init_SyntaxProblem : He.DefD := ⟨("SyntaxProblem", some "__init__"), "__init__", "SyntaxProblem.__init__", defArgs st_init_SyntaxProblem, defBody st_init_SyntaxProblem, defScope st_init_SyntaxProblem, [], []⟩
abbrev st_init_TooMany : Stmt := inS (topS 3) 0
theorem sc_init_TooMany : SuScope ["self", "limit"] ["self", "limit"] (defScope st_init_TooMany) := ⟨rfl, rfl, rfl, by decide +kernel, rfl, by decide +kernel, by decide +kernel, fun y h => by
  have h2 : (y, NameKind.free) ∈ (defScope st_init_TooMany).names := PySem.mem_of_lookup h
  have h3 : ∀ z ∈ (defScope st_init_TooMany).names, z.2 = .free → z.1 = "__class__" := by decide +kernel
  exact h3 _ h2 rfl⟩
def d_init_TooMany : He.DefD := ⟨("TooMany", some "__init__"), "__init__", "TooMany.__init__", defArgs st_init_TooMany, defBody st_init_TooMany, defScope st_init_TooMany, [], []⟩
theorem mk_init_SyntaxProblem {P : Program} {w : World} {K : PySem.W.Frag} {mg : Str → Option Value} {base : Heap} (S : SuI P K "SyntaxProblem" d_init_SyntaxProblem ["line", "column"]) (ms : mg "super" = none) :
    ∃ fd, FnOk P w K mg base CX0 1 (He.fAd K ("SyntaxProblem", some "__init__")) fd ["self", "line", "column"] (spI (He.ga K "SyntaxProblem") ["line", "column"]) ∧ Binds K fd ["self", "line", "column"] [] :=
  init2 (k := 0) (ff := aCons (eJs [eC (.str "problem at line "), FD.e1 (eV 1) dFmt, eC (.str ", column "), FD.e1 (eV 2) dFmt]) aNil) S rfl sc_init_SyntaxProblem (by decide +kernel) (by decide +kernel) (by decide +kernel) (by decide +kernel) (by decide +kernel) ms ⟨_, rfl, rfl⟩
    (fun C f cd cc A outer s H E => fa_cons (fe_js (fj_cons (fe_str) (fj_cons (fe_fmt (fv 1)) (fj_cons (fe_str) (fj_cons (fe_fmt (fv 2)) (fj_nil)))))) fa_nil) (fun v i j hi hj => by
      obtain ⟨x, hx⟩ := js4_ok (a := "problem at line ") (b := ", column ") (f := eV 1) (g := eV 2) (s := ⟨[some (.dat (.raw v)), some (.dat (.int i)), some (.dat (.int j))], spl0⟩) (by decide) (by decide) hi hj rfl rfl
      exact ⟨.str x, _, by simp only [aCons, aNil, hx]; rfl⟩)
    (fun _ _ _ _ => rfl) (fun _ _ _ _ => ⟨_, rfl⟩) (fun _ _ _ _ => rfl) (fun _ _ _ _ => rfl) (fun _ _ _ _ => rfl) (fun _ _ _ _ => rfl) (by decide) (by decide) (by decide) (by decide) (fun _ _ _ _ _ _ _ us hl => match us, hl with | [_, _, _], _ => rfl)
theorem mk_init_TooMany {P : Program} {w : World} {K : PySem.W.Frag} {mg : Str → Option Value} {base : Heap} (S : SuI P K "TooMany" d_init_TooMany ["limit"]) (ms : mg "super" = none) :
    ∃ fd, FnOk P w K mg base CX0 1 (He.fAd K ("TooMany", some "__init__")) fd ["self", "limit"] (spI (He.ga K "TooMany") ["limit"]) ∧ Binds K fd ["self", "limit"] [] :=
  init1 (k := 0) (ff := aCons (eJs [eC (.str "more than "), FD.e1 (eV 1) dFmt]) aNil) S rfl sc_init_TooMany (by decide +kernel) (by decide +kernel) (by decide +kernel) (by decide +kernel) ms ⟨_, rfl, rfl⟩
    (fun C f cd cc A outer s H E => fa_cons (fe_js (fj_cons (fe_str) (fj_cons (fe_fmt (fv 1)) (fj_nil)))) fa_nil) (fun v i hi => by
      obtain ⟨x, hx⟩ := js2_ok (a := "more than ") (f := eV 1) (s := ⟨[some (.dat (.raw v)), some (.dat (.int i))], spl0⟩) (by decide) hi rfl
      exact ⟨.str x, _, by simp only [aCons, aNil, hx]; rfl⟩)
    (fun _ _ _ _ => rfl) (fun _ _ _ _ => ⟨_, rfl⟩) (fun _ _ _ _ => rfl) (fun _ _ _ _ => rfl) (fun _ _ _ _ => rfl) (by decide) (by decide) (fun _ _ _ _ _ _ _ us hl => match us, hl with | [_, _], _ => rfl)
section
variable {P : Program} {w : World} {K : PySem.W.Frag} {mg : Str → Option Value} {base : Heap} {f : Addr} {fd : FuncData}
theorem ok0_law_stirred (F : FunD K "_law_stirred" "_law_stirred" (defArgs st_law_stirred) (defBody st_law_stirred) (defScope st_law_stirred) [] [] f fd) (m_range : mg "range" = none) : FnG P w K mg base CX0 1 f fd ["cell", "place"] (spP K (bodyP 2 5 b_law_stirred)) :=
  fn_pure (k := 0) F sc_law_stirred fun C cdv A outer s H E hsp hr =>
    fs_cons (fs_set 2 (fe_int) sc_law_stirred.nd)
    (fs_cons (fs_set 3 (fe_mod (fe_add (fe_add (fe_mul (fv 0) (fe_int)) (fe_mul (fv 1) (fe_int))) (fe_int)) (fv 2)) sc_law_stirred.nd)
    (fs_cons (fs_for PassesOwn.never rfl (fi_range1 m_range (fa_cons (fe_int) (fa_nil))) (fg_name 4 sc_law_stirred.nd) (fs_one (fs_set 3 (fe_mod (fe_add (fe_add (fe_add (fe_mul (fv 3) (fv 3)) (fe_mul (fe_int) (fv 3))) (fe_mul (fe_int) (fv 4))) (fv 1)) (fv 2)) sc_law_stirred.nd)))
    (fs_one (fs_ret (fe_add (fe_mul (fv 3) (fv 2)) (fe_mod (fe_add (fe_mul (fv 3) (fe_int)) (fv 1)) (fv 2)))))))
theorem ok0_law_spool_of (F : FunD K "_law_spool_of" "_law_spool_of" (defArgs st_law_spool_of) (defBody st_law_spool_of) (defScope st_law_spool_of) [] [] f fd) (m_abs : mg "abs" = none) (m_enumerate : mg "enumerate" = none) : FnG P w K mg base CX0 1 f fd ["script"] (spN K (bodyN 1 4 b1_law_spool_of b2_law_spool_of b3_law_spool_of)) :=
  fn_new (k := 0) F sc_law_spool_of rfl fun C cdv A outer s H E hr =>
    ⟨fs_lco 2 1 rfl sc_law_spool_of.nd (blkOk_by (N := ["script", "cell", "numbers", "place"]) (sc := defScope st_law_spool_of) (by decide +kernel)) (fi_list (fe_sln 0 (fo_none) (fo_some (fe_int)))) (fun _ _ _ _ _ => pg_name (i := 1) sc_law_spool_of.nd rfl (Or.inl rfl)) (fun _ _ _ _ _ _ => fe_abs m_abs (fa_cons (fv 1) (fa_nil))),
    fs_for PassesOwn.never rfl (fi_enum m_enumerate (fe_sln 0 (fo_some (fe_int)) (fo_some (fe_int)))) (fg_tup rfl (fgs_cons (fg_name 3 sc_law_spool_of.nd) (fgs_cons (fg_name 1 sc_law_spool_of.nd) (fgs_nil)))) (fs_one (fs_put 2 (fe_add (fe_ixn 2 (fe_mod (fv 3) (fe_int))) (fe_abs m_abs (fa_cons (fv 1) (fa_nil)))) (fe_mod (fv 3) (fe_int)))),
    fl_lst (fa_cons (fv 2) (fa_cons (fe_int) (fa_cons (fe_int) (fa_cons (fe_int) (fa_nil)))))⟩
theorem ok0_law_upto (F : FunD K "_law_upto" "_law_upto" (defArgs st_law_upto) (defBody st_law_upto) (defScope st_law_upto) [] [] f fd) (D_law_stirred : DefOk P w K mg base 1 "_law_stirred" ["cell", "place"] (spP K m_law_stirred)) (m_len : mg "len" = none) : FnG P w K mg base CX0 2 f fd ["spool", "bound"] (spS K (bodyS 2 6 b_law_upto)) :=
  fn_spool (k := 1) F sc_law_upto fun C cdv A outer s H E hr =>
    fs_cons (fs_if (ft_lt (fe_sp 0) (fv 1)) (fs_cons (fs_par 2 3 (fa_cons (fe_sp 0) (fa_cons (fe_sp 0) (fa_nil))) rfl sc_law_upto.nd)
    (fs_cons (fs_set 4 (fe_if (ft_ne hr.units (fv 2) (fe_lst (fa_nil))) (fe_ixn 2 (fe_mod (fv 3) (fe_len m_len (fa_cons (fv 2) (fa_nil))))) (fe_int)) sc_law_upto.nd)
    (fs_cons (fs_if ((fw_or (ft_ge (fv 3) (fe_len m_len (fa_cons (fv 2) (fa_nil)))) (fw_or1 (ft_lt (fv 4) (fe_pow (fe_int) (fe_int))))).ft) (fs_one (fs_set 4 (fe_def D_law_stirred hr (by decide) (fa_cons (fe_mod (fv 4) (fe_int)) (fa_cons (fv 3) (fa_nil)))) sc_law_upto.nd)) (fs_nil))
    (fs_cons (fs_sp 0 (fe_add (fv 3) (fe_int)))
    (fs_cons (fs_sp 0 (fv 4))
    (fs_one (fs_sp 0 (fv 4)))))))) (fs_nil))
    (fs_cons (fs_set 5 (fe_mod (fe_sp 0) (fv 1)) sc_law_upto.nd)
    (fs_cons (fs_sp 0 (fe_fdiv (fe_sp 0) (fv 1)))
    (fs_cons (fs_sp 0 (fe_fdiv (fe_sp 0) (fv 1)))
    (fs_one (fs_ret (fv 5))))))
theorem ok0_law_choice (F : FunD K "_law_choice" "_law_choice" (defArgs st_law_choice) (defBody st_law_choice) (defScope st_law_choice) [] [] f fd) (D_law_upto : DefOk P w K mg base 2 "_law_upto" ["spool", "bound"] (spS K m_law_upto)) (m_len : mg "len" = none) : FnG P w K mg base CX0 3 f fd ["spool", "items"] (spS K (bodyS 2 2 b_law_choice)) :=
  fn_spool (k := 2) F sc_law_choice fun C cdv A outer s H E hr =>
    fs_one (fs_ret (fe_ixn 1 (fe_defS 0 D_law_upto hr (by decide) (fa_cons (fe_len m_len (fa_cons (fv 1) (fa_nil))) (fa_nil)))))
theorem ok0_law_alike (F : FunD K "_law_alike" "_law_alike" (defArgs st_law_alike) (defBody st_law_alike) (defScope st_law_alike) [] [] f fd) (xdig : digB K = true) (m_repr : mg "repr" = none) : FnG P w K mg base CX0 1 f fd ["one", "other"] (spP K (bodyP 2 2 b_law_alike)) :=
  fn_pure (k := 0) F sc_law_alike fun C cdv A outer s H E hsp hr =>
    fs_one (fs_ret (fe_eq hr.units (fe_reprW hr m_repr xdig (fa_cons (fv 0) (fa_nil))) (fe_reprW hr m_repr xdig (fa_cons (fv 1) (fa_nil)))))
theorem ok0_law_error_kind (F : FunD K "_law_error_kind" "_law_error_kind" (defArgs st_law_error_kind) (defBody st_law_error_kind) (defScope st_law_error_kind) [] [] f fd) (x_ValueError : mg "ValueError" = none ∧ ∀ k ∈ ([("SyntaxProblem", true), ("TooMany", true), ("InvalidNumber", true), ("ZeroDivisor", true), ("OtherRoot", true), ("NoVariable", true), ("OutOfRange", true), ("Incompatible", true), ("NotReached", true), ("NoMark", true), ("InvalidCommand", true)] : List (Str × Bool)), excB k.1 K = true ∧ isaT k.1 "ValueError" k.2 K = true) (x_InvalidCommand : mg "InvalidCommand" = some (.ref (He.ga K "InvalidCommand")) ∧ ∀ k ∈ ([("SyntaxProblem", false), ("TooMany", false), ("InvalidNumber", false), ("ZeroDivisor", false), ("OtherRoot", false), ("NoVariable", false), ("OutOfRange", false), ("Incompatible", false), ("NotReached", false), ("NoMark", false), ("InvalidCommand", true)] : List (Str × Bool)), excB k.1 K = true ∧ isaB k.1 "InvalidCommand" k.2 K = true) (x_NoMark : mg "NoMark" = some (.ref (He.ga K "NoMark")) ∧ ∀ k ∈ ([("SyntaxProblem", false), ("TooMany", false), ("InvalidNumber", false), ("ZeroDivisor", false), ("OtherRoot", false), ("NoVariable", false), ("OutOfRange", false), ("Incompatible", false), ("NotReached", false), ("NoMark", true), ("InvalidCommand", false)] : List (Str × Bool)), excB k.1 K = true ∧ isaB k.1 "NoMark" k.2 K = true) (x_NotReached : mg "NotReached" = some (.ref (He.ga K "NotReached")) ∧ ∀ k ∈ ([("SyntaxProblem", false), ("TooMany", false), ("InvalidNumber", false), ("ZeroDivisor", false), ("OtherRoot", false), ("NoVariable", false), ("OutOfRange", false), ("Incompatible", false), ("NotReached", true), ("NoMark", false), ("InvalidCommand", false)] : List (Str × Bool)), excB k.1 K = true ∧ isaB k.1 "NotReached" k.2 K = true) (x_Incompatible : mg "Incompatible" = some (.ref (He.ga K "Incompatible")) ∧ ∀ k ∈ ([("SyntaxProblem", false), ("TooMany", false), ("InvalidNumber", false), ("ZeroDivisor", false), ("OtherRoot", false), ("NoVariable", false), ("OutOfRange", false), ("Incompatible", true), ("NotReached", false), ("NoMark", false), ("InvalidCommand", false)] : List (Str × Bool)), excB k.1 K = true ∧ isaB k.1 "Incompatible" k.2 K = true) (x_OutOfRange : mg "OutOfRange" = some (.ref (He.ga K "OutOfRange")) ∧ ∀ k ∈ ([("SyntaxProblem", false), ("TooMany", false), ("InvalidNumber", false), ("ZeroDivisor", false), ("OtherRoot", false), ("NoVariable", false), ("OutOfRange", true), ("Incompatible", false), ("NotReached", false), ("NoMark", false), ("InvalidCommand", false)] : List (Str × Bool)), excB k.1 K = true ∧ isaB k.1 "OutOfRange" k.2 K = true) (x_NoVariable : mg "NoVariable" = some (.ref (He.ga K "NoVariable")) ∧ ∀ k ∈ ([("SyntaxProblem", false), ("TooMany", false), ("InvalidNumber", false), ("ZeroDivisor", false), ("OtherRoot", false), ("NoVariable", true), ("OutOfRange", false), ("Incompatible", false), ("NotReached", false), ("NoMark", false), ("InvalidCommand", false)] : List (Str × Bool)), excB k.1 K = true ∧ isaB k.1 "NoVariable" k.2 K = true) (x_OtherRoot : mg "OtherRoot" = some (.ref (He.ga K "OtherRoot")) ∧ ∀ k ∈ ([("SyntaxProblem", false), ("TooMany", false), ("InvalidNumber", false), ("ZeroDivisor", false), ("OtherRoot", true), ("NoVariable", false), ("OutOfRange", false), ("Incompatible", false), ("NotReached", false), ("NoMark", false), ("InvalidCommand", false)] : List (Str × Bool)), excB k.1 K = true ∧ isaB k.1 "OtherRoot" k.2 K = true) (x_ZeroDivisor : mg "ZeroDivisor" = some (.ref (He.ga K "ZeroDivisor")) ∧ ∀ k ∈ ([("SyntaxProblem", false), ("TooMany", false), ("InvalidNumber", false), ("ZeroDivisor", true), ("OtherRoot", false), ("NoVariable", false), ("OutOfRange", false), ("Incompatible", false), ("NotReached", false), ("NoMark", false), ("InvalidCommand", false)] : List (Str × Bool)), excB k.1 K = true ∧ isaB k.1 "ZeroDivisor" k.2 K = true) (x_InvalidNumber : mg "InvalidNumber" = some (.ref (He.ga K "InvalidNumber")) ∧ ∀ k ∈ ([("SyntaxProblem", false), ("TooMany", false), ("InvalidNumber", true), ("ZeroDivisor", false), ("OtherRoot", false), ("NoVariable", false), ("OutOfRange", false), ("Incompatible", false), ("NotReached", false), ("NoMark", false), ("InvalidCommand", false)] : List (Str × Bool)), excB k.1 K = true ∧ isaB k.1 "InvalidNumber" k.2 K = true) (x_TooMany : mg "TooMany" = some (.ref (He.ga K "TooMany")) ∧ ∀ k ∈ ([("SyntaxProblem", false), ("TooMany", true), ("InvalidNumber", false), ("ZeroDivisor", false), ("OtherRoot", false), ("NoVariable", false), ("OutOfRange", false), ("Incompatible", false), ("NotReached", false), ("NoMark", false), ("InvalidCommand", false)] : List (Str × Bool)), excB k.1 K = true ∧ isaB k.1 "TooMany" k.2 K = true) (x_SyntaxProblem : mg "SyntaxProblem" = some (.ref (He.ga K "SyntaxProblem")) ∧ ∀ k ∈ ([("SyntaxProblem", true), ("TooMany", false), ("InvalidNumber", false), ("ZeroDivisor", false), ("OtherRoot", false), ("NoVariable", false), ("OutOfRange", false), ("Incompatible", false), ("NotReached", false), ("NoMark", false), ("InvalidCommand", false)] : List (Str × Bool)), excB k.1 K = true ∧ isaB k.1 "SyntaxProblem" k.2 K = true) (m_isinstance : mg "isinstance" = none) : FnG P w K mg base CX0 1 f fd ["error"] (spP K (bodyP 1 3 b_law_error_kind)) :=
  fn_pure (k := 0) F sc_law_error_kind fun C cdv A outer s H E hsp hr =>
    fs_cons (fs_set 1 (fe_lst (fa_cons (fe_isC (tab := [("SyntaxProblem", true), ("TooMany", false), ("InvalidNumber", false), ("ZeroDivisor", false), ("OtherRoot", false), ("NoVariable", false), ("OutOfRange", false), ("Incompatible", false), ("NotReached", false), ("NoMark", false), ("InvalidCommand", false)]) m_isinstance x_SyntaxProblem.1 x_SyntaxProblem.2 (fv 0)) (fa_cons (fe_isC (tab := [("SyntaxProblem", false), ("TooMany", true), ("InvalidNumber", false), ("ZeroDivisor", false), ("OtherRoot", false), ("NoVariable", false), ("OutOfRange", false), ("Incompatible", false), ("NotReached", false), ("NoMark", false), ("InvalidCommand", false)]) m_isinstance x_TooMany.1 x_TooMany.2 (fv 0)) (fa_cons (fe_isC (tab := [("SyntaxProblem", false), ("TooMany", false), ("InvalidNumber", true), ("ZeroDivisor", false), ("OtherRoot", false), ("NoVariable", false), ("OutOfRange", false), ("Incompatible", false), ("NotReached", false), ("NoMark", false), ("InvalidCommand", false)]) m_isinstance x_InvalidNumber.1 x_InvalidNumber.2 (fv 0)) (fa_nil))))) sc_law_error_kind.nd)
    (fs_cons (fs_set 1 (fe_add (fv 1) (fe_lst (fa_cons (fe_isC (tab := [("SyntaxProblem", false), ("TooMany", false), ("InvalidNumber", false), ("ZeroDivisor", true), ("OtherRoot", false), ("NoVariable", false), ("OutOfRange", false), ("Incompatible", false), ("NotReached", false), ("NoMark", false), ("InvalidCommand", false)]) m_isinstance x_ZeroDivisor.1 x_ZeroDivisor.2 (fv 0)) (fa_cons (fe_isC (tab := [("SyntaxProblem", false), ("TooMany", false), ("InvalidNumber", false), ("ZeroDivisor", false), ("OtherRoot", true), ("NoVariable", false), ("OutOfRange", false), ("Incompatible", false), ("NotReached", false), ("NoMark", false), ("InvalidCommand", false)]) m_isinstance x_OtherRoot.1 x_OtherRoot.2 (fv 0)) (fa_cons (fe_isC (tab := [("SyntaxProblem", false), ("TooMany", false), ("InvalidNumber", false), ("ZeroDivisor", false), ("OtherRoot", false), ("NoVariable", true), ("OutOfRange", false), ("Incompatible", false), ("NotReached", false), ("NoMark", false), ("InvalidCommand", false)]) m_isinstance x_NoVariable.1 x_NoVariable.2 (fv 0)) (fa_nil)))))) sc_law_error_kind.nd)
    (fs_cons (fs_set 1 (fe_add (fv 1) (fe_lst (fa_cons (fe_isC (tab := [("SyntaxProblem", false), ("TooMany", false), ("InvalidNumber", false), ("ZeroDivisor", false), ("OtherRoot", false), ("NoVariable", false), ("OutOfRange", true), ("Incompatible", false), ("NotReached", false), ("NoMark", false), ("InvalidCommand", false)]) m_isinstance x_OutOfRange.1 x_OutOfRange.2 (fv 0)) (fa_cons (fe_isC (tab := [("SyntaxProblem", false), ("TooMany", false), ("InvalidNumber", false), ("ZeroDivisor", false), ("OtherRoot", false), ("NoVariable", false), ("OutOfRange", false), ("Incompatible", true), ("NotReached", false), ("NoMark", false), ("InvalidCommand", false)]) m_isinstance x_Incompatible.1 x_Incompatible.2 (fv 0)) (fa_cons (fe_isC (tab := [("SyntaxProblem", false), ("TooMany", false), ("InvalidNumber", false), ("ZeroDivisor", false), ("OtherRoot", false), ("NoVariable", false), ("OutOfRange", false), ("Incompatible", false), ("NotReached", true), ("NoMark", false), ("InvalidCommand", false)]) m_isinstance x_NotReached.1 x_NotReached.2 (fv 0)) (fa_nil)))))) sc_law_error_kind.nd)
    (fs_cons (fs_set 1 (fe_add (fv 1) (fe_lst (fa_cons (fe_isC (tab := [("SyntaxProblem", false), ("TooMany", false), ("InvalidNumber", false), ("ZeroDivisor", false), ("OtherRoot", false), ("NoVariable", false), ("OutOfRange", false), ("Incompatible", false), ("NotReached", false), ("NoMark", true), ("InvalidCommand", false)]) m_isinstance x_NoMark.1 x_NoMark.2 (fv 0)) (fa_cons (fe_isC (tab := [("SyntaxProblem", false), ("TooMany", false), ("InvalidNumber", false), ("ZeroDivisor", false), ("OtherRoot", false), ("NoVariable", false), ("OutOfRange", false), ("Incompatible", false), ("NotReached", false), ("NoMark", false), ("InvalidCommand", true)]) m_isinstance x_InvalidCommand.1 x_InvalidCommand.2 (fv 0)) (fa_nil))))) sc_law_error_kind.nd)
    (fs_cons (fs_if ((fw_or (ft_ne hr.units (fe_bcount hr (fv 1)) (fe_int)) (fw_or1 (ft_not (ft_tr (fe_isT (tab := [("SyntaxProblem", true), ("TooMany", true), ("InvalidNumber", true), ("ZeroDivisor", true), ("OtherRoot", true), ("NoVariable", true), ("OutOfRange", true), ("Incompatible", true), ("NotReached", true), ("NoMark", true), ("InvalidCommand", true)]) m_isinstance x_ValueError.1 (by decide +kernel) x_ValueError.2 (fv 0)))))).ft) (fs_one (fs_ret (fe_str))) (fs_nil))
    (fs_cons (fs_set 2 (fe_lst (fa_cons (fe_str) (fa_cons (fe_str) (fa_cons (fe_str) (fa_cons (fe_str) (fa_cons (fe_str) (fa_cons (fe_str) (fa_cons (fe_str) (fa_cons (fe_str) (fa_cons (fe_str) (fa_cons (fe_str) (fa_cons (fe_str) (fa_nil))))))))))))) sc_law_error_kind.nd)
    (fs_one (fs_ret (fe_ixn 2 (fe_bindex hr (fv 1))))))))))

theorem ok_law (F : FunD K "law" "law" (defArgs st_law) (defBody st_law) (defScope st_law) [] [] f fd) (D_law_alike : DefOk P w K mg base 1 "_law_alike" ["one", "other"] (spP K m_law_alike)) (D_law_error_kind : DefOk P w K mg base 1 "_law_error_kind" ["error"] (spP K m_law_error_kind)) (D_law_choice : DefOk P w K mg base 3 "_law_choice" ["spool", "items"] (spS K m_law_choice)) (D_law_upto : DefOk P w K mg base 2 "_law_upto" ["spool", "bound"] (spS K m_law_upto)) (D_law_spool_of : DefOk P w K mg base 1 "_law_spool_of" ["script"] (spN K mN_law_spool_of)) (R_InvalidCommand : mg "InvalidCommand" = some (.ref (He.ga K "InvalidCommand")) ∧ (He.Fa.exc "InvalidCommand").ok K = true) (R_NoMark : mg "NoMark" = some (.ref (He.ga K "NoMark")) ∧ (He.Fa.exc "NoMark").ok K = true) (R_NotReached : mg "NotReached" = some (.ref (He.ga K "NotReached")) ∧ (He.Fa.exc "NotReached").ok K = true) (R_Incompatible : mg "Incompatible" = some (.ref (He.ga K "Incompatible")) ∧ (He.Fa.exc "Incompatible").ok K = true) (R_OutOfRange : mg "OutOfRange" = some (.ref (He.ga K "OutOfRange")) ∧ (He.Fa.exc "OutOfRange").ok K = true) (R_NoVariable : mg "NoVariable" = some (.ref (He.ga K "NoVariable")) ∧ (He.Fa.exc "NoVariable").ok K = true) (R_OtherRoot : mg "OtherRoot" = some (.ref (He.ga K "OtherRoot")) ∧ (He.Fa.exc "OtherRoot").ok K = true) (R_ZeroDivisor : mg "ZeroDivisor" = some (.ref (He.ga K "ZeroDivisor")) ∧ (He.Fa.exc "ZeroDivisor").ok K = true) (R_InvalidNumber : mg "InvalidNumber" = some (.ref (He.ga K "InvalidNumber")) ∧ (He.Fa.exc "InvalidNumber").ok K = true) (x_TwoSpeedsError : mg "TwoSpeedsError" = some (.ref (He.ga K "TwoSpeedsError")) ∧ ∀ k ∈ ([("SyntaxProblem", true), ("TooMany", true), ("InvalidNumber", true), ("ZeroDivisor", true), ("OtherRoot", true), ("NoVariable", true), ("OutOfRange", true), ("Incompatible", true), ("NotReached", true), ("NoMark", true), ("InvalidCommand", true)] : List (Str × Bool)), excB k.1 K = true ∧ isaB k.1 "TwoSpeedsError" k.2 K = true) (I_TooMany : MkOk P w K mg base "TooMany" ["self", "limit"] ["limit"]) (I_SyntaxProblem : MkOk P w K mg base "SyntaxProblem" ["self", "line", "column"] ["line", "column"]) (xf_limit : ∀ c ∈ (["TooMany"] : List Str), xfkB c "limit" K = true) (xf_column : ∀ c ∈ (["SyntaxProblem"] : List Str), xfkB c "column" K = true) (xf_line : ∀ c ∈ (["SyntaxProblem"] : List Str), xfkB c "line" K = true) (m_zip : mg "zip" = none) (m_isinstance : mg "isinstance" = none) (m_range : mg "range" = none) : FnG P w K mg base CX0 4 f fd ["script"] (spLaw K) := by
  obtain ⟨fa1, fd1, F1, hm1, hk1, hb1⟩ := D_law_spool_of
  exact fn_law (k := 3) sf F sc_law rfl
    (fun C cdv A outer s H E hr => ps_set sc_law.nd rfl (by first | exact Or.inl rfl | exact Or.inr rfl) (pe_callG (F1.mono (by decide)) hr rfl hm1 hk1 hb1 .nil pass0 (pa_cons (pe_var rfl (Or.inl rfl) (by decide) (by decide)) pa_nil rfl) (by decide) rfl rfl) rfl (.inl rfl))
    (fun C cdv A outer s H E hr => fs_cons (fs_asg (fe_fl (fl_lc 10 rfl sc_law.nd (blkOk_by (N := ["script", "spool", "line", "spot", "limit", "text", "errors", "words", "word", "error", "turn"]) (sc := defScope st_law) (by decide +kernel)) (fi_range1 m_range (fa_cons (fe_int) (fa_nil))) (fun _ _ _ _ _ => pg_name (i := 10) sc_law.nd rfl (Or.inl rfl)) (fun _ _ _ _ _ _ => fe_defS 1 D_law_upto hr (by decide) (fa_cons (fe_int) (fa_nil))))) (fg_lst rfl (fgs_cons (fg_name 2 sc_law.nd) (fgs_cons (fg_name 3 sc_law.nd) (fgs_cons (fg_name 4 sc_law.nd) (fgs_nil))))))
    (fs_cons (fs_set 5 (fe_defS 1 D_law_choice hr (by decide) (fa_cons (fe_lst (fa_cons (fe_str) (fa_cons (fe_str) (fa_cons (fe_str) (fa_nil))))) (fa_nil))) sc_law.nd)
    (fs_cons (fs_set 6 (fe_lst (fa_cons (fe_mkI I_SyntaxProblem hr (by decide) (fa_cons (fv 2) (fa_cons (fv 3) (fa_nil)))) (fa_cons (fe_mkI I_TooMany hr (by decide) (fa_cons (fv 4) (fa_nil))) (fa_cons (fe_mk0 ⟨R_InvalidNumber.1, R_InvalidNumber.2⟩ (fv 5)) (fa_cons (fe_mk0 ⟨R_ZeroDivisor.1, R_ZeroDivisor.2⟩ (fv 5)) (fa_cons (fe_mk0 ⟨R_OtherRoot.1, R_OtherRoot.2⟩ (fv 5)) (fa_nil))))))) sc_law.nd)
    (fs_cons (fs_set 6 (fe_add (fv 6) (fe_lst (fa_cons (fe_mk0 ⟨R_NoVariable.1, R_NoVariable.2⟩ (fv 5)) (fa_cons (fe_mk0 ⟨R_OutOfRange.1, R_OutOfRange.2⟩ (fv 5)) (fa_cons (fe_mk0 ⟨R_Incompatible.1, R_Incompatible.2⟩ (fv 5)) (fa_cons (fe_mk0 ⟨R_NotReached.1, R_NotReached.2⟩ (fv 5)) (fa_cons (fe_mk0 ⟨R_NoMark.1, R_NoMark.2⟩ (fv 5)) (fa_nil)))))))) sc_law.nd)
    (fs_cons (fs_set 7 (fe_lst (fa_cons (fe_str) (fa_cons (fe_str) (fa_cons (fe_str) (fa_cons (fe_str) (fa_cons (fe_str) (fa_cons (fe_str) (fa_cons (fe_str) (fa_cons (fe_str) (fa_cons (fe_str) (fa_cons (fe_str) (fa_cons (fe_str) (fa_nil))))))))))))) sc_law.nd)
    (fs_cons (fs_for PassesOwn.never rfl (fi_zipL m_zip (fa_cons (fv 7) (fa_cons (fe_add (fv 6) (fe_lst (fa_cons (fe_mk0 ⟨R_InvalidCommand.1, R_InvalidCommand.2⟩ (fv 5)) (fa_nil)))) (fa_nil)))) (fg_tup rfl (fgs_cons (fg_name 8 sc_law.nd) (fgs_cons (fg_name 9 sc_law.nd) (fgs_nil)))) (fs_one (fs_if ((fw_or (ft_ne hr.units (fe_def D_law_error_kind hr (by decide) (fa_cons (fv 9) (fa_nil))) (fv 8)) (fw_or1 (ft_not (ft_tr (fe_isC (tab := [("SyntaxProblem", true), ("TooMany", true), ("InvalidNumber", true), ("ZeroDivisor", true), ("OtherRoot", true), ("NoVariable", true), ("OutOfRange", true), ("Incompatible", true), ("NotReached", true), ("NoMark", true), ("InvalidCommand", true)]) m_isinstance x_TwoSpeedsError.1 x_TwoSpeedsError.2 (fv 9)))))).ft) (fs_one (fs_ret (fe_bl))) (fs_nil))))
    (fs_one (fs_ret (fe_def D_law_alike hr (by decide) (fa_cons (fe_lst (fa_cons (fe_fld (fe_ixn 6 (fe_int)) xf_line) (fa_cons (fe_fld (fe_ixn 6 (fe_int)) xf_column) (fa_cons (fe_fld (fe_ixn 6 (fe_int)) xf_limit) (fa_nil))))) (fa_cons (fe_lst (fa_cons (fv 2) (fa_cons (fv 3) (fa_cons (fv 4) (fa_nil))))) (fa_nil)))))))))))) (by decide) law_ok
end
def d_law_stirred : He.DefD := ⟨("_law_stirred", none), "_law_stirred", "_law_stirred", defArgs st_law_stirred, defBody st_law_stirred, defScope st_law_stirred, [], []⟩
def d_law_spool_of : He.DefD := ⟨("_law_spool_of", none), "_law_spool_of", "_law_spool_of", defArgs st_law_spool_of, defBody st_law_spool_of, defScope st_law_spool_of, [], []⟩
def d_law_upto : He.DefD := ⟨("_law_upto", none), "_law_upto", "_law_upto", defArgs st_law_upto, defBody st_law_upto, defScope st_law_upto, [], []⟩
def d_law_choice : He.DefD := ⟨("_law_choice", none), "_law_choice", "_law_choice", defArgs st_law_choice, defBody st_law_choice, defScope st_law_choice, [], []⟩
def d_law_alike : He.DefD := ⟨("_law_alike", none), "_law_alike", "_law_alike", defArgs st_law_alike, defBody st_law_alike, defScope st_law_alike, [], []⟩
def d_law_error_kind : He.DefD := ⟨("_law_error_kind", none), "_law_error_kind", "_law_error_kind", defArgs st_law_error_kind, defBody st_law_error_kind, defScope st_law_error_kind, [], []⟩
def d_law : He.DefD := ⟨("law", none), "law", "law", defArgs st_law, defBody st_law, defScope st_law, [], []⟩
def fnL : List He.DefD := ([d_law_stirred, d_law_spool_of, d_law_upto, d_law_choice, d_law_alike, d_law_error_kind, d_law] : List He.DefD)
def faL : List He.Fa := ([.glo "_law_stirred", .glo "_law_spool_of", .glo "_law_upto", .glo "_law_choice", .glo "_law_alike", .glo "_law_error_kind", .glo "law", .free "range", .free "abs", .free "enumerate", .free "len", .free "repr", .free "isinstance", .free "zip", .free "ValueError", .free "super", .glo "InvalidCommand", .glo "NoMark", .glo "NotReached", .glo "Incompatible", .glo "OutOfRange", .glo "NoVariable", .glo "OtherRoot", .glo "ZeroDivisor", .glo "InvalidNumber", .glo "TooMany", .glo "SyntaxProblem", .glo "TwoSpeedsError", .exc "InvalidCommand", .exc "NoMark", .exc "NotReached", .exc "Incompatible", .exc "OutOfRange", .exc "NoVariable", .exc "OtherRoot"] : List He.Fa) ++ ([.exc "ZeroDivisor", .exc "InvalidNumber"] : List He.Fa)
def exB (K : PySem.W.Frag) : Bool := (digB K) && (excB "SyntaxProblem" K) && (excB "TooMany" K) && (excB "InvalidNumber" K) && (excB "ZeroDivisor" K) && (excB "OtherRoot" K) && (excB "NoVariable" K) && (excB "OutOfRange" K) && (excB "Incompatible" K) && (excB "NotReached" K) && (excB "NoMark" K) && (excB "InvalidCommand" K) && (isaT "SyntaxProblem" "ValueError" true K) && (isaT "TooMany" "ValueError" true K) && (isaT "InvalidNumber" "ValueError" true K) && (isaT "ZeroDivisor" "ValueError" true K) && (isaT "OtherRoot" "ValueError" true K) && (isaT "NoVariable" "ValueError" true K) && (isaT "OutOfRange" "ValueError" true K) && (isaT "Incompatible" "ValueError" true K) && (isaT "NotReached" "ValueError" true K) && (isaT "NoMark" "ValueError" true K) && (isaT "InvalidCommand" "ValueError" true K) && (isaB "SyntaxProblem" "InvalidCommand" false K) && (isaB "TooMany" "InvalidCommand" false K) && (isaB "InvalidNumber" "InvalidCommand" false K) && (isaB "ZeroDivisor" "InvalidCommand" false K) && (isaB "OtherRoot" "InvalidCommand" false K) && (isaB "NoVariable" "InvalidCommand" false K) && (isaB "OutOfRange" "InvalidCommand" false K) && (isaB "Incompatible" "InvalidCommand" false K) && (isaB "NotReached" "InvalidCommand" false K) && (isaB "NoMark" "InvalidCommand" false K) && (isaB "InvalidCommand" "InvalidCommand" true K) && (isaB "SyntaxProblem" "NoMark" false K) && (isaB "TooMany" "NoMark" false K) && (isaB "InvalidNumber" "NoMark" false K) && (isaB "ZeroDivisor" "NoMark" false K) && (isaB "OtherRoot" "NoMark" false K) && (isaB "NoVariable" "NoMark" false K) && (isaB "OutOfRange" "NoMark" false K) && (isaB "Incompatible" "NoMark" false K) && (isaB "NotReached" "NoMark" false K) && (isaB "NoMark" "NoMark" true K) && (isaB "InvalidCommand" "NoMark" false K) && (isaB "SyntaxProblem" "NotReached" false K) && (isaB "TooMany" "NotReached" false K) && (isaB "InvalidNumber" "NotReached" false K) && (isaB "ZeroDivisor" "NotReached" false K) && (isaB "OtherRoot" "NotReached" false K) && (isaB "NoVariable" "NotReached" false K) && (isaB "OutOfRange" "NotReached" false K) && (isaB "Incompatible" "NotReached" false K) && (isaB "NotReached" "NotReached" true K) && (isaB "NoMark" "NotReached" false K) && (isaB "InvalidCommand" "NotReached" false K) && (isaB "SyntaxProblem" "Incompatible" false K) && (isaB "TooMany" "Incompatible" false K) && (isaB "InvalidNumber" "Incompatible" false K) && (isaB "ZeroDivisor" "Incompatible" false K) && (isaB "OtherRoot" "Incompatible" false K) && (isaB "NoVariable" "Incompatible" false K) && (isaB "OutOfRange" "Incompatible" false K) && (isaB "Incompatible" "Incompatible" true K) && (isaB "NotReached" "Incompatible" false K) && (isaB "NoMark" "Incompatible" false K) && (isaB "InvalidCommand" "Incompatible" false K) && (isaB "SyntaxProblem" "OutOfRange" false K) && (isaB "TooMany" "OutOfRange" false K) && (isaB "InvalidNumber" "OutOfRange" false K) && (isaB "ZeroDivisor" "OutOfRange" false K) && (isaB "OtherRoot" "OutOfRange" false K) && (isaB "NoVariable" "OutOfRange" false K) && (isaB "OutOfRange" "OutOfRange" true K) && (isaB "Incompatible" "OutOfRange" false K) && (isaB "NotReached" "OutOfRange" false K) && (isaB "NoMark" "OutOfRange" false K) && (isaB "InvalidCommand" "OutOfRange" false K) && (isaB "SyntaxProblem" "NoVariable" false K) && (isaB "TooMany" "NoVariable" false K) && (isaB "InvalidNumber" "NoVariable" false K) && (isaB "ZeroDivisor" "NoVariable" false K) && (isaB "OtherRoot" "NoVariable" false K) && (isaB "NoVariable" "NoVariable" true K) && (isaB "OutOfRange" "NoVariable" false K) && (isaB "Incompatible" "NoVariable" false K) && (isaB "NotReached" "NoVariable" false K) && (isaB "NoMark" "NoVariable" false K) && (isaB "InvalidCommand" "NoVariable" false K) && (isaB "SyntaxProblem" "OtherRoot" false K) && (isaB "TooMany" "OtherRoot" false K) && (isaB "InvalidNumber" "OtherRoot" false K) && (isaB "ZeroDivisor" "OtherRoot" false K) && (isaB "OtherRoot" "OtherRoot" true K) && (isaB "NoVariable" "OtherRoot" false K) && (isaB "OutOfRange" "OtherRoot" false K) && (isaB "Incompatible" "OtherRoot" false K) && (isaB "NotReached" "OtherRoot" false K) && (isaB "NoMark" "OtherRoot" false K) && (isaB "InvalidCommand" "OtherRoot" false K) && (isaB "SyntaxProblem" "ZeroDivisor" false K) && (isaB "TooMany" "ZeroDivisor" false K) && (isaB "InvalidNumber" "ZeroDivisor" false K) && (isaB "ZeroDivisor" "ZeroDivisor" true K) && (isaB "OtherRoot" "ZeroDivisor" false K) && (isaB "NoVariable" "ZeroDivisor" false K) && (isaB "OutOfRange" "ZeroDivisor" false K) && (isaB "Incompatible" "ZeroDivisor" false K) && (isaB "NotReached" "ZeroDivisor" false K) && (isaB "NoMark" "ZeroDivisor" false K) && (isaB "InvalidCommand" "ZeroDivisor" false K) && (isaB "SyntaxProblem" "InvalidNumber" false K) && (isaB "TooMany" "InvalidNumber" false K) && (isaB "InvalidNumber" "InvalidNumber" true K) && (isaB "ZeroDivisor" "InvalidNumber" false K) && (isaB "OtherRoot" "InvalidNumber" false K) && (isaB "NoVariable" "InvalidNumber" false K) && (isaB "OutOfRange" "InvalidNumber" false K) && (isaB "Incompatible" "InvalidNumber" false K) && (isaB "NotReached" "InvalidNumber" false K) && (isaB "NoMark" "InvalidNumber" false K) && (isaB "InvalidCommand" "InvalidNumber" false K) && (isaB "SyntaxProblem" "TooMany" false K) && (isaB "TooMany" "TooMany" true K) && (isaB "InvalidNumber" "TooMany" false K) && (isaB "ZeroDivisor" "TooMany" false K) && (isaB "OtherRoot" "TooMany" false K) && (isaB "NoVariable" "TooMany" false K) && (isaB "OutOfRange" "TooMany" false K) && (isaB "Incompatible" "TooMany" false K) && (isaB "NotReached" "TooMany" false K) && (isaB "NoMark" "TooMany" false K) && (isaB "InvalidCommand" "TooMany" false K) && (isaB "SyntaxProblem" "SyntaxProblem" true K) && (isaB "TooMany" "SyntaxProblem" false K) && (isaB "InvalidNumber" "SyntaxProblem" false K) && (isaB "ZeroDivisor" "SyntaxProblem" false K) && (isaB "OtherRoot" "SyntaxProblem" false K) && (isaB "NoVariable" "SyntaxProblem" false K) && (isaB "OutOfRange" "SyntaxProblem" false K) && (isaB "Incompatible" "SyntaxProblem" false K) && (isaB "NotReached" "SyntaxProblem" false K) && (isaB "NoMark" "SyntaxProblem" false K) && (isaB "InvalidCommand" "SyntaxProblem" false K) && (isaB "SyntaxProblem" "TwoSpeedsError" true K) && (isaB "TooMany" "TwoSpeedsError" true K) && (isaB "InvalidNumber" "TwoSpeedsError" true K) && (isaB "ZeroDivisor" "TwoSpeedsError" true K) && (isaB "OtherRoot" "TwoSpeedsError" true K) && (isaB "NoVariable" "TwoSpeedsError" true K) && (isaB "OutOfRange" "TwoSpeedsError" true K) && (isaB "Incompatible" "TwoSpeedsError" true K) && (isaB "NotReached" "TwoSpeedsError" true K) && (isaB "NoMark" "TwoSpeedsError" true K) && (isaB "InvalidCommand" "TwoSpeedsError" true K) && (suB "SyntaxProblem" "/claim/cut.py" ["line", "column"] K) && (suB "TooMany" "/claim/cut.py" ["limit"] K) && (xfkB "TooMany" "limit" K) && (xfkB "SyntaxProblem" "column" K) && (xfkB "SyntaxProblem" "line" K)
abbrev Rw : PySem.W.OpenRow := PySem.W.OpenLaw.row PySem.Challenge.rw_twospeeds_k06_errors
def suL : List He.DefD := [d_init_SyntaxProblem, d_init_TooMany]
abbrev hk : PySem.W.Hook := hookY 4 faL fnL exB suL
def loose : List PySem.Str := ([("TwoSpeedsError" : PySem.Str), ("SyntaxProblem" : PySem.Str), ("TooMany" : PySem.Str), ("InvalidNumber" : PySem.Str), ("ZeroDivisor" : PySem.Str), ("OtherRoot" : PySem.Str), ("NoVariable" : PySem.Str), ("OutOfRange" : PySem.Str), ("Incompatible" : PySem.Str), ("NotReached" : PySem.Str), ("NoMark" : PySem.Str), ("InvalidCommand" : PySem.Str), ("_law_stirred" : PySem.Str), ("_law_spool_of" : PySem.Str), ("_law_upto" : PySem.Str), ("_law_choice" : PySem.Str), ("_law_alike" : PySem.Str), ("_law_error_kind" : PySem.Str)] : List PySem.Str)
theorem run (w : World) : HandSHeadRun.RunEq Rw (PySem.W.view Rw.prog [20]) hk (obU 4 faL fnL exB suL) 8000 loose w := by
  intro os
  kernel_rfl
theorem facts {P : Program} {w : World} {K : PySem.W.Frag} {h : Heap} {mg : Str → Option Value} {f : Addr} (X : K.In h) (G : h.Ns mainGlobals mg) (hfa : mg ("law" : Str) = some (.ref f)) (c : He.SaysD faL fnL K) (cx : exB K = true) (cs : suL.map (fun d => fnS K d.at_) = suL.map valS) (hP : ((P.main.file : Str) == ("/claim/cut.py" : Str)) = true) (hT : (P.main.scope.names.lookup ("super" : Str)).isSome = false) :
    ∃ fd : FuncData, (∀ (s : Shared) (v : Value), BindsTo s fd ⟨[v], []⟩ [("script", v)]) ∧ ∀ base : Heap, K.In base → base.Ns mainGlobals mg → FnG P w K mg base CX0 4 f fd ["script"] (spLaw K) := by
  have c0 := c
  obtain ⟨fd_law_stirred, F_law_stirred⟩ := c.def_ 0 (d := d_law_stirred) rfl
  have g_law_stirred := He.glo_ok X G (c.fact 0 (f := .glo "_law_stirred") rfl)
  obtain ⟨fd_law_spool_of, F_law_spool_of⟩ := c.def_ 1 (d := d_law_spool_of) rfl
  have g_law_spool_of := He.glo_ok X G (c.fact 1 (f := .glo "_law_spool_of") rfl)
  obtain ⟨fd_law_upto, F_law_upto⟩ := c.def_ 2 (d := d_law_upto) rfl
  have g_law_upto := He.glo_ok X G (c.fact 2 (f := .glo "_law_upto") rfl)
  obtain ⟨fd_law_choice, F_law_choice⟩ := c.def_ 3 (d := d_law_choice) rfl
  have g_law_choice := He.glo_ok X G (c.fact 3 (f := .glo "_law_choice") rfl)
  obtain ⟨fd_law_alike, F_law_alike⟩ := c.def_ 4 (d := d_law_alike) rfl
  have g_law_alike := He.glo_ok X G (c.fact 4 (f := .glo "_law_alike") rfl)
  obtain ⟨fd_law_error_kind, F_law_error_kind⟩ := c.def_ 5 (d := d_law_error_kind) rfl
  have g_law_error_kind := He.glo_ok X G (c.fact 5 (f := .glo "_law_error_kind") rfl)
  obtain ⟨fd_law, F_law⟩ := c.def_ 6 (d := d_law) rfl
  have g_law := He.glo_ok X G (c.fact 6 (f := .glo "law") rfl)
  have m_range := He.free_ok X G (c.fact 7 (f := .free "range") rfl)
  have m_abs := He.free_ok X G (c.fact 8 (f := .free "abs") rfl)
  have m_enumerate := He.free_ok X G (c.fact 9 (f := .free "enumerate") rfl)
  have m_len := He.free_ok X G (c.fact 10 (f := .free "len") rfl)
  have m_repr := He.free_ok X G (c.fact 11 (f := .free "repr") rfl)
  have m_isinstance := He.free_ok X G (c.fact 12 (f := .free "isinstance") rfl)
  have m_zip := He.free_ok X G (c.fact 13 (f := .free "zip") rfl)
  have m_ValueError := He.free_ok X G (c.fact 14 (f := .free "ValueError") rfl)
  have m_super := He.free_ok X G (c.fact 15 (f := .free "super") rfl)
  have gl_InvalidCommand := He.glo_ok X G (c.fact 16 (f := .glo "InvalidCommand") rfl)
  have gl_NoMark := He.glo_ok X G (c.fact 17 (f := .glo "NoMark") rfl)
  have gl_NotReached := He.glo_ok X G (c.fact 18 (f := .glo "NotReached") rfl)
  have gl_Incompatible := He.glo_ok X G (c.fact 19 (f := .glo "Incompatible") rfl)
  have gl_OutOfRange := He.glo_ok X G (c.fact 20 (f := .glo "OutOfRange") rfl)
  have gl_NoVariable := He.glo_ok X G (c.fact 21 (f := .glo "NoVariable") rfl)
  have gl_OtherRoot := He.glo_ok X G (c.fact 22 (f := .glo "OtherRoot") rfl)
  have gl_ZeroDivisor := He.glo_ok X G (c.fact 23 (f := .glo "ZeroDivisor") rfl)
  have gl_InvalidNumber := He.glo_ok X G (c.fact 24 (f := .glo "InvalidNumber") rfl)
  have gl_TooMany := He.glo_ok X G (c.fact 25 (f := .glo "TooMany") rfl)
  have gl_SyntaxProblem := He.glo_ok X G (c.fact 26 (f := .glo "SyntaxProblem") rfl)
  have gl_TwoSpeedsError := He.glo_ok X G (c.fact 27 (f := .glo "TwoSpeedsError") rfl)
  have R_InvalidCommand : mg "InvalidCommand" = some (.ref (He.ga K "InvalidCommand")) ∧ (He.Fa.exc "InvalidCommand").ok K = true := ⟨gl_InvalidCommand, c.fact 28 (f := .exc "InvalidCommand") rfl⟩
  have R_NoMark : mg "NoMark" = some (.ref (He.ga K "NoMark")) ∧ (He.Fa.exc "NoMark").ok K = true := ⟨gl_NoMark, c.fact 29 (f := .exc "NoMark") rfl⟩
  have R_NotReached : mg "NotReached" = some (.ref (He.ga K "NotReached")) ∧ (He.Fa.exc "NotReached").ok K = true := ⟨gl_NotReached, c.fact 30 (f := .exc "NotReached") rfl⟩
  have R_Incompatible : mg "Incompatible" = some (.ref (He.ga K "Incompatible")) ∧ (He.Fa.exc "Incompatible").ok K = true := ⟨gl_Incompatible, c.fact 31 (f := .exc "Incompatible") rfl⟩
  have R_OutOfRange : mg "OutOfRange" = some (.ref (He.ga K "OutOfRange")) ∧ (He.Fa.exc "OutOfRange").ok K = true := ⟨gl_OutOfRange, c.fact 32 (f := .exc "OutOfRange") rfl⟩
  have R_NoVariable : mg "NoVariable" = some (.ref (He.ga K "NoVariable")) ∧ (He.Fa.exc "NoVariable").ok K = true := ⟨gl_NoVariable, c.fact 33 (f := .exc "NoVariable") rfl⟩
  have R_OtherRoot : mg "OtherRoot" = some (.ref (He.ga K "OtherRoot")) ∧ (He.Fa.exc "OtherRoot").ok K = true := ⟨gl_OtherRoot, c.fact 34 (f := .exc "OtherRoot") rfl⟩
  have R_ZeroDivisor : mg "ZeroDivisor" = some (.ref (He.ga K "ZeroDivisor")) ∧ (He.Fa.exc "ZeroDivisor").ok K = true := ⟨gl_ZeroDivisor, c.fact 35 (f := .exc "ZeroDivisor") rfl⟩
  have R_InvalidNumber : mg "InvalidNumber" = some (.ref (He.ga K "InvalidNumber")) ∧ (He.Fa.exc "InvalidNumber").ok K = true := ⟨gl_InvalidNumber, c.fact 36 (f := .exc "InvalidNumber") rfl⟩
  unfold exB at cx
  simp only [Bool.and_eq_true] at cx
  obtain ⟨⟨⟨⟨⟨⟨⟨⟨⟨⟨⟨⟨⟨⟨⟨⟨⟨⟨⟨⟨⟨⟨⟨⟨⟨⟨⟨⟨⟨⟨⟨⟨⟨⟨⟨⟨⟨⟨⟨⟨⟨⟨⟨⟨⟨⟨⟨⟨⟨⟨⟨⟨⟨⟨⟨⟨⟨⟨⟨⟨⟨⟨⟨⟨⟨⟨⟨⟨⟨⟨⟨⟨⟨⟨⟨⟨⟨⟨⟨⟨⟨⟨⟨⟨⟨⟨⟨⟨⟨⟨⟨⟨⟨⟨⟨⟨⟨⟨⟨⟨⟨⟨⟨⟨⟨⟨⟨⟨⟨⟨⟨⟨⟨⟨⟨⟨⟨⟨⟨⟨⟨⟨⟨⟨⟨⟨⟨⟨⟨⟨⟨⟨⟨⟨⟨⟨⟨⟨⟨⟨⟨⟨⟨⟨⟨⟨⟨⟨⟨⟨⟨⟨⟨⟨⟨⟨⟨⟨⟨x0, x1⟩, x2⟩, x3⟩, x4⟩, x5⟩, x6⟩, x7⟩, x8⟩, x9⟩, x10⟩, x11⟩, x12⟩, x13⟩, x14⟩, x15⟩, x16⟩, x17⟩, x18⟩, x19⟩, x20⟩, x21⟩, x22⟩, x23⟩, x24⟩, x25⟩, x26⟩, x27⟩, x28⟩, x29⟩, x30⟩, x31⟩, x32⟩, x33⟩, x34⟩, x35⟩, x36⟩, x37⟩, x38⟩, x39⟩, x40⟩, x41⟩, x42⟩, x43⟩, x44⟩, x45⟩, x46⟩, x47⟩, x48⟩, x49⟩, x50⟩, x51⟩, x52⟩, x53⟩, x54⟩, x55⟩, x56⟩, x57⟩, x58⟩, x59⟩, x60⟩, x61⟩, x62⟩, x63⟩, x64⟩, x65⟩, x66⟩, x67⟩, x68⟩, x69⟩, x70⟩, x71⟩, x72⟩, x73⟩, x74⟩, x75⟩, x76⟩, x77⟩, x78⟩, x79⟩, x80⟩, x81⟩, x82⟩, x83⟩, x84⟩, x85⟩, x86⟩, x87⟩, x88⟩, x89⟩, x90⟩, x91⟩, x92⟩, x93⟩, x94⟩, x95⟩, x96⟩, x97⟩, x98⟩, x99⟩, x100⟩, x101⟩, x102⟩, x103⟩, x104⟩, x105⟩, x106⟩, x107⟩, x108⟩, x109⟩, x110⟩, x111⟩, x112⟩, x113⟩, x114⟩, x115⟩, x116⟩, x117⟩, x118⟩, x119⟩, x120⟩, x121⟩, x122⟩, x123⟩, x124⟩, x125⟩, x126⟩, x127⟩, x128⟩, x129⟩, x130⟩, x131⟩, x132⟩, x133⟩, x134⟩, x135⟩, x136⟩, x137⟩, x138⟩, x139⟩, x140⟩, x141⟩, x142⟩, x143⟩, x144⟩, x145⟩, x146⟩, x147⟩, x148⟩, x149⟩, x150⟩, x151⟩, x152⟩, x153⟩, x154⟩, x155⟩, x156⟩, x157⟩, x158⟩, x159⟩ := cx
  have xdig := x0
  have x_ValueError : mg "ValueError" = none ∧ ∀ k ∈ ([("SyntaxProblem", true), ("TooMany", true), ("InvalidNumber", true), ("ZeroDivisor", true), ("OtherRoot", true), ("NoVariable", true), ("OutOfRange", true), ("Incompatible", true), ("NotReached", true), ("NoMark", true), ("InvalidCommand", true)] : List (Str × Bool)), excB k.1 K = true ∧ isaT k.1 "ValueError" k.2 K = true := ⟨m_ValueError, (by
    intro c hc
    simp only [List.mem_cons, List.not_mem_nil, or_false] at hc
    rcases hc with rfl | rfl | rfl | rfl | rfl | rfl | rfl | rfl | rfl | rfl | rfl
    · exact ⟨x1, x12⟩
    · exact ⟨x2, x13⟩
    · exact ⟨x3, x14⟩
    · exact ⟨x4, x15⟩
    · exact ⟨x5, x16⟩
    · exact ⟨x6, x17⟩
    · exact ⟨x7, x18⟩
    · exact ⟨x8, x19⟩
    · exact ⟨x9, x20⟩
    · exact ⟨x10, x21⟩
    · exact ⟨x11, x22⟩)⟩
  have x_InvalidCommand : mg "InvalidCommand" = some (.ref (He.ga K "InvalidCommand")) ∧ ∀ k ∈ ([("SyntaxProblem", false), ("TooMany", false), ("InvalidNumber", false), ("ZeroDivisor", false), ("OtherRoot", false), ("NoVariable", false), ("OutOfRange", false), ("Incompatible", false), ("NotReached", false), ("NoMark", false), ("InvalidCommand", true)] : List (Str × Bool)), excB k.1 K = true ∧ isaB k.1 "InvalidCommand" k.2 K = true := ⟨gl_InvalidCommand, (by
    intro c hc
    simp only [List.mem_cons, List.not_mem_nil, or_false] at hc
    rcases hc with rfl | rfl | rfl | rfl | rfl | rfl | rfl | rfl | rfl | rfl | rfl
    · exact ⟨x1, x23⟩
    · exact ⟨x2, x24⟩
    · exact ⟨x3, x25⟩
    · exact ⟨x4, x26⟩
    · exact ⟨x5, x27⟩
    · exact ⟨x6, x28⟩
    · exact ⟨x7, x29⟩
    · exact ⟨x8, x30⟩
    · exact ⟨x9, x31⟩
    · exact ⟨x10, x32⟩
    · exact ⟨x11, x33⟩)⟩
  have x_NoMark : mg "NoMark" = some (.ref (He.ga K "NoMark")) ∧ ∀ k ∈ ([("SyntaxProblem", false), ("TooMany", false), ("InvalidNumber", false), ("ZeroDivisor", false), ("OtherRoot", false), ("NoVariable", false), ("OutOfRange", false), ("Incompatible", false), ("NotReached", false), ("NoMark", true), ("InvalidCommand", false)] : List (Str × Bool)), excB k.1 K = true ∧ isaB k.1 "NoMark" k.2 K = true := ⟨gl_NoMark, (by
    intro c hc
    simp only [List.mem_cons, List.not_mem_nil, or_false] at hc
    rcases hc with rfl | rfl | rfl | rfl | rfl | rfl | rfl | rfl | rfl | rfl | rfl
    · exact ⟨x1, x34⟩
    · exact ⟨x2, x35⟩
    · exact ⟨x3, x36⟩
    · exact ⟨x4, x37⟩
    · exact ⟨x5, x38⟩
    · exact ⟨x6, x39⟩
    · exact ⟨x7, x40⟩
    · exact ⟨x8, x41⟩
    · exact ⟨x9, x42⟩
    · exact ⟨x10, x43⟩
    · exact ⟨x11, x44⟩)⟩
  have x_NotReached : mg "NotReached" = some (.ref (He.ga K "NotReached")) ∧ ∀ k ∈ ([("SyntaxProblem", false), ("TooMany", false), ("InvalidNumber", false), ("ZeroDivisor", false), ("OtherRoot", false), ("NoVariable", false), ("OutOfRange", false), ("Incompatible", false), ("NotReached", true), ("NoMark", false), ("InvalidCommand", false)] : List (Str × Bool)), excB k.1 K = true ∧ isaB k.1 "NotReached" k.2 K = true := ⟨gl_NotReached, (by
    intro c hc
    simp only [List.mem_cons, List.not_mem_nil, or_false] at hc
    rcases hc with rfl | rfl | rfl | rfl | rfl | rfl | rfl | rfl | rfl | rfl | rfl
    · exact ⟨x1, x45⟩
    · exact ⟨x2, x46⟩
    · exact ⟨x3, x47⟩
    · exact ⟨x4, x48⟩
    · exact ⟨x5, x49⟩
    · exact ⟨x6, x50⟩
    · exact ⟨x7, x51⟩
    · exact ⟨x8, x52⟩
    · exact ⟨x9, x53⟩
    · exact ⟨x10, x54⟩
    · exact ⟨x11, x55⟩)⟩
  have x_Incompatible : mg "Incompatible" = some (.ref (He.ga K "Incompatible")) ∧ ∀ k ∈ ([("SyntaxProblem", false), ("TooMany", false), ("InvalidNumber", false), ("ZeroDivisor", false), ("OtherRoot", false), ("NoVariable", false), ("OutOfRange", false), ("Incompatible", true), ("NotReached", false), ("NoMark", false), ("InvalidCommand", false)] : List (Str × Bool)), excB k.1 K = true ∧ isaB k.1 "Incompatible" k.2 K = true := ⟨gl_Incompatible, (by
    intro c hc
    simp only [List.mem_cons, List.not_mem_nil, or_false] at hc
    rcases hc with rfl | rfl | rfl | rfl | rfl | rfl | rfl | rfl | rfl | rfl | rfl
    · exact ⟨x1, x56⟩
    · exact ⟨x2, x57⟩
    · exact ⟨x3, x58⟩
    · exact ⟨x4, x59⟩
    · exact ⟨x5, x60⟩
    · exact ⟨x6, x61⟩
    · exact ⟨x7, x62⟩
    · exact ⟨x8, x63⟩
    · exact ⟨x9, x64⟩
    · exact ⟨x10, x65⟩
    · exact ⟨x11, x66⟩)⟩
  have x_OutOfRange : mg "OutOfRange" = some (.ref (He.ga K "OutOfRange")) ∧ ∀ k ∈ ([("SyntaxProblem", false), ("TooMany", false), ("InvalidNumber", false), ("ZeroDivisor", false), ("OtherRoot", false), ("NoVariable", false), ("OutOfRange", true), ("Incompatible", false), ("NotReached", false), ("NoMark", false), ("InvalidCommand", false)] : List (Str × Bool)), excB k.1 K = true ∧ isaB k.1 "OutOfRange" k.2 K = true := ⟨gl_OutOfRange, (by
    intro c hc
    simp only [List.mem_cons, List.not_mem_nil, or_false] at hc
    rcases hc with rfl | rfl | rfl | rfl | rfl | rfl | rfl | rfl | rfl | rfl | rfl
    · exact ⟨x1, x67⟩
    · exact ⟨x2, x68⟩
    · exact ⟨x3, x69⟩
    · exact ⟨x4, x70⟩
    · exact ⟨x5, x71⟩
    · exact ⟨x6, x72⟩
    · exact ⟨x7, x73⟩
    · exact ⟨x8, x74⟩
    · exact ⟨x9, x75⟩
    · exact ⟨x10, x76⟩
    · exact ⟨x11, x77⟩)⟩
  have x_NoVariable : mg "NoVariable" = some (.ref (He.ga K "NoVariable")) ∧ ∀ k ∈ ([("SyntaxProblem", false), ("TooMany", false), ("InvalidNumber", false), ("ZeroDivisor", false), ("OtherRoot", false), ("NoVariable", true), ("OutOfRange", false), ("Incompatible", false), ("NotReached", false), ("NoMark", false), ("InvalidCommand", false)] : List (Str × Bool)), excB k.1 K = true ∧ isaB k.1 "NoVariable" k.2 K = true := ⟨gl_NoVariable, (by
    intro c hc
    simp only [List.mem_cons, List.not_mem_nil, or_false] at hc
    rcases hc with rfl | rfl | rfl | rfl | rfl | rfl | rfl | rfl | rfl | rfl | rfl
    · exact ⟨x1, x78⟩
    · exact ⟨x2, x79⟩
    · exact ⟨x3, x80⟩
    · exact ⟨x4, x81⟩
    · exact ⟨x5, x82⟩
    · exact ⟨x6, x83⟩
    · exact ⟨x7, x84⟩
    · exact ⟨x8, x85⟩
    · exact ⟨x9, x86⟩
    · exact ⟨x10, x87⟩
    · exact ⟨x11, x88⟩)⟩
  have x_OtherRoot : mg "OtherRoot" = some (.ref (He.ga K "OtherRoot")) ∧ ∀ k ∈ ([("SyntaxProblem", false), ("TooMany", false), ("InvalidNumber", false), ("ZeroDivisor", false), ("OtherRoot", true), ("NoVariable", false), ("OutOfRange", false), ("Incompatible", false), ("NotReached", false), ("NoMark", false), ("InvalidCommand", false)] : List (Str × Bool)), excB k.1 K = true ∧ isaB k.1 "OtherRoot" k.2 K = true := ⟨gl_OtherRoot, (by
    intro c hc
    simp only [List.mem_cons, List.not_mem_nil, or_false] at hc
    rcases hc with rfl | rfl | rfl | rfl | rfl | rfl | rfl | rfl | rfl | rfl | rfl
    · exact ⟨x1, x89⟩
    · exact ⟨x2, x90⟩
    · exact ⟨x3, x91⟩
    · exact ⟨x4, x92⟩
    · exact ⟨x5, x93⟩
    · exact ⟨x6, x94⟩
    · exact ⟨x7, x95⟩
    · exact ⟨x8, x96⟩
    · exact ⟨x9, x97⟩
    · exact ⟨x10, x98⟩
    · exact ⟨x11, x99⟩)⟩
  have x_ZeroDivisor : mg "ZeroDivisor" = some (.ref (He.ga K "ZeroDivisor")) ∧ ∀ k ∈ ([("SyntaxProblem", false), ("TooMany", false), ("InvalidNumber", false), ("ZeroDivisor", true), ("OtherRoot", false), ("NoVariable", false), ("OutOfRange", false), ("Incompatible", false), ("NotReached", false), ("NoMark", false), ("InvalidCommand", false)] : List (Str × Bool)), excB k.1 K = true ∧ isaB k.1 "ZeroDivisor" k.2 K = true := ⟨gl_ZeroDivisor, (by
    intro c hc
    simp only [List.mem_cons, List.not_mem_nil, or_false] at hc
    rcases hc with rfl | rfl | rfl | rfl | rfl | rfl | rfl | rfl | rfl | rfl | rfl
    · exact ⟨x1, x100⟩
    · exact ⟨x2, x101⟩
    · exact ⟨x3, x102⟩
    · exact ⟨x4, x103⟩
    · exact ⟨x5, x104⟩
    · exact ⟨x6, x105⟩
    · exact ⟨x7, x106⟩
    · exact ⟨x8, x107⟩
    · exact ⟨x9, x108⟩
    · exact ⟨x10, x109⟩
    · exact ⟨x11, x110⟩)⟩
  have x_InvalidNumber : mg "InvalidNumber" = some (.ref (He.ga K "InvalidNumber")) ∧ ∀ k ∈ ([("SyntaxProblem", false), ("TooMany", false), ("InvalidNumber", true), ("ZeroDivisor", false), ("OtherRoot", false), ("NoVariable", false), ("OutOfRange", false), ("Incompatible", false), ("NotReached", false), ("NoMark", false), ("InvalidCommand", false)] : List (Str × Bool)), excB k.1 K = true ∧ isaB k.1 "InvalidNumber" k.2 K = true := ⟨gl_InvalidNumber, (by
    intro c hc
    simp only [List.mem_cons, List.not_mem_nil, or_false] at hc
    rcases hc with rfl | rfl | rfl | rfl | rfl | rfl | rfl | rfl | rfl | rfl | rfl
    · exact ⟨x1, x111⟩
    · exact ⟨x2, x112⟩
    · exact ⟨x3, x113⟩
    · exact ⟨x4, x114⟩
    · exact ⟨x5, x115⟩
    · exact ⟨x6, x116⟩
    · exact ⟨x7, x117⟩
    · exact ⟨x8, x118⟩
    · exact ⟨x9, x119⟩
    · exact ⟨x10, x120⟩
    · exact ⟨x11, x121⟩)⟩
  have x_TooMany : mg "TooMany" = some (.ref (He.ga K "TooMany")) ∧ ∀ k ∈ ([("SyntaxProblem", false), ("TooMany", true), ("InvalidNumber", false), ("ZeroDivisor", false), ("OtherRoot", false), ("NoVariable", false), ("OutOfRange", false), ("Incompatible", false), ("NotReached", false), ("NoMark", false), ("InvalidCommand", false)] : List (Str × Bool)), excB k.1 K = true ∧ isaB k.1 "TooMany" k.2 K = true := ⟨gl_TooMany, (by
    intro c hc
    simp only [List.mem_cons, List.not_mem_nil, or_false] at hc
    rcases hc with rfl | rfl | rfl | rfl | rfl | rfl | rfl | rfl | rfl | rfl | rfl
    · exact ⟨x1, x122⟩
    · exact ⟨x2, x123⟩
    · exact ⟨x3, x124⟩
    · exact ⟨x4, x125⟩
    · exact ⟨x5, x126⟩
    · exact ⟨x6, x127⟩
    · exact ⟨x7, x128⟩
    · exact ⟨x8, x129⟩
    · exact ⟨x9, x130⟩
    · exact ⟨x10, x131⟩
    · exact ⟨x11, x132⟩)⟩
  have x_SyntaxProblem : mg "SyntaxProblem" = some (.ref (He.ga K "SyntaxProblem")) ∧ ∀ k ∈ ([("SyntaxProblem", true), ("TooMany", false), ("InvalidNumber", false), ("ZeroDivisor", false), ("OtherRoot", false), ("NoVariable", false), ("OutOfRange", false), ("Incompatible", false), ("NotReached", false), ("NoMark", false), ("InvalidCommand", false)] : List (Str × Bool)), excB k.1 K = true ∧ isaB k.1 "SyntaxProblem" k.2 K = true := ⟨gl_SyntaxProblem, (by
    intro c hc
    simp only [List.mem_cons, List.not_mem_nil, or_false] at hc
    rcases hc with rfl | rfl | rfl | rfl | rfl | rfl | rfl | rfl | rfl | rfl | rfl
    · exact ⟨x1, x133⟩
    · exact ⟨x2, x134⟩
    · exact ⟨x3, x135⟩
    · exact ⟨x4, x136⟩
    · exact ⟨x5, x137⟩
    · exact ⟨x6, x138⟩
    · exact ⟨x7, x139⟩
    · exact ⟨x8, x140⟩
    · exact ⟨x9, x141⟩
    · exact ⟨x10, x142⟩
    · exact ⟨x11, x143⟩)⟩
  have x_TwoSpeedsError : mg "TwoSpeedsError" = some (.ref (He.ga K "TwoSpeedsError")) ∧ ∀ k ∈ ([("SyntaxProblem", true), ("TooMany", true), ("InvalidNumber", true), ("ZeroDivisor", true), ("OtherRoot", true), ("NoVariable", true), ("OutOfRange", true), ("Incompatible", true), ("NotReached", true), ("NoMark", true), ("InvalidCommand", true)] : List (Str × Bool)), excB k.1 K = true ∧ isaB k.1 "TwoSpeedsError" k.2 K = true := ⟨gl_TwoSpeedsError, (by
    intro c hc
    simp only [List.mem_cons, List.not_mem_nil, or_false] at hc
    rcases hc with rfl | rfl | rfl | rfl | rfl | rfl | rfl | rfl | rfl | rfl | rfl
    · exact ⟨x1, x144⟩
    · exact ⟨x2, x145⟩
    · exact ⟨x3, x146⟩
    · exact ⟨x4, x147⟩
    · exact ⟨x5, x148⟩
    · exact ⟨x6, x149⟩
    · exact ⟨x7, x150⟩
    · exact ⟨x8, x151⟩
    · exact ⟨x9, x152⟩
    · exact ⟨x10, x153⟩
    · exact ⟨x11, x154⟩)⟩
  have S_SyntaxProblem : SuI P K "SyntaxProblem" d_init_SyntaxProblem ["line", "column"] := su_of rfl (says_su cs 0 (d := d_init_SyntaxProblem) rfl) x155 hP hT
  have S_TooMany : SuI P K "TooMany" d_init_TooMany ["limit"] := su_of rfl (says_su cs 1 (d := d_init_TooMany) rfl) x156 hP hT
  have xf_limit : ∀ c ∈ (["TooMany"] : List Str), xfkB c "limit" K = true := (by
    intro c hc
    simp only [List.mem_cons, List.not_mem_nil, or_false] at hc
    rcases hc with rfl
    · exact x157)
  have xf_column : ∀ c ∈ (["SyntaxProblem"] : List Str), xfkB c "column" K = true := (by
    intro c hc
    simp only [List.mem_cons, List.not_mem_nil, or_false] at hc
    rcases hc with rfl
    · exact x158)
  have xf_line : ∀ c ∈ (["SyntaxProblem"] : List Str), xfkB c "line" K = true := (by
    intro c hc
    simp only [List.mem_cons, List.not_mem_nil, or_false] at hc
    rcases hc with rfl
    · exact x159)
  have e := hfa.symm.trans g_law
  cases e
  have b := L2.FunD.bindsA (ps := ["script"]) F_law fun _ _ _ _ _ _ us hl => match us, hl with | [_], _ => rfl
  refine ⟨fd_law, fun s v => b s [v] rfl, fun base _ _ => ?_⟩
  have I_SyntaxProblem : MkOk P w K mg base "SyntaxProblem" ["self", "line", "column"] ["line", "column"] := ⟨S_SyntaxProblem.ot, S_SyntaxProblem.iC, S_SyntaxProblem.tI, mk_init_SyntaxProblem S_SyntaxProblem m_super, gl_SyntaxProblem⟩
  have I_TooMany : MkOk P w K mg base "TooMany" ["self", "limit"] ["limit"] := ⟨S_TooMany.ot, S_TooMany.iC, S_TooMany.tI, mk_init_TooMany S_TooMany m_super, gl_TooMany⟩
  have D_law_stirred : DefOk P w K mg base 1 "_law_stirred" ["cell", "place"] (spP K m_law_stirred) := def_ok (st := st_law_stirred) F_law_stirred g_law_stirred (FD.FnG.toP (ok0_law_stirred F_law_stirred m_range) t_law_stirred) fun _ _ _ _ _ _ us hl => match us, hl with | [_, _], _ => rfl
  have D_law_spool_of : DefOk P w K mg base 1 "_law_spool_of" ["script"] (spN K mN_law_spool_of) := def_ok (st := st_law_spool_of) F_law_spool_of g_law_spool_of ((ok0_law_spool_of F_law_spool_of m_abs m_enumerate).imp t_law_spool_of) fun _ _ _ _ _ _ us hl => match us, hl with | [_], _ => rfl
  have D_law_alike : DefOk P w K mg base 1 "_law_alike" ["one", "other"] (spP K m_law_alike) := def_ok (st := st_law_alike) F_law_alike g_law_alike (FD.FnG.toP (ok0_law_alike F_law_alike xdig m_repr) t_law_alike) fun _ _ _ _ _ _ us hl => match us, hl with | [_, _], _ => rfl
  have D_law_error_kind : DefOk P w K mg base 1 "_law_error_kind" ["error"] (spP K m_law_error_kind) := def_ok (st := st_law_error_kind) F_law_error_kind g_law_error_kind (FD.FnG.toP (ok0_law_error_kind F_law_error_kind x_ValueError x_InvalidCommand x_NoMark x_NotReached x_Incompatible x_OutOfRange x_NoVariable x_OtherRoot x_ZeroDivisor x_InvalidNumber x_TooMany x_SyntaxProblem m_isinstance) t_law_error_kind) fun _ _ _ _ _ _ us hl => match us, hl with | [_], _ => rfl
  have D_law_upto : DefOk P w K mg base 2 "_law_upto" ["spool", "bound"] (spS K m_law_upto) := def_ok (st := st_law_upto) F_law_upto g_law_upto (FD.FnG.toS (ok0_law_upto F_law_upto D_law_stirred m_len) t_law_upto) fun _ _ _ _ _ _ us hl => match us, hl with | [_, _], _ => rfl
  have D_law_choice : DefOk P w K mg base 3 "_law_choice" ["spool", "items"] (spS K m_law_choice) := def_ok (st := st_law_choice) F_law_choice g_law_choice (FD.FnG.toS (ok0_law_choice F_law_choice D_law_upto m_len) t_law_choice) fun _ _ _ _ _ _ us hl => match us, hl with | [_, _], _ => rfl
  exact ok_law F_law D_law_alike D_law_error_kind D_law_choice D_law_upto D_law_spool_of R_InvalidCommand R_NoMark R_NotReached R_Incompatible R_OutOfRange R_NoVariable R_OtherRoot R_ZeroDivisor R_InvalidNumber x_TwoSpeedsError I_TooMany I_SyntaxProblem xf_limit xf_column xf_line m_zip m_isinstance m_range
end T4.L6
open PySem PySem.W PySem.Calls PyProof.Rows
set_option maxRecDepth 100000 in
set_option maxHeartbeats 0 in
theorem PySem.Challenge.cw_twospeeds_k06_errors_holds : PySem.Challenge.rw_twospeeds_k06_errors.Holds := by
  w_on; o_law
  refine HandSHeadRun.head_any (r := OpenLaw.row PySem.Challenge.rw_twospeeds_k06_errors) (q := view (OpenLaw.row PySem.Challenge.rw_twospeeds_k06_errors).prog [20]) (H := T4.L6.hk) (ob := FD.obU 4 T4.L6.faL T4.L6.fnL T4.L6.exB T4.L6.suL) (M := 8000) (loose := T4.L6.loose) (d := HandSHeadRun.topDef (OpenLaw.row PySem.Challenge.rw_twospeeds_k06_errors).prog 20) (kwd := []) (FD.obU_eq 4 T4.L6.faL T4.L6.fnL T4.L6.exB T4.L6.suL)
    (by kernel_rfl) (fun s => by kernel_rfl) T4.L6.run (by kernel_rfl) (by kernel_rfl) (by kernel_rfl) (by rfl) (by first | assumption | decide +kernel) (by decide +kernel) ⟨rfl, rfl, rfl, rfl, rfl, by decide +kernel⟩ ?hw ?hc
  case hw => w_witness2
  case hc =>
    refine FD.walkG (l := PySem.Challenge.rw_twospeeds_k06_errors) (n := 63) (k := 4) (x := "script") (CX := L2.CX0) rfl (by decide) (by kernel_rfl) ⟨⟨rfl, by decide, by decide⟩, rfl⟩ ?F (fun _ _ _ _ z => z)
    intro w mg fa h Y G hmg0
    obtain ⟨K, KX, c, cx, cs⟩ := Y
    have hmg : mg ("law" : PySem.Str) = some (.ref fa) := by
      have e : (HandSHeadRun.topDef (OpenLaw.row PySem.Challenge.rw_twospeeds_k06_errors).prog 20).name = ("law" : PySem.Str) := by kernel_rfl
      rw [← e]
      exact hmg0
    obtain ⟨fd, hb, hF⟩ := T4.L6.facts (P := (PySem.Challenge.rw_twospeeds_k06_errors).prog) (w := w) KX G hmg c cx cs (by decide +kernel) (by decide +kernel)
    exact ⟨K, fd, FD.spLaw K, KX, hb, fun H a ns hl _ hS => ⟨a, ns, rfl, hS, hl, fun _ => rfl⟩, hF⟩
