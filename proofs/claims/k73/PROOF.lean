import PyProof.Rows.All
import Wide.All
import OpenK.AllK
import Wide.FinOn
import HandS.ForMost
import HandS.ForExc
import HandS.Walk
import HandS.Deep
import HandS.IsInst
import HandS.TupAny
import HandS.TupLe
import HandS.Strs
import HandS.Conv
import HandS.SortInts
import HandS.Dict
import HandS.DictTup
import HandS.Iter
import HandS.More
import HandS.Star
import HandS.DictComp
import KE.SortData
import KE.DataCmp
import HandS.NoneIn
import KE.GoesEnum
import HandS.Defaults
import HandS.IterVal
import KE.KOwnIter
import OpenK.KOps
import HandS.SetFor
import HandS.Set
import KE.DataMinMax
import KE.KStateDown
import HandS.HeadEnd
import HandS.HeadHook1
import HandS.HeadHook2
import HandS.Head0
import HandS.Head1
import HandS.Head2
import PySem.Challenge.RW_strayplates_k73_whole_cuts
set_option Elab.async false
set_option linter.all false
set_option maxRecDepth 100000
set_option maxHeartbeats 4000007
/-! # CzA -/
namespace Cz
open L2 PyProof.Rows PySem.Spec PySem

/-! ## data, told without the heap -/
inductive D where
  | non | bl (b : Bool) | int (i : Int) | str (x : Str)
  | tup (l : List D) | tuk (l : List D) | lst (l : List D) | rol (l : List D) | dk (l : List (Key × D)) | dt (l : List (List Key × D)) | obj (C : Addr) (l : List (Str × D))
  | ref (a : Addr) | ty (t : String)

/-- a key of a dict as data -/
def kD : Key → D
  | .inl i => .int i
  | .inr x => .str x

mutual
inductive Rp (K : PySem.W.Frag) (F : Hp) : D → V → Prop
  | non : Rp K F .non .non
  | bl (b : Bool) : Rp K F (.bl b) (.bl b)
  | int (i : Int) : Rp K F (.int i) (.int i)
  | str (x : Str) : Rp K F (.str x) (.str x)
  | ref (a : Addr) : Rp K F (.ref a) (.ref a)
  | ty (t : String) : Rp K F (.ty t) (.ty t)
  | tup {a : Addr} {xs : List V} {ds : List D} : F a = some (.tup xs) → RpL K F ds xs → Rp K F (.tup ds) (.ref a)
  | tuk {a : Addr} {xs : List V} {ds : List D} : SqT K F a xs → RpL K F ds xs → Rp K F (.tuk ds) (.ref a)
  | lst {a : Addr} {xs : List V} {ds : List D} : F a = some (.lst xs) → RpL K F ds xs → Rp K F (.lst ds) (.ref a)
  | rol {a : Addr} {xs : List V} {ds : List D} : SqL K F a xs → RpL K F ds xs → Rp K F (.rol ds) (.ref a)
  | dk {a : Addr} {l : List (Key × D)} {kvs : List (Key × V)} : Rd F a (.dK kvs) → RpK K F l kvs → Rp K F (.dk l) (.ref a)
  | dt {a : Addr} {l : List (List Key × D)} {kvs : List (List Key × V)} : Rd F a (.dT kvs) → RpT K F l kvs → Rp K F (.dt l) (.ref a)
  | obj {a C dx : Addr} {l : List (Str × D)} {fs : List (Str × V)} : F a = some (.ins C dx fs) → RpF K F l fs → Rp K F (.obj C l) (.ref a)
inductive RpL (K : PySem.W.Frag) (F : Hp) : List D → List V → Prop
  | nil : RpL K F [] []
  | cons {d : D} {ds : List D} {v : V} {vs : List V} : Rp K F d v → RpL K F ds vs → RpL K F (d :: ds) (v :: vs)
inductive RpF (K : PySem.W.Frag) (F : Hp) : List (Str × D) → List (Str × V) → Prop
  | nil : RpF K F [] []
  | cons {f : Str} {d : D} {ds : List (Str × D)} {v : V} {vs : List (Str × V)} : Rp K F d v → RpF K F ds vs → RpF K F ((f, d) :: ds) ((f, v) :: vs)
inductive RpK (K : PySem.W.Frag) (F : Hp) : List (Key × D) → List (Key × V) → Prop
  | nil : RpK K F [] []
  | cons {k : Key} {d : D} {ds : List (Key × D)} {v : V} {vs : List (Key × V)} : Rp K F d v → RpK K F ds vs → RpK K F ((k, d) :: ds) ((k, v) :: vs)
inductive RpT (K : PySem.W.Frag) (F : Hp) : List (List Key × D) → List (List Key × V) → Prop
  | nil : RpT K F [] []
  | cons {k : List Key} {d : D} {ds : List (List Key × D)} {v : V} {vs : List (List Key × V)} : Rp K F d v → RpT K F ds vs → RpT K F ((k, d) :: ds) ((k, v) :: vs)
end

def Sub (F F' : Hp) : Prop := ∀ a o, F a = some o → F' a = some o
theorem Sub.refl {F : Hp} : Sub F F := fun _ _ h => h
theorem Sub.trans {F F1 F2 : Hp} (a : Sub F F1) (b : Sub F1 F2) : Sub F F2 := fun x o h => b x o (a x o h)
theorem Sub.rd {F F' : Hp} {a : Addr} {u : HO} (s : Sub F F') (h : Rd F a u) : Rd F' a u := by
  rcases h with h | ⟨o, h⟩
  · exact .inl (s _ _ h)
  · exact .inr ⟨o, s _ _ h⟩
theorem Sub.l {K : PySem.W.Frag} {F F' : Hp} {a : Addr} {xs : List V} (s : Sub F F') (h : SqL K F a xs) : SqL K F' a xs := by
  rcases h with h | h
  · exact .inl (s.rd h)
  · exact .inr h
theorem Sub.t {K : PySem.W.Frag} {F F' : Hp} {a : Addr} {xs : List V} (s : Sub F F') (h : SqT K F a xs) : SqT K F' a xs := by
  rcases h with h | h
  · exact .inl (s.rd h)
  · exact .inr h
theorem Sub.free {F F' : Hp} {a : Addr} (s : Sub F F') (h : F' a = none) : F a = none := by
  cases e : F a with
  | none => rfl
  | some o => rw [s a o e] at h; cases h

section
variable {K : PySem.W.Frag} {F F' : Hp}
mutual
theorem Rp.mono (s : Sub F F') : ∀ {d : D} {v : V}, Rp K F d v → Rp K F' d v
  | _, _, .non => .non
  | _, _, .bl b => .bl b
  | _, _, .int i => .int i
  | _, _, .str x => .str x
  | _, _, .ref a => .ref a
  | _, _, .ty t => .ty t
  | _, _, .tup h r => .tup (s _ _ h) (r.mono s)
  | _, _, .tuk h r => .tuk (s.t h) (r.mono s)
  | _, _, .lst h r => .lst (s _ _ h) (r.mono s)
  | _, _, .rol h r => .rol (s.l h) (r.mono s)
  | _, _, .dk h r => .dk (s.rd h) (r.mono s)
  | _, _, .dt h r => .dt (s.rd h) (r.mono s)
  | _, _, .obj h r => .obj (s _ _ h) (r.mono s)
theorem RpL.mono (s : Sub F F') : ∀ {d : List D} {v : List V}, RpL K F d v → RpL K F' d v
  | _, _, .nil => .nil
  | _, _, .cons h r => .cons (h.mono s) (r.mono s)
theorem RpF.mono (s : Sub F F') : ∀ {d : List (Str × D)} {v : List (Str × V)}, RpF K F d v → RpF K F' d v
  | _, _, .nil => .nil
  | _, _, .cons h r => .cons (h.mono s) (r.mono s)
theorem RpK.mono (s : Sub F F') : ∀ {d : List (Key × D)} {v : List (Key × V)}, RpK K F d v → RpK K F' d v
  | _, _, .nil => .nil
  | _, _, .cons h r => .cons (h.mono s) (r.mono s)
theorem RpT.mono (s : Sub F F') : ∀ {d : List (List Key × D)} {v : List (List Key × V)}, RpT K F d v → RpT K F' d v
  | _, _, .nil => .nil
  | _, _, .cons h r => .cons (h.mono s) (r.mono s)
end
/-- the items of a tuple, wherever it stands -/
def tupL : D → Option (List D)
  | .tup l => some l
  | .tuk l => some l
  | _ => none
theorem Rp.sqt {d : D} {v : V} {l : List D} (h : Rp K F d v) (e : tupL d = some l) : ∃ a xs, v = .ref a ∧ SqT K F a xs ∧ RpL K F l xs := by
  cases h with
  | tup h r => cases e; exact ⟨_, _, rfl, SqT.of h, r⟩
  | tuk h r => cases e; exact ⟨_, _, rfl, h, r⟩
  | _ => cases e
theorem RpL.length : ∀ {ds : List D} {vs : List V}, RpL K F ds vs → ds.length = vs.length
  | _, _, .nil => rfl
  | _, _, .cons _ r => congrArg (· + 1) r.length
theorem RpL.get : ∀ {ds : List D} {vs : List V} {i : Nat} {d : D}, RpL K F ds vs → ds[i]? = some d → ∃ v, vs[i]? = some v ∧ Rp K F d v
  | _, _, _, _, .nil, e => by (simp at e)
  | _, _, 0, _, .cons h _, e => by
    simp at e
    subst e
    exact ⟨_, rfl, h⟩
  | _, _, i + 1, _, .cons _ r, e => by
    obtain ⟨v, h1, h2⟩ := r.get (i := i) (by simpa using e)
    exact ⟨v, by simpa using h1, h2⟩
theorem RpL.get' : ∀ {ds : List D} {vs : List V} {i : Nat} {v : V}, RpL K F ds vs → vs[i]? = some v → ∃ d, ds[i]? = some d ∧ Rp K F d v
  | _, _, _, _, .nil, e => by (simp at e)
  | _, _, 0, _, .cons h _, e => by
    simp at e
    subst e
    exact ⟨_, rfl, h⟩
  | _, _, i + 1, _, .cons _ r, e => by
    obtain ⟨v, h1, h2⟩ := r.get' (i := i) (by simpa using e)
    exact ⟨v, by simpa using h1, h2⟩
theorem RpL.append : ∀ {ds es : List D} {vs us : List V}, RpL K F ds vs → RpL K F es us → RpL K F (ds ++ es) (vs ++ us)
  | _, _, _, _, .nil, h => h
  | _, _, _, _, .cons h r, q => .cons h (r.append q)
theorem RpL.set {e : D} {u : V} (hu : Rp K F e u) : ∀ {ds : List D} {vs : List V} (i : Nat), RpL K F ds vs → RpL K F (ds.set i e) (vs.set i u)
  | _, _, _, .nil => .nil
  | _, _, 0, .cons _ r => .cons hu r
  | _, _, i + 1, .cons h r => .cons h (r.set hu i)
theorem RpL.take : ∀ {ds : List D} {vs : List V} (n : Nat), RpL K F ds vs → RpL K F (ds.take n) (vs.take n)
  | _, _, 0, _ => .nil
  | _, _, _ + 1, .nil => .nil
  | _, _, n + 1, .cons h r => .cons h (r.take n)
theorem RpL.drop : ∀ {ds : List D} {vs : List V} (n : Nat), RpL K F ds vs → RpL K F (ds.drop n) (vs.drop n)
  | _, _, 0, h => h
  | _, _, _ + 1, .nil => .nil
  | _, _, n + 1, .cons _ r => r.drop n
theorem RpF.lookup {f : Str} : ∀ {ds : List (Str × D)} {vs : List (Str × V)}, RpF K F ds vs → (ds.lookup f = none ∧ vs.lookup f = none) ∨ ∃ d v, ds.lookup f = some d ∧ vs.lookup f = some v ∧ Rp K F d v
  | _, _, .nil => .inl (And.intro rfl rfl)
  | _, _, .cons (f := g) (d := d) (v := v) h r => by
    simp only [List.lookup]
    cases e : (f == g) with
    | true => exact .inr ⟨d, v, rfl, rfl, h⟩
    | false => exact r.lookup
end
end Cz

/-! # CzB -/
namespace Cz
open L2 PyProof.Rows PySem.Spec PySem

/-! ## what a name holds; what a step gives -/
inductive OD where
  | lst (l : List D) | dk (lk : Bool) (l : List (Key × D)) | dt (lk : Bool) (l : List (List Key × D)) | obj (C : Addr) (l : List (Str × D))
def OD.fz : OD → D
  | .lst l => .lst l
  | .dk _ l => .dk l
  | .dt _ l => .dt l
  | .obj C l => .obj C l
inductive RpO (K : PySem.W.Frag) (F : Hp) : OD → HO → Prop
  | lst {l : List D} {xs : List V} : RpL K F l xs → RpO K F (.lst l) (.lst xs)
  | dk {l : List (Key × D)} {kvs : List (Key × V)} : RpK K F l kvs → RpO K F (.dk false l) (.dK kvs)
  | dt {l : List (List Key × D)} {kvs : List (List Key × V)} : RpT K F l kvs → RpO K F (.dt false l) (.dT kvs)
  | dkl {l : List (Key × D)} {kvs : List (Key × V)} {od : Obj} : RpK K F l kvs → RpO K F (.dk true l) (.frz od (.dK kvs))
  | dtl {l : List (List Key × D)} {kvs : List (List Key × V)} {od : Obj} : RpT K F l kvs → RpO K F (.dt true l) (.frz od (.dT kvs))
  | obj {C dx : Addr} {l : List (Str × D)} {fs : List (Str × V)} : RpF K F l fs → RpO K F (.obj C l) (.ins C dx fs)
/-- fz: data that nobody changes any more; ow: an object of this def's own; br: one that the caller has lent -/
inductive SV where
  | fz (d : D) | ow (o : OD) | br (o : OD)
def SV.own : SV → Option OD
  | .fz _ => none
  | .ow o => some o
  | .br o => some o
abbrev SS := List (Option SV)
inductive R (α : Type) where
  | ok (a : α) (s : SS) | ex (c : Addr) (l : List (Str × D)) (s : SS) | no
abbrev M (α : Type) := SS → R α
def R.bind {α β : Type} (r : R α) (f : α → SS → R β) : R β := match r with
  | .ok a s => f a s
  | .ex c l s => .ex c l s
  | .no => .no
/-- an expression's end: data, a new object of one's own, what the i-th name holds -/
inductive Rv where
  | d (d : D) | o (o : OD) | b (i : Nat)

section
variable {K : PySem.W.Frag}
theorem RpO.mono {F F' : Hp} (s : Sub F F') {o : OD} {h : HO} : RpO K F o h → RpO K F' o h
  | .lst r => .lst (r.mono s)
  | .dk r => .dk (r.mono s)
  | .dt r => .dt (r.mono s)
  | .dkl r => .dkl (r.mono s)
  | .dtl r => .dtl (r.mono s)
  | .obj r => .obj (r.mono s)
theorem RpO.rp {F : Hp} {o : OD} {h : HO} {p : Addr} (e : F p = some h) : RpO K F o h → Rp K F o.fz (.ref p)
  | .lst r => .lst e r
  | .dk r => .dk (.inl e) r
  | .dt r => .dt (.inl e) r
  | .dkl r => .dk (.inr ⟨_, e⟩) r
  | .dtl r => .dt (.inr ⟨_, e⟩) r
  | .obj r => .obj e r
/-- what is owned is no tuple -/
def Tu (H : Hp) (a : Addr) : Prop := ∃ xs, H a = some (.tup xs)
theorem RpO.notTup {F H : Hp} {o : OD} {h : HO} {p : Addr} (e : H p = some h) (r : RpO K F o h) : ¬ Tu H p := by
  rintro ⟨xs, q⟩
  rw [e] at q
  cases q
  cases r

def Ow (σ : L2.St) (s : SS) (a : Addr) : Prop := ∃ (i : Nat) (sv : SV) (o : OD), s[i]? = some (some sv) ∧ SV.own sv = some o ∧ σ[i]? = some (some (.ref a))
structure RS (K : PySem.W.Frag) (F H : Hp) (σ : L2.St) (s : SS) : Prop where
  sub : Sub F H
  len : σ.length = s.length
  fz : ∀ (i : Nat) (d : D), s[i]? = some (some (.fz d)) → ∃ v, σ[i]? = some (some v) ∧ Rp K F d v
  ow : ∀ (i : Nat) (sv : SV) (o : OD), s[i]? = some (some sv) → SV.own sv = some o → ∃ p ho, σ[i]? = some (some (.ref p)) ∧ F p = none ∧ H p = some ho ∧ RpO K F o ho
  ne : ∀ (i j : Nat) (si sj : SV) (oi oj : OD) (p : Addr), s[i]? = some (some si) → SV.own si = some oi → s[j]? = some (some sj) → SV.own sj = some oj → σ[i]? = some (some (.ref p)) → σ[j]? = some (some (.ref p)) → i = j
theorem RS.owF {F H : Hp} {σ : L2.St} {s : SS} (r : RS K F H σ s) {a : Addr} (h : Ow σ s a) : F a = none ∧ ∃ ho, H a = some ho := by
  obtain ⟨i, sv, o, h1, h2, h3⟩ := h
  obtain ⟨p, ho, e1, e2, e3, _⟩ := r.ow i sv o h1 h2
  have e : a = p := by
    rw [h3] at e1
    exact V.ref.inj (Option.some.inj (Option.some.inj e1))
  subst e
  exact ⟨e2, ho, e3⟩

/-- from one state to a later one of the same def -/
structure Go (K : PySem.W.Frag) (F H : Hp) (σ : L2.St) (s : SS) (F' H' : Hp) (σ' : L2.St) (s' : SS) : Prop where
  rs : RS K F' H' σ' s'
  fr : Sub F F'
  kp : ∀ a o, H a = some o → ¬ Ow σ s a → H' a = some o
  nw : ∀ a, F' a ≠ none → F a ≠ none ∨ H a = none ∨ Ow σ s a ∨ Tu H a
  ow : ∀ a, Ow σ' s' a → Ow σ s a ∨ H a = none
  br : ∀ (i : Nat) (o : OD), s[i]? = some (some (.br o)) → σ'[i]? = σ[i]? ∧ ∃ o', s'[i]? = some (some (.br o'))
  dm : ∀ a, H' a = none → H a = none
theorem Go.refl {F H : Hp} {σ : L2.St} {s : SS} (r : RS K F H σ s) : Go K F H σ s F H σ s :=
  ⟨r, Sub.refl, fun _ _ h _ => h, fun _ h => .inl h, fun _ h => .inl h, fun _ o h => ⟨rfl, o, h⟩, fun _ h => h⟩
theorem Go.trans {F H F1 H1 F2 H2 : Hp} {σ σ1 σ2 : L2.St} {s s1 s2 : SS} (a : Go K F H σ s F1 H1 σ1 s1) (b : Go K F1 H1 σ1 s1 F2 H2 σ2 s2) : Go K F H σ s F2 H2 σ2 s2 := by
  have back : ∀ x, H1 x = none → H x = none := a.dm
  refine ⟨b.rs, a.fr.trans b.fr, fun x o h n => b.kp x o (a.kp x o h n) fun w => ?_, fun x h => ?_, fun x h => ?_, fun i o h => ?_, fun x h => a.dm x (b.dm x h)⟩
  · rcases a.ow x w with w | w
    · exact n w
    · rw [h] at w; cases w
  · rcases b.nw x h with h | h | h | h
    · exact a.nw x h
    · exact .inr (.inl (back x h))
    · rcases a.ow x h with h | h
      · exact .inr (.inr (.inl h))
      · exact .inr (.inl h)
    · obtain ⟨xs, h⟩ := h
      cases e : H x with
      | none => exact .inr (.inl rfl)
      | some o =>
        by_cases w : Ow σ s x
        · exact .inr (.inr (.inl w))
        · have q := a.kp x o e w
          rw [h] at q
          cases q
          exact .inr (.inr (.inr ⟨xs, e⟩))
  · rcases b.ow x h with h | h
    · exact a.ow x h
    · exact .inr (back x h)
  · obtain ⟨e1, o1, h1⟩ := a.br i o h
    obtain ⟨e2, o2, h2⟩ := b.br i o1 h1
    exact ⟨e2.trans e1, o2, h2⟩

/-- what an expression's end stands for; H0: the heap ahead of it -/
def RpR (K : PySem.W.Frag) (H0 F H : Hp) (σ : L2.St) (s : SS) : Rv → V → Prop
  | .d d, v => Rp K F d v
  | .o o, v => ∃ p ho, v = .ref p ∧ F p = none ∧ H p = some ho ∧ RpO K F o ho ∧ H0 p = none ∧ ¬ Ow σ s p
  | .b i, v => σ[i]? = some (some v)
theorem RpR.go {H0 F H F' H' : Hp} {σ : L2.St} {s s' : SS} {r : Rv} {v : V} (g : Go K F H σ s F' H' σ s') (h : RpR K H0 F H σ s r v) : RpR K H0 F' H' σ s' r v := by
  cases r with
  | d d => exact Rp.mono g.fr h
  | o o =>
    obtain ⟨p, ho, rfl, e1, e2, e3, e4, e5⟩ := h
    refine ⟨p, ho, rfl, ?_, g.kp p ho e2 e5, e3.mono g.fr, e4, fun w => ?_⟩
    · cases e : F' p with
      | none => rfl
      | some u =>
        rcases g.nw p (by rw [e]; exact fun z => nomatch z) with q | q | q | q
        · exact absurd e1 q
        · rw [e2] at q; cases q
        · exact absurd q e5
        · exact absurd q (e3.notTup e2)
    · rcases g.ow p w with q | q
      · exact e5 q
      · rw [e2] at q; cases q
  | b i => exact h
theorem RpR.back {H0 H1 F H : Hp} {σ : L2.St} {s : SS} {r : Rv} {v : V} (d : ∀ a, H1 a = none → H0 a = none) (h : RpR K H1 F H σ s r v) : RpR K H0 F H σ s r v := by
  cases r with
  | d d => exact h
  | o o =>
    obtain ⟨p, ho, rfl, e1, e2, e3, e4, e5⟩ := h
    exact ⟨p, ho, rfl, e1, e2, e3, d p e4, e5⟩
  | b i => exact h

/-! ### wishes -/
def Wn (K : PySem.W.Frag) (W : WX) (Q : VK) (F H : Hp) (σ : L2.St) (s : SS) : R Rv → Prop
  | .ok r s' => ∀ v F' H', Go K F H σ s F' H' σ s' → RpR K H F' H' σ s' r v → Q v H'
  | .ex c l s' => ∀ dd F' H' xs, Go K F H σ s F' H' σ s' → H' dd = some (.xd xs) → RpF K F' l xs → W (.ref c) (some dd) σ H'
  | .no => False
def EvX (K : PySem.W.Frag) (W : WX) (te : TE) (m : M Rv) : Prop := ∀ F H σ s Q, RS K F H σ s → Wn K W Q F H σ s (m s) → te σ H Q
def WnT (K : PySem.W.Frag) (W : WX) (Q : Bool → Hp → Prop) (F H : Hp) (σ : L2.St) (s : SS) : R Bool → Prop
  | .ok b s' => ∀ F' H', Go K F H σ s F' H' σ s' → Q b H'
  | .ex c l s' => ∀ dd F' H' xs, Go K F H σ s F' H' σ s' → H' dd = some (.xd xs) → RpF K F' l xs → W (.ref c) (some dd) σ H'
  | .no => False
def EvT (K : PySem.W.Frag) (W : WX) (tt : TT) (m : M Bool) : Prop := ∀ F H σ s Q, RS K F H σ s → WnT K W Q F H σ s (m s) → tt σ H Q

/-- a part, with what is still wished of the whole -/
theorem EvX.step {W : WX} {te : TE} {m : M Rv} (h : EvX K W te m) {F0 H0 F H : Hp} {σ : L2.St} {s0 s : SS} {Q Q1 : VK} {f : Rv → SS → R Rv} (g : Go K F0 H0 σ s0 F H σ s) (w : Wn K W Q F0 H0 σ s0 ((m s).bind f))
    (k : ∀ r s1 v F1 H1, Go K F0 H0 σ s0 F1 H1 σ s1 → Go K F H σ s F1 H1 σ s1 → RpR K H F1 H1 σ s1 r v → Wn K W Q F0 H0 σ s0 (f r s1) → Q1 v H1) : te σ H Q1 := by
  refine h F H σ s Q1 g.rs ?_
  cases e : m s with
  | ok r s1 =>
    rw [e] at w
    exact fun v F1 H1 g1 r1 => k r s1 v F1 H1 (g.trans g1) g1 r1 w
  | ex c l s1 =>
    rw [e] at w
    exact fun dd F1 H1 xs g1 => w dd F1 H1 xs (g.trans g1)
  | no =>
    rw [e] at w
    exact w
theorem EvX.stepT {W : WX} {te : TE} {m : M Rv} (h : EvX K W te m) {F0 H0 F H : Hp} {σ : L2.St} {s0 s : SS} {Q : Bool → Hp → Prop} {Q1 : VK} {f : Rv → SS → R Bool} (g : Go K F0 H0 σ s0 F H σ s) (w : WnT K W Q F0 H0 σ s0 ((m s).bind f))
    (k : ∀ r s1 v F1 H1, Go K F0 H0 σ s0 F1 H1 σ s1 → Go K F H σ s F1 H1 σ s1 → RpR K H F1 H1 σ s1 r v → WnT K W Q F0 H0 σ s0 (f r s1) → Q1 v H1) : te σ H Q1 := by
  refine h F H σ s Q1 g.rs ?_
  cases e : m s with
  | ok r s1 =>
    rw [e] at w
    exact fun v F1 H1 g1 r1 => k r s1 v F1 H1 (g.trans g1) g1 r1 w
  | ex c l s1 =>
    rw [e] at w
    exact fun dd F1 H1 xs g1 => w dd F1 H1 xs (g.trans g1)
  | no =>
    rw [e] at w
    exact w
theorem EvT.step {W : WX} {tt : TT} {m : M Bool} (h : EvT K W tt m) {F0 H0 F H : Hp} {σ : L2.St} {s0 s : SS} {Q : VK} {Q1 : Bool → Hp → Prop} {f : Bool → SS → R Rv} (g : Go K F0 H0 σ s0 F H σ s) (w : Wn K W Q F0 H0 σ s0 ((m s).bind f))
    (k : ∀ b s1 F1 H1, Go K F0 H0 σ s0 F1 H1 σ s1 → Go K F H σ s F1 H1 σ s1 → Wn K W Q F0 H0 σ s0 (f b s1) → Q1 b H1) : tt σ H Q1 := by
  refine h F H σ s Q1 g.rs ?_
  cases e : m s with
  | ok r s1 =>
    rw [e] at w
    exact fun F1 H1 g1 => k r s1 F1 H1 (g.trans g1) g1 w
  | ex c l s1 =>
    rw [e] at w
    exact fun dd F1 H1 xs g1 => w dd F1 H1 xs (g.trans g1)
  | no =>
    rw [e] at w
    exact w
theorem EvT.stepT {W : WX} {tt : TT} {m : M Bool} (h : EvT K W tt m) {F0 H0 F H : Hp} {σ : L2.St} {s0 s : SS} {Q Q1 : Bool → Hp → Prop} {f : Bool → SS → R Bool} (g : Go K F0 H0 σ s0 F H σ s) (w : WnT K W Q F0 H0 σ s0 ((m s).bind f))
    (k : ∀ b s1 F1 H1, Go K F0 H0 σ s0 F1 H1 σ s1 → Go K F H σ s F1 H1 σ s1 → WnT K W Q F0 H0 σ s0 (f b s1) → Q1 b H1) : tt σ H Q1 := by
  refine h F H σ s Q1 g.rs ?_
  cases e : m s with
  | ok r s1 =>
    rw [e] at w
    exact fun F1 H1 g1 => k r s1 F1 H1 (g.trans g1) g1 w
  | ex c l s1 =>
    rw [e] at w
    exact fun dd F1 H1 xs g1 => w dd F1 H1 xs (g.trans g1)
  | no =>
    rw [e] at w
    exact w

/-! ### to freeze, to look at -/
/-- data for good -/
def frz : Rv → M D
  | .d d, s => .ok d s
  | .o o, s => .ok o.fz s
  | .b i, s => match s[i]? with
    | some (some (.fz d)) => .ok d s
    | some (some (.ow o)) => .ok o.fz (s.set i (some (.fz o.fz)))
    | _ => .no
/-- a new object is nobody's: data for good; a name's object stays with the name -/
def nrm : Rv → Rv
  | .o o => .d o.fz
  | r => r
theorem lt_of_get {α : Type} {l : List α} {i : Nat} {x : α} (h : l[i]? = some x) : i < l.length := (List.getElem?_eq_some_iff.mp h).1
theorem get_set_eq {α : Type} {l : List α} {i : Nat} {x y : α} (h : l[i]? = some x) : (l.set i y)[i]? = some y := by
  rw [List.getElem?_set_self (lt_of_get h)]
theorem get_set_ne {α : Type} {l : List α} {i j : Nat} {y : α} (h : i ≠ j) : (l.set i y)[j]? = l[j]? := List.getElem?_set_ne h
/-- the heap of what is frozen grows by an object that is there -/
theorem RS.grow {F H : Hp} {σ : L2.St} {s : SS} {p : Addr} {ho : HO} (r : RS K F H σ s) (e1 : F p = none) (e2 : H p = some ho) (e3 : ¬ Ow σ s p) : RS K (upd F p ho) H σ s ∧ Sub F (upd F p ho) := by
  have sb : Sub F (upd F p ho) := fun a o h => by
    rw [upd_ne (ne_of_none h e1)]
    exact h
  refine ⟨⟨fun a o h => ?_, r.len, fun i d h => ?_, fun i sv o h1 h2 => ?_, r.ne⟩, sb⟩
  · by_cases q : a = p
    · subst q
      rw [upd_same] at h
      rw [e2]
      exact h
    · rw [upd_ne q] at h
      exact r.sub _ _ h
  · obtain ⟨v, h1, h2⟩ := r.fz i d h
    exact ⟨v, h1, h2.mono sb⟩
  · obtain ⟨q, hq, a1, a2, a3, a4⟩ := r.ow i sv o h1 h2
    have nq : q ≠ p := fun z => e3 ⟨i, sv, o, h1, h2, by rw [← z]; exact a1⟩
    exact ⟨q, hq, a1, by rw [upd_ne nq]; exact a2, a3, a4.mono sb⟩
/-- a new object, told as data, from where it was not yet there -/
theorem Go.grow {F0 H0 F H : Hp} {σ0 σ : L2.St} {s0 s : SS} {p : Addr} {ho : HO} (g : Go K F0 H0 σ0 s0 F H σ s) (e1 : F p = none) (e2 : H p = some ho) (e3 : ¬ Ow σ s p) (e4 : H0 p = none) : Go K F0 H0 σ0 s0 (upd F p ho) H σ s := by
  obtain ⟨r, sb⟩ := g.rs.grow e1 e2 e3
  refine ⟨r, g.fr.trans sb, g.kp, fun a h => ?_, g.ow, g.br, g.dm⟩
  by_cases q : a = p
  · subst q
    exact .inr (.inl e4)
  · rw [upd_ne q] at h
    exact g.nw a h
theorem nrm_ok {F0 H0 F H : Hp} {σ0 σ : L2.St} {s0 s : SS} {r : Rv} {v : V} (g : Go K F0 H0 σ0 s0 F H σ s) (h : RpR K H0 F H σ s r v) : ∃ F', Go K F0 H0 σ0 s0 F' H σ s ∧ Sub F F' ∧ RpR K H0 F' H σ s (nrm r) v := by
  cases r with
  | d d => exact ⟨F, g, Sub.refl, h⟩
  | o o =>
    obtain ⟨p, ho, rfl, e1, e2, e3, e4, e5⟩ := h
    have g' := g.grow e1 e2 e5 e4
    have sb : Sub F (upd F p ho) := (g.rs.grow e1 e2 e5).2
    exact ⟨_, g', sb, (e3.mono sb).rp upd_same⟩
  | b i => exact ⟨F, g, Sub.refl, h⟩
theorem RS.freeze {F H : Hp} {σ : L2.St} {s : SS} {i : Nat} {o : OD} (r : RS K F H σ s) (h : s[i]? = some (some (.ow o))) : ∃ p ho, σ[i]? = some (some (.ref p)) ∧ F p = none ∧ H p = some ho ∧ RpO K F o ho ∧
    Go K F H σ s (upd F p ho) H σ (s.set i (some (.fz o.fz))) ∧ Rp K (upd F p ho) o.fz (.ref p) := by
  obtain ⟨p, ho, e1, e2, e3, e4⟩ := r.ow i _ o h rfl
  have sb : Sub F (upd F p ho) := fun a u q => by
    rw [upd_ne (ne_of_none q e2)]
    exact q
  have rp := (e4.mono sb).rp (p := p) (upd_same (H := F))
  have sub : Sub (upd F p ho) H := fun a u q => by
    by_cases z : a = p
    · subst z
      rw [upd_same] at q
      rw [e3]
      exact q
    · rw [upd_ne z] at q
      exact r.sub _ _ q
  have old : ∀ j sv, j ≠ i → (s.set i (some (.fz o.fz)))[j]? = some (some sv) → s[j]? = some (some sv) := fun j sv nj q => by
    rw [get_set_ne (Ne.symm nj)] at q
    exact q
  have nown : ∀ j sv u, (s.set i (some (.fz o.fz)))[j]? = some (some sv) → SV.own sv = some u → j ≠ i ∧ s[j]? = some (some sv) := fun j sv u q w => by
    have nj : j ≠ i := fun z => by
      subst z
      rw [get_set_eq h] at q
      cases q
      cases w
    exact ⟨nj, old j sv nj q⟩
  refine ⟨p, ho, e1, e2, e3, e4, ⟨⟨sub, by rw [List.length_set]; exact r.len, fun j d q => ?_, fun j sv u q w => ?_, fun j k sj sk oj ok' q a1 a2 a3 a4 a5 a6 => ?_⟩, sb, fun a u q _ => q, fun a q => ?_, fun a q => ?_, fun j u q => ?_, fun _ q => q⟩, rp⟩
  · by_cases nj : j = i
    · subst nj
      rw [get_set_eq h] at q
      cases q
      exact ⟨_, e1, rp⟩
    · obtain ⟨v, a1, a2⟩ := r.fz j d (old j _ nj q)
      exact ⟨v, a1, a2.mono sb⟩
  · obtain ⟨nj, q'⟩ := nown j sv u q w
    obtain ⟨x, hx, a1, a2, a3, a4⟩ := r.ow j sv u q' w
    have nx : x ≠ p := fun z => nj (r.ne j i sv _ u o p q' w h rfl (by rw [← z]; exact a1) e1)
    exact ⟨x, hx, a1, by rw [upd_ne nx]; exact a2, a3, a4.mono sb⟩
  · exact r.ne j k sj sk oj ok' q (nown j sj oj a1 a2).2 a2 (nown k sk ok' a3 a4).2 a4 a5 a6
  · by_cases z : a = p
    · subst z
      exact .inr (.inr (.inl ⟨i, _, o, h, rfl, e1⟩))
    · rw [upd_ne z] at q
      exact .inl q
  · obtain ⟨j, sv, u, a1, a2, a3⟩ := q
    exact .inl ⟨j, sv, u, (nown j sv u a1 a2).2, a2, a3⟩
  · refine ⟨rfl, u, ?_⟩
    have nj : i ≠ j := fun z => by
      subst z
      rw [h] at q
      cases q
    rw [get_set_ne nj]
    exact q
theorem frz_ok {F0 H0 F H : Hp} {σ : L2.St} {s0 s s' : SS} {r : Rv} {v : V} {d : D} (g : Go K F0 H0 σ s0 F H σ s) (h : RpR K H0 F H σ s r v) (e : frz r s = .ok d s') : ∃ F', Go K F0 H0 σ s0 F' H σ s' ∧ Sub F F' ∧ Rp K F' d v := by
  cases r with
  | d d' =>
    cases e
    exact ⟨F, g, Sub.refl, h⟩
  | o o =>
    cases e
    obtain ⟨F', a, b, c⟩ := nrm_ok g h
    exact ⟨F', a, b, c⟩
  | b i =>
    have hv : σ[i]? = some (some v) := h
    simp only [frz] at e
    cases q : s[i]? with
    | none => (rw [q] at e; cases e)
    | some x =>
      cases x with
      | none => (rw [q] at e; cases e)
      | some sv =>
        cases sv with
        | fz d' =>
          rw [q] at e
          cases e
          obtain ⟨u, a1, a2⟩ := g.rs.fz i _ q
          rw [hv] at a1
          cases a1
          exact ⟨F, g, Sub.refl, a2⟩
        | ow o =>
          rw [q] at e
          cases e
          obtain ⟨p, ho, a1, a2, a3, a4, a5, a6⟩ := g.rs.freeze q
          rw [hv] at a1
          cases a1
          exact ⟨_, g.trans a5, a5.fr, a6⟩
        | br o => rw [q] at e; cases e
theorem frz_ex {r : Rv} {s s' : SS} {c : Addr} {l : List (Str × D)} : frz r s ≠ .ex c l s' := by
  intro e
  cases r with
  | d d => cases e
  | o o => cases e
  | b i =>
    simp only [frz] at e
    split at e <;> cases e
end
end Cz

/-! # CzC -/
namespace Cz
open L2 PyProof.Rows PySem.Spec PySem
variable {K : PySem.W.Frag}

/-! ## to look at a thing as it is now -/
def RpP (K : PySem.W.Frag) (F H : Hp) : D → V → Prop
  | .lst l, v => ∃ a xs, v = .ref a ∧ H a = some (.lst xs) ∧ RpL K F l xs
  | .dk l, v => ∃ a kvs, v = .ref a ∧ Rd H a (.dK kvs) ∧ RpK K F l kvs
  | .dt l, v => ∃ a kvs, v = .ref a ∧ Rd H a (.dT kvs) ∧ RpT K F l kvs
  | .obj C l, v => ∃ a dx fs, v = .ref a ∧ H a = some (.ins C dx fs) ∧ RpF K F l fs
  | d, v => Rp K F d v
theorem Rp.look {F H : Hp} (s : Sub F H) {d : D} {v : V} (h : Rp K F d v) : RpP K F H d v := by
  cases h with
  | lst h r => exact ⟨_, _, rfl, s _ _ h, r⟩
  | dk h r => exact ⟨_, _, rfl, s.rd h, r⟩
  | dt h r => exact ⟨_, _, rfl, s.rd h, r⟩
  | obj h r => exact ⟨_, _, _, rfl, s _ _ h, r⟩
  | non => exact .non
  | bl b => exact .bl b
  | int i => exact .int i
  | str x => exact .str x
  | ref a => exact .ref a
  | ty t => exact .ty t
  | tup h r => exact .tup h r
  | tuk h r => exact .tuk h r
  | rol h r => exact .rol h r
theorem RpO.look {F H : Hp} {o : OD} {ho : HO} {p : Addr} (e : H p = some ho) (h : RpO K F o ho) : RpP K F H o.fz (.ref p) := by
  cases h with
  | lst r => exact ⟨_, _, rfl, e, r⟩
  | dk r => exact ⟨_, _, rfl, .inl e, r⟩
  | dt r => exact ⟨_, _, rfl, .inl e, r⟩
  | dkl r => exact ⟨_, _, rfl, .inr ⟨_, e⟩, r⟩
  | dtl r => exact ⟨_, _, rfl, .inr ⟨_, e⟩, r⟩
  | obj r => exact ⟨_, _, _, rfl, e, r⟩
def pk : Rv → SS → Option D
  | .d d, _ => some d
  | .o o, _ => some o.fz
  | .b i, s => match s[i]? with
    | some (some (.fz d)) => some d
    | some (some (.ow o)) => some o.fz
    | some (some (.br o)) => some o.fz
    | _ => none
theorem pk_ok {H0 F H : Hp} {σ : L2.St} {s : SS} {r : Rv} {v : V} {d : D} (rs : RS K F H σ s) (h : RpR K H0 F H σ s r v) (e : pk r s = some d) : RpP K F H d v := by
  cases r with
  | d d' =>
    cases e
    exact Rp.look rs.sub h
  | o o =>
    cases e
    obtain ⟨p, ho, rfl, e1, e2, e3, _⟩ := h
    exact e3.look e2
  | b i =>
    have hv : σ[i]? = some (some v) := h
    simp only [pk] at e
    cases q : s[i]? with
    | none => (rw [q] at e; cases e)
    | some x =>
      cases x with
      | none => (rw [q] at e; cases e)
      | some sv =>
        cases sv with
        | fz d' =>
          rw [q] at e
          cases e
          obtain ⟨u, a1, a2⟩ := rs.fz i _ q
          rw [hv] at a1
          cases a1
          exact a2.look rs.sub
        | ow o =>
          rw [q] at e
          cases e
          obtain ⟨p, ho, a1, a2, a3, a4⟩ := rs.ow i _ o q rfl
          rw [hv] at a1
          cases a1
          exact a4.look a3
        | br o =>
          rw [q] at e
          cases e
          obtain ⟨p, ho, a1, a2, a3, a4⟩ := rs.ow i _ o q rfl
          rw [hv] at a1
          cases a1
          exact a4.look a3

/-! ## new objects -/
structure Al (F H F' H' : Hp) : Prop where
  f : Sub F F'
  h : Sub H H'
  s : Sub F' H'
  n : ∀ a, F' a ≠ none → F a ≠ none ∨ H a = none ∨ Tu H a
theorem Al.refl {F H : Hp} (s : Sub F H) : Al F H F H := ⟨Sub.refl, Sub.refl, s, fun _ h => .inl h⟩
theorem Al.new {F H : Hp} {p : Addr} {ho : HO} (s : Sub F H) (h : H p = none) : Al F H (upd F p ho) (upd H p ho) := by
  have e : F p = none := s.free h
  refine ⟨fun a o q => by rw [upd_ne (ne_of_none q e)]; exact q, fun a o q => by rw [upd_ne (ne_of_none q h)]; exact q, fun a o q => ?_, fun a q => ?_⟩
  · by_cases z : a = p
    · subst z
      rw [upd_same] at q ⊢
      exact q
    · rw [upd_ne z] at q ⊢
      exact s _ _ q
  · by_cases z : a = p
    · subst z
      exact .inr (.inl h)
    · rw [upd_ne z] at q
      exact .inl q
theorem Go.al {F0 H0 F H F' H' : Hp} {σ0 σ : L2.St} {s0 s : SS} (g : Go K F0 H0 σ0 s0 F H σ s) (a : Al F H F' H') : Go K F0 H0 σ0 s0 F' H' σ s := by
  refine g.trans ⟨⟨a.s, g.rs.len, fun i d h => ?_, fun i sv o h1 h2 => ?_, g.rs.ne⟩, a.f, fun x o h _ => a.h x o h, fun x h => ?_, fun x h => .inl h, fun i o h => ⟨rfl, o, h⟩, fun x h => a.h.free h⟩
  · obtain ⟨v, h1, h2⟩ := g.rs.fz i d h
    exact ⟨v, h1, h2.mono a.f⟩
  · obtain ⟨p, ho, b1, b2, b3, b4⟩ := g.rs.ow i sv o h1 h2
    refine ⟨p, ho, b1, ?_, a.h _ _ b3, b4.mono a.f⟩
    cases e : F' p with
    | none => rfl
    | some u =>
      rcases a.n p (by rw [e]; exact fun z => nomatch z) with q | q | q
      · exact absurd b2 q
      · rw [b3] at q; cases q
      · exact absurd q (b4.notTup b3)
  · rcases a.n x h with q | q | q
    · exact .inl q
    · exact .inr (.inl q)
    · exact .inr (.inr (.inr q))
/-- a fresh object that nobody holds yet -/
theorem Go.fresh {F0 H0 F H : Hp} {σ0 σ : L2.St} {s0 s : SS} {p : Addr} {ho : HO} {o : OD} (g : Go K F0 H0 σ0 s0 F H σ s) (h : H p = none) (r : RpO K F o ho) :
    Go K F0 H0 σ0 s0 F (upd H p ho) σ s ∧ RpR K H0 F (upd H p ho) σ s (.o o) (.ref p) := by
  have sb : Sub H (upd H p ho) := fun a u q => by
    rw [upd_ne (ne_of_none q h)]
    exact q
  have g' := g.al (F' := F) (H' := upd H p ho) ⟨Sub.refl, sb, g.rs.sub.trans sb, fun _ q => .inl q⟩
  refine ⟨g', p, ho, rfl, g.rs.sub.free h, upd_same, r, g.dm p h, fun w => ?_⟩
  obtain ⟨_, u, q⟩ := g.rs.owF w
  rw [h] at q; cases q

/-! ## operations -/
/-- what an operation gives -/
def OutOk (K : PySem.W.Frag) (F H : Hp) (Q : VK) : Option Rv → Prop
  | some (.d d) => ∀ z F' H', Al F H F' H' → Rp K F' d z → Q z H'
  | some (.o o) => ∀ F' p ho, Al F H F' H → H p = none → RpO K F' o ho → Q (.ref p) (upd H p ho)
  | _ => False
def Op2 (K : PySem.W.Frag) (r : R2) (f : D → D → Option Rv) : Prop := ∀ F H x y dx dy Q, Sub F H → RpP K F H dx x → RpP K F H dy y → OutOk K F H Q (f dx dy) → r x y H Q
def Op1 (K : PySem.W.Frag) (r : V → Hp → VK → Prop) (f : D → Option Rv) : Prop := ∀ F H x dx Q, Sub F H → RpP K F H dx x → OutOk K F H Q (f dx) → r x H Q
def outR (o : Option Rv) : M Rv := fun s => match o with
  | some (.d d) => .ok (.d d) s
  | some (.o o) => .ok (.o o) s
  | _ => .no
theorem out_ok {F0 H0 F H : Hp} {σ : L2.St} {s0 s : SS} {W : WX} {Q : VK} {o : Option Rv} (g : Go K F0 H0 σ s0 F H σ s) (w : Wn K W Q F0 H0 σ s0 (outR o s)) : OutOk K F H Q o := by
  match o, w with
  | some (.d d), w => exact fun z F' H' a h => w z F' H' (g.al a) h
  | some (.o o), w => exact fun F' p ho a h r => w _ F' _ ((g.al a).fresh h r).1 ((g.al a).fresh h r).2
  | some (.b i), w => exact w
  | none, w => exact w
def opt {α β : Type} (o : Option α) (f : α → R β) : R β := match o with
  | some a => f a
  | none => .no
theorem opt_wn {α : Type} {F H : Hp} {σ : L2.St} {s : SS} {W : WX} {Q : VK} {o : Option α} {f : α → R Rv} (w : Wn K W Q F H σ s (opt o f)) : ∃ a, o = some a ∧ Wn K W Q F H σ s (f a) := by
  cases o with
  | none => exact w.elim
  | some a => exact ⟨a, rfl, w⟩
theorem opt_wnT {α : Type} {F H : Hp} {σ : L2.St} {s : SS} {W : WX} {Q : Bool → Hp → Prop} {o : Option α} {f : α → R Bool} (w : WnT K W Q F H σ s (opt o f)) : ∃ a, o = some a ∧ WnT K W Q F H σ s (f a) := by
  cases o with
  | none => exact w.elim
  | some a => exact ⟨a, rfl, w⟩

def mOp (f : D → D → Option Rv) (ma mb : M Rv) : M Rv := fun s => (ma s).bind fun r1 s1 => (mb s1).bind fun r2 s2 => opt (pk (nrm r1) s2) fun x => opt (pk r2 s2) fun y => outR (f x y) s2
theorem ev_op {W : WX} {r : R2} {f : D → D → Option Rv} {ta tb : TE} {ma mb : M Rv} (ho : Op2 K r f) (ha : EvX K W ta ma) (hb : EvX K W tb mb) : EvX K W (tOp r ta tb) (mOp f ma mb) := by
  intro F H σ s Q rs w
  refine ha.step (Go.refl rs) w fun r1 s1 v1 F1 H1 g1 _ h1 w1 => ?_
  obtain ⟨F1', g1', sb1, h1'⟩ := nrm_ok g1 h1
  refine hb.step g1' w1 fun r2 s2 v2 F2 H2 g2 g12 h2 w2 => ?_
  obtain ⟨x, ex, w3⟩ := opt_wn w2
  obtain ⟨y, ey, w4⟩ := opt_wn w3
  exact ho F2 H2 v1 v2 x y Q g2.rs.sub (pk_ok g2.rs (h1'.go g12) ex) (pk_ok g2.rs h2 ey) (out_ok g2 w4)
def mUn (f : D → Option Rv) (ma : M Rv) : M Rv := fun s => (ma s).bind fun r1 s1 => opt (pk r1 s1) fun x => outR (f x) s1
theorem ev_un {W : WX} {r : V → Hp → VK → Prop} {f : D → Option Rv} {ta : TE} {ma : M Rv} (ho : Op1 K r f) (ha : EvX K W ta ma) : EvX K W (tUn r ta) (mUn f ma) := by
  intro F H σ s Q rs w
  refine ha.step (Go.refl rs) w fun r1 s1 v1 F1 H1 g1 _ h1 w1 => ?_
  obtain ⟨x, ex, w3⟩ := opt_wn w1
  exact ho F1 H1 v1 x Q g1.rs.sub (pk_ok g1.rs h1 ex) (out_ok g1 w3)

/-! ## names, constants -/
def mVar (i : Nat) : M Rv := fun s => match s[i]? with
  | some (some (.fz d)) => .ok (.d d) s
  | some (some _) => .ok (.b i) s
  | _ => .no
theorem ev_var {W : WX} {i : Nat} : EvX K W (tVar i) (mVar i) := by
  intro F H σ s Q rs w
  unfold mVar at w
  cases q : s[i]? with
  | none => rw [q] at w; exact w.elim
  | some x =>
    cases x with
    | none => rw [q] at w; exact w.elim
    | some sv =>
      cases sv with
      | fz d =>
        rw [q] at w
        obtain ⟨v, h1, h2⟩ := rs.fz i d q
        exact ⟨v, h1, w v F H (Go.refl rs) h2⟩
      | ow o =>
        rw [q] at w
        obtain ⟨p, ho, h1, _⟩ := rs.ow i _ o q rfl
        exact ⟨_, h1, w _ F H (Go.refl rs) h1⟩
      | br o =>
        rw [q] at w
        obtain ⟨p, ho, h1, _⟩ := rs.ow i _ o q rfl
        exact ⟨_, h1, w _ F H (Go.refl rs) h1⟩
def mC (d : D) : M Rv := fun s => .ok (.d d) s
theorem ev_c {W : WX} {v : V} {d : D} (h : ∀ F, Rp K F d v) : EvX K W (tC v) (mC d) := fun F H σ s Q rs w => w v F H (Go.refl rs) (h F)

/-! ## tests -/
def mTr (f : D → Option Bool) (ma : M Rv) : M Bool := fun s => (ma s).bind fun r s1 => opt (pk r s1) fun x => opt (f x) fun b => .ok b s1
/-- a value's truth -/
def trD : D → Option Bool
  | .non => some false
  | .bl b => some b
  | .int i => some (i != 0)
  | .str x => if x.length ≤ sizeLine then some ((x.length : Int) != 0) else none
  | .tup l => some !l.isEmpty
  | .tuk l => some !l.isEmpty
  | .lst l => some !l.isEmpty
  | _ => none
theorem RpL.empty {F : Hp} {l : List D} {xs : List V} (r : RpL K F l xs) : xs.isEmpty = l.isEmpty := by cases r <;> rfl
theorem tru_of {F H : Hp} {d : D} {v : V} {b : Bool} (s : Sub F H) (h : RpP K F H d v) (e : trD d = some b) : TruV K v H b := by
  cases d with
  | non => cases h; cases e; rfl
  | bl b => cases h; cases e; rfl
  | int i => cases h; cases e; rfl
  | str x =>
    cases h
    simp only [trD] at e
    split at e
    · cases e; exact ⟨by assumption, rfl⟩
    · cases e
  | tup l =>
    cases h with
    | tup h r =>
      cases e
      exact .inr (.inl ⟨_, s.t (SqT.of h), by rw [r.empty]⟩)
  | tuk l =>
    cases h with
    | tuk h r =>
      cases e
      exact .inr (.inl ⟨_, s.t h, by rw [r.empty]⟩)
  | lst l =>
    obtain ⟨a, xs, rfl, h, r⟩ := h
    cases e
    exact .inl ⟨_, SqL.of h, by rw [r.empty]⟩
  | _ => cases e
theorem et_tru {W : WX} {ta : TE} {ma : M Rv} (ha : EvX K W ta ma) : EvT K W (fun σ H Q => ta σ H fun x H' => ∃ k, TruV K x H' k ∧ Q k H') (mTr trD ma) := by
  intro F H σ s Q rs w
  refine ha.stepT (Go.refl rs) w fun r s1 v F1 H1 g1 _ h1 w1 => ?_
  obtain ⟨x, ex, w2⟩ := opt_wnT w1
  obtain ⟨b, eb, w3⟩ := opt_wnT w2
  exact ⟨b, tru_of g1.rs.sub (pk_ok g1.rs h1 ex) eb, w3 F1 H1 g1⟩
def blD : D → Option Bool
  | .bl b => some b
  | _ => none
/-- a value that is True or False, as a test -/
theorem et_B {W : WX} {ta : TE} {ma : M Rv} (ha : EvX K W ta ma) : EvT K W (tB ta) (mTr blD ma) := by
  intro F H σ s Q rs w
  refine ha.stepT (Go.refl rs) w fun r s1 v F1 H1 g1 _ h1 w1 => ?_
  obtain ⟨x, ex, w2⟩ := opt_wnT w1
  obtain ⟨b, eb, w3⟩ := opt_wnT w2
  have hp := pk_ok g1.rs h1 ex
  cases x with
  | bl c =>
    cases eb
    cases hp
    exact ⟨_, rfl, w3 F1 H1 g1⟩
  | _ => cases eb
theorem et_test {W : WX} {ta : TE} {ma : M Rv} (ha : EvX K W ta ma) : EvT K W (tTest ta) (mTr blD ma) := by
  intro F H σ s Q rs w
  refine ha.stepT (Go.refl rs) w fun r s1 v F1 H1 g1 _ h1 w1 => ?_
  obtain ⟨x, ex, w2⟩ := opt_wnT w1
  obtain ⟨b, eb, w3⟩ := opt_wnT w2
  have hp := pk_ok g1.rs h1 ex
  cases x with
  | bl c =>
    cases eb
    cases hp
    exact ⟨_, rfl, w3 F1 H1 g1⟩
  | _ => cases eb
def mAnd (ma mb : M Bool) : M Bool := fun s => (ma s).bind fun b s1 => if b then mb s1 else .ok false s1
def mOr (ma mb : M Bool) : M Bool := fun s => (ma s).bind fun b s1 => if b then .ok true s1 else mb s1
def mNot (ma : M Bool) : M Bool := fun s => (ma s).bind fun b s1 => .ok (!b) s1
theorem EvT.at {W : WX} {tt : TT} {m : M Bool} (h : EvT K W tt m) {F0 H0 F H : Hp} {σ : L2.St} {s0 s : SS} {Q : Bool → Hp → Prop} (g : Go K F0 H0 σ s0 F H σ s) (w : WnT K W Q F0 H0 σ s0 (m s)) : tt σ H Q := by
  refine h F H σ s Q g.rs ?_
  cases e : m s with
  | ok r s1 =>
    rw [e] at w
    exact fun F1 H1 g1 => w F1 H1 (g.trans g1)
  | ex c l s1 =>
    rw [e] at w
    exact fun dd F1 H1 xs g1 => w dd F1 H1 xs (g.trans g1)
  | no =>
    rw [e] at w
    exact w
theorem EvX.at {W : WX} {te : TE} {m : M Rv} (h : EvX K W te m) {F0 H0 F H : Hp} {σ : L2.St} {s0 s : SS} {Q : VK} (g : Go K F0 H0 σ s0 F H σ s) (w : Wn K W Q F0 H0 σ s0 (m s)) : te σ H Q := by
  refine h F H σ s Q g.rs ?_
  cases e : m s with
  | ok r s1 =>
    rw [e] at w
    exact fun v F1 H1 g1 r1 => w v F1 H1 (g.trans g1) (r1.back g.dm)
  | ex c l s1 =>
    rw [e] at w
    exact fun dd F1 H1 xs g1 => w dd F1 H1 xs (g.trans g1)
  | no =>
    rw [e] at w
    exact w
theorem et_and {W : WX} {t u : TT} {ma mb : M Bool} (ha : EvT K W t ma) (hb : EvT K W u mb) : EvT K W (tAnd t u) (mAnd ma mb) := by
  intro F H σ s Q rs w
  refine ha.stepT (Go.refl rs) w fun b s1 F1 H1 g1 _ w1 => ?_
  cases b with
  | true => exact hb.at g1 w1
  | false => exact w1 F1 H1 g1
theorem et_or {W : WX} {t u : TT} {ma mb : M Bool} (ha : EvT K W t ma) (hb : EvT K W u mb) : EvT K W (tOr t u) (mOr ma mb) := by
  intro F H σ s Q rs w
  refine ha.stepT (Go.refl rs) w fun b s1 F1 H1 g1 _ w1 => ?_
  cases b with
  | true => exact w1 F1 H1 g1
  | false => exact hb.at g1 w1
theorem et_not {W : WX} {t : TT} {ma : M Bool} (ha : EvT K W t ma) : EvT K W (tNot t) (mNot ma) := by
  intro F H σ s Q rs w
  exact ha.stepT (Go.refl rs) w fun b s1 F1 H1 g1 _ w1 => w1 F1 H1 g1
/-- and, or of values that are True or False -/
def mAndV (ma mb : M Rv) : M Rv := fun s => (ma s).bind fun r s1 => opt ((pk r s1).bind blD) fun b => if b then mb s1 else .ok (.d (.bl false)) s1
def mOrV (ma mb : M Rv) : M Rv := fun s => (ma s).bind fun r s1 => opt ((pk r s1).bind blD) fun b => if b then .ok (.d (.bl true)) s1 else mb s1
def mNotV (ma : M Rv) : M Rv := fun s => (ma s).bind fun r s1 => opt ((pk r s1).bind blD) fun b => .ok (.d (.bl !b)) s1
theorem blD_ok {F H : Hp} {H0 : Hp} {σ : L2.St} {s : SS} {r : Rv} {v : V} {b : Bool} (rs : RS K F H σ s) (h : RpR K H0 F H σ s r v) (e : (pk r s).bind blD = some b) : v = .bl b := by
  cases q : pk r s with
  | none => (rw [q] at e; cases e)
  | some d =>
    rw [q] at e
    have hp := pk_ok rs h q
    cases d with
    | bl c =>
      cases e
      cases hp
      rfl
    | _ => cases e
theorem ev_andV {W : WX} {ta tb : TE} {ma mb : M Rv} (ha : EvX K W ta ma) (hb : EvX K W tb mb) : EvX K W (tAndV ta tb) (mAndV ma mb) := by
  intro F H σ s Q rs w
  refine ha.step (Go.refl rs) w fun r s1 v F1 H1 g1 _ h1 w1 => ?_
  obtain ⟨b, eb, w2⟩ := opt_wn w1
  refine ⟨b, blD_ok g1.rs h1 eb, ?_⟩
  cases b with
  | true => exact hb.at g1 w2
  | false => exact w2 _ F1 H1 g1 (.bl false)
theorem ev_orV {W : WX} {ta tb : TE} {ma mb : M Rv} (ha : EvX K W ta ma) (hb : EvX K W tb mb) : EvX K W (tOrV ta tb) (mOrV ma mb) := by
  intro F H σ s Q rs w
  refine ha.step (Go.refl rs) w fun r s1 v F1 H1 g1 _ h1 w1 => ?_
  obtain ⟨b, eb, w2⟩ := opt_wn w1
  refine ⟨b, blD_ok g1.rs h1 eb, ?_⟩
  cases b with
  | true => exact w2 _ F1 H1 g1 (.bl true)
  | false => exact hb.at g1 w2
theorem ev_notV {W : WX} {ta : TE} {ma : M Rv} (ha : EvX K W ta ma) : EvX K W (tNotV ta) (mNotV ma) := by
  intro F H σ s Q rs w
  refine ha.step (Go.refl rs) w fun r s1 v F1 H1 g1 _ h1 w1 => ?_
  obtain ⟨b, eb, w2⟩ := opt_wn w1
  exact ⟨b, blD_ok g1.rs h1 eb, w2 _ F1 H1 g1 (.bl _)⟩
def mIf (mt : M Bool) (ma mb : M Rv) : M Rv := fun s => (mt s).bind fun b s1 => if b then ma s1 else mb s1
theorem ev_if {W : WX} {t : TT} {ta tb : TE} {mt : M Bool} {ma mb : M Rv} (ht : EvT K W t mt) (ha : EvX K W ta ma) (hb : EvX K W tb mb) : EvX K W (tIf t ta tb) (mIf mt ma mb) := by
  intro F H σ s Q rs w
  refine ht.step (Go.refl rs) w fun b s1 F1 H1 g1 _ w1 => ?_
  cases b with
  | true => exact ha.at g1 w1
  | false => exact hb.at g1 w1

end Cz

/-! # CzD -/
namespace Cz
open L2 PyProof.Rows PySem.Spec PySem
variable {K : PySem.W.Frag}

/-! ## lists of arguments: data, or a name's own object, lent -/
inductive RpA (K : PySem.W.Frag) (F : Hp) (σ : L2.St) (s : SS) : List Rv → List V → Prop
  | nil : RpA K F σ s [] []
  | d {d : D} {v : V} {rs : List Rv} {vs : List V} : Rp K F d v → RpA K F σ s rs vs → RpA K F σ s (.d d :: rs) (v :: vs)
  | b {i : Nat} {v : V} {rs : List Rv} {vs : List V} : σ[i]? = some (some v) → RpA K F σ s rs vs → RpA K F σ s (.b i :: rs) (v :: vs)
def WnA (K : PySem.W.Frag) (W : WX) (Q : List V → Hp → Prop) (F H : Hp) (σ : L2.St) (s : SS) : R (List Rv) → Prop
  | .ok rs s' => ∀ vs F' H', Go K F H σ s F' H' σ s' → RpA K F' σ s' rs vs → Q vs H'
  | .ex c l s' => ∀ dd F' H' xs, Go K F H σ s F' H' σ s' → H' dd = some (.xd xs) → RpF K F' l xs → W (.ref c) (some dd) σ H'
  | .no => False
def EvA (K : PySem.W.Frag) (W : WX) (ta : TA) (m : M (List Rv)) : Prop := ∀ F H σ s Q, RS K F H σ s → WnA K W Q F H σ s (m s) → ta σ H Q
theorem EvA.step {W : WX} {ta : TA} {m : M (List Rv)} (h : EvA K W ta m) {F0 H0 F H : Hp} {σ : L2.St} {s0 s : SS} {Q : VK} {Q1 : List V → Hp → Prop} {f : List Rv → SS → R Rv} (g : Go K F0 H0 σ s0 F H σ s) (w : Wn K W Q F0 H0 σ s0 ((m s).bind f))
    (k : ∀ rs s1 vs F1 H1, Go K F0 H0 σ s0 F1 H1 σ s1 → Go K F H σ s F1 H1 σ s1 → RpA K F1 σ s1 rs vs → Wn K W Q F0 H0 σ s0 (f rs s1) → Q1 vs H1) : ta σ H Q1 := by
  refine h F H σ s Q1 g.rs ?_
  cases e : m s with
  | ok r s1 =>
    rw [e] at w
    exact fun v F1 H1 g1 r1 => k r s1 v F1 H1 (g.trans g1) g1 r1 w
  | ex c l s1 =>
    rw [e] at w
    exact fun dd F1 H1 xs g1 => w dd F1 H1 xs (g.trans g1)
  | no =>
    rw [e] at w
    exact w
theorem EvA.stepA {W : WX} {ta : TA} {m : M (List Rv)} (h : EvA K W ta m) {F0 H0 F H : Hp} {σ : L2.St} {s0 s : SS} {Q Q1 : List V → Hp → Prop} {f : List Rv → SS → R (List Rv)} (g : Go K F0 H0 σ s0 F H σ s) (w : WnA K W Q F0 H0 σ s0 ((m s).bind f))
    (k : ∀ rs s1 vs F1 H1, Go K F0 H0 σ s0 F1 H1 σ s1 → Go K F H σ s F1 H1 σ s1 → RpA K F1 σ s1 rs vs → WnA K W Q F0 H0 σ s0 (f rs s1) → Q1 vs H1) : ta σ H Q1 := by
  refine h F H σ s Q1 g.rs ?_
  cases e : m s with
  | ok r s1 =>
    rw [e] at w
    exact fun v F1 H1 g1 r1 => k r s1 v F1 H1 (g.trans g1) g1 r1 w
  | ex c l s1 =>
    rw [e] at w
    exact fun dd F1 H1 xs g1 => w dd F1 H1 xs (g.trans g1)
  | no =>
    rw [e] at w
    exact w
theorem EvX.stepA {W : WX} {te : TE} {m : M Rv} (h : EvX K W te m) {F0 H0 F H : Hp} {σ : L2.St} {s0 s : SS} {Q : List V → Hp → Prop} {Q1 : VK} {f : Rv → SS → R (List Rv)} (g : Go K F0 H0 σ s0 F H σ s) (w : WnA K W Q F0 H0 σ s0 ((m s).bind f))
    (k : ∀ r s1 v F1 H1, Go K F0 H0 σ s0 F1 H1 σ s1 → Go K F H σ s F1 H1 σ s1 → RpR K H F1 H1 σ s1 r v → WnA K W Q F0 H0 σ s0 (f r s1) → Q1 v H1) : te σ H Q1 := by
  refine h F H σ s Q1 g.rs ?_
  cases e : m s with
  | ok r s1 =>
    rw [e] at w
    exact fun v F1 H1 g1 r1 => k r s1 v F1 H1 (g.trans g1) g1 r1 w
  | ex c l s1 =>
    rw [e] at w
    exact fun dd F1 H1 xs g1 => w dd F1 H1 xs (g.trans g1)
  | no =>
    rw [e] at w
    exact w
theorem frz_wn {W : WX} {Q : VK} {F0 H0 : Hp} {σ : L2.St} {s0 s : SS} {r : Rv} {f : D → SS → R Rv} (w : Wn K W Q F0 H0 σ s0 ((frz r s).bind f)) : ∃ d s', frz r s = .ok d s' ∧ Wn K W Q F0 H0 σ s0 (f d s') := by
  cases e : frz r s with
  | ok d s' => rw [e] at w; exact ⟨d, s', rfl, w⟩
  | ex c l s' => exact absurd e frz_ex
  | no => rw [e] at w; exact w.elim
theorem frz_wnA {W : WX} {Q : List V → Hp → Prop} {F0 H0 : Hp} {σ : L2.St} {s0 s : SS} {r : Rv} {f : D → SS → R (List Rv)} (w : WnA K W Q F0 H0 σ s0 ((frz r s).bind f)) : ∃ d s', frz r s = .ok d s' ∧ WnA K W Q F0 H0 σ s0 (f d s') := by
  cases e : frz r s with
  | ok d s' => rw [e] at w; exact ⟨d, s', rfl, w⟩
  | ex c l s' => exact absurd e frz_ex
  | no => rw [e] at w; exact w.elim
theorem RpA.go {F F' H H' : Hp} {σ : L2.St} {s s' : SS} (g : Sub F F') : ∀ {rs : List Rv} {vs : List V}, RpA K F σ s rs vs → RpA K F' σ s' rs vs
  | _, _, .nil => .nil
  | _, _, .d h r => .d (h.mono g) (r.go (H := H) (H' := H') g)
  | _, _, .b h r => .b h (r.go (H := H) (H' := H') g)

def mANil : M (List Rv) := fun s => .ok [] s
theorem ea_nil {W : WX} : EvA K W tNil mANil := fun F H σ s Q rs w => w [] F H (Go.refl rs) .nil
/-- a value for good -/
def mACons (ma : M Rv) (mr : M (List Rv)) : M (List Rv) := fun s => (ma s).bind fun r s1 => (frz r s1).bind fun d s2 => (mr s2).bind fun rs s3 => .ok (.d d :: rs) s3
theorem ea_cons {W : WX} {te : TE} {t : TA} {ma : M Rv} {mr : M (List Rv)} (ha : EvX K W te ma) (hr : EvA K W t mr) : EvA K W (tCons te t) (mACons ma mr) := by
  intro F H σ s Q rs w
  refine ha.stepA (Go.refl rs) w fun r s1 v F1 H1 g1 _ h1 w1 => ?_
  obtain ⟨d, s2, ed, w2⟩ := frz_wnA w1
  obtain ⟨F2, g2, sb, hd⟩ := frz_ok g1 h1 ed
  refine hr.stepA g2 w2 fun rs s3 vs F3 H3 g3 g23 h3 w3 => ?_
  exact w3 (v :: vs) F3 H3 g3 (.d (hd.mono g23.fr) h3)
/-- a name's object, lent -/
def mARef (i : Nat) (mr : M (List Rv)) : M (List Rv) := fun s => match s[i]? with
  | some (some (.fz d)) => (mr s).bind fun rs s1 => .ok (.d d :: rs) s1
  | some (some _) => (mr s).bind fun rs s1 => .ok (.b i :: rs) s1
  | _ => .no
theorem ea_ref {W : WX} {i : Nat} {t : TA} {mr : M (List Rv)} (hr : EvA K W t mr) : EvA K W (tCons (tVar i) t) (mARef i mr) := by
  intro F H σ s Q rs w
  unfold mARef at w
  cases q : s[i]? with
  | none => rw [q] at w; exact w.elim
  | some x =>
    cases x with
    | none => rw [q] at w; exact w.elim
    | some sv =>
      cases sv with
      | fz d =>
        rw [q] at w
        obtain ⟨v, h1, h2⟩ := rs.fz i d q
        refine ⟨v, h1, hr.stepA (Go.refl rs) w fun rs s3 vs F3 H3 g3 _ h3 w3 => w3 (v :: vs) F3 H3 g3 (.d (h2.mono g3.fr) h3)⟩
      | ow o =>
        rw [q] at w
        obtain ⟨p, ho, h1, _⟩ := rs.ow i _ o q rfl
        refine ⟨_, h1, hr.stepA (Go.refl rs) w fun rs s3 vs F3 H3 g3 _ h3 w3 => w3 (_ :: vs) F3 H3 g3 (.b h1 h3)⟩
      | br o =>
        rw [q] at w
        obtain ⟨p, ho, h1, _⟩ := rs.ow i _ o q rfl
        refine ⟨_, h1, hr.stepA (Go.refl rs) w fun rs s3 vs F3 H3 g3 _ h3 w3 => w3 (_ :: vs) F3 H3 g3 (.b h1 h3)⟩
/-- all of them data -/
def allD : List Rv → Option (List D)
  | [] => some []
  | .d d :: rs => (allD rs).map (d :: ·)
  | _ :: _ => none
theorem allD_ok {F : Hp} {σ : L2.St} {s : SS} : ∀ {rs : List Rv} {vs : List V} {ds : List D}, RpA K F σ s rs vs → allD rs = some ds → RpL K F ds vs
  | _, _, _, .nil, e => by
    cases e
    exact .nil
  | _, _, _, .d h r, e => by
    simp only [allD, Option.map_eq_some_iff] at e
    obtain ⟨ds, e1, rfl⟩ := e
    exact .cons h (allD_ok r e1)
  | _, _, _, .b h r, e => by simp [allD] at e

/-! ## displays -/
def mTup (ma : M (List Rv)) : M Rv := fun s => (ma s).bind fun rs s1 => opt (allD rs) fun ds => if ds.length ≤ 100000 then .ok (.d (.tup ds)) s1 else .no
def mLst (ma : M (List Rv)) : M Rv := fun s => (ma s).bind fun rs s1 => opt (allD rs) fun ds => if ds.length ≤ 100000 then .ok (.o (.lst ds)) s1 else .no
theorem size_le {n : Nat} (h : n ≤ 100000) : n ≤ sizeLine := Nat.le_trans h (by decide)
theorem ev_tup {W : WX} {t : TA} {ma : M (List Rv)} (ha : EvA K W t ma) : EvX K W (tTup t) (mTup ma) := by
  intro F H σ s Q rs w
  refine ha.step (Go.refl rs) w fun rs s1 vs F1 H1 g1 _ h1 w1 => ?_
  obtain ⟨ds, ed, w2⟩ := opt_wn w1
  have hl := allD_ok h1 ed
  split at w2
  · rename_i hz
    refine ⟨size_le (by rw [← hl.length]; exact hz), fun p hp => ?_⟩
    have a := Al.new (ho := .tup vs) g1.rs.sub hp
    exact w2 _ _ _ (g1.al a) (.tup upd_same (hl.mono a.f))
  · exact w2.elim
theorem ev_lst {W : WX} {t : TA} {ma : M (List Rv)} (ha : EvA K W t ma) : EvX K W (tLst t) (mLst ma) := by
  intro F H σ s Q rs w
  refine ha.step (Go.refl rs) w fun rs s1 vs F1 H1 g1 _ h1 w1 => ?_
  obtain ⟨ds, ed, w2⟩ := opt_wn w1
  have hl := allD_ok h1 ed
  split at w2
  · rename_i hz
    refine ⟨size_le (by rw [← hl.length]; exact hz), fun p hp => ?_⟩
    obtain ⟨a, b⟩ := g1.fresh hp (RpO.lst hl)
    exact w2 _ _ _ a b
  · exact w2.elim

/-! ## calls of what is built in -/
def CallOk (K : PySem.W.Frag) (r : List V → Hp → VK → Prop) (f : List D → Option Rv) : Prop := ∀ F H vs ds Q, Sub F H → RpL K F ds vs → OutOk K F H Q (f ds) → r vs H Q
def mCB (f : List D → Option Rv) (ma : M (List Rv)) : M Rv := fun s => (ma s).bind fun rs s1 => opt (allD rs) fun ds => outR (f ds) s1
theorem ev_cb {W : WX} {r : List V → Hp → VK → Prop} {f : List D → Option Rv} {t : TA} {ma : M (List Rv)} (ho : CallOk K r f) (ha : EvA K W t ma) : EvX K W (tCB r t) (mCB f ma) := by
  intro F H σ s Q rs w
  refine ha.step (Go.refl rs) w fun rs s1 vs F1 H1 g1 _ h1 w1 => ?_
  obtain ⟨ds, ed, w2⟩ := opt_wn w1
  exact ho F1 H1 vs ds Q g1.rs.sub (allD_ok h1 ed) (out_ok g1 w2)
/-- one argument, looked at -/
def mCB1 (f : D → Option Rv) (ma : M Rv) : M Rv := mUn f ma
theorem ev_cb1 {W : WX} {r : List V → Hp → VK → Prop} {f : D → Option Rv} {te : TE} {ma : M Rv} (ho : Op1 K (fun x H Q => r [x] H Q) f) (ha : EvX K W te ma) : EvX K W (tCB r (tCons te tNil)) (mCB1 f ma) := by
  intro F H σ s Q rs w
  refine ha.step (Go.refl rs) w fun r1 s1 v1 F1 H1 g1 _ h1 w1 => ?_
  obtain ⟨x, ex, w3⟩ := opt_wn w1
  exact ho F1 H1 v1 x Q g1.rs.sub (pk_ok g1.rs h1 ex) (out_ok g1 w3)

/-! ## calls of defs -/
/-- what the def gets -/
def argS (s : SS) : List Rv → Option (List SV)
  | [] => some []
  | .d d :: rs => (argS s rs).map (.fz d :: ·)
  | .b i :: rs => match s[i]? with
    | some (some (.ow o)) => (argS s rs).map (.br o :: ·)
    | some (some (.br o)) => (argS s rs).map (.br o :: ·)
    | some (some (.fz d)) => (argS s rs).map (.fz d :: ·)
    | _ => none
  | .o _ :: _ => none
def refs : List Rv → List Nat
  | [] => []
  | .b i :: rs => i :: refs rs
  | _ :: rs => refs rs
/-- what the names hold behind it -/
def backS (s : SS) : List Rv → List SV → Option SS
  | [], [] => some s
  | .d _ :: rs, _ :: as => backS s rs as
  | .b i :: rs, a :: as => match s[i]? with
    | some (some (.ow _)) => match a with
      | .br o => (backS s rs as).map fun s' => s'.set i (some (.ow o))
      | _ => none
    | some (some (.br _)) => match a with
      | .br o => (backS s rs as).map fun s' => s'.set i (some (.br o))
      | _ => none
    | some (some (.fz _)) => backS s rs as
    | _ => none
  | _, _ => none
abbrev MF := List SV → R Rv
/-- the promise of a def, by its function f: from the arguments to what it gives, and what the lent ones are behind it -/
def WnF (K : PySem.W.Frag) (Q : VK) (E : XK) (F H : Hp) (vs : List V) (as : List SV) : R Rv → Prop
  | .ok r s' => ∃ as' : List SV, s' = as'.map some ∧ ∀ v F' H', Go K F H (vs.map some) (as.map some) F' H' (vs.map some) s' → RpR K H F' H' (vs.map some) s' r v → (∀ i, r ≠ .b i) → Q v H'
  | .ex c l s' => ∃ as' : List SV, s' = as'.map some ∧ ∀ dd F' H' xs, Go K F H (vs.map some) (as.map some) F' H' (vs.map some) s' → H' dd = some (.xd xs) → RpF K F' l xs → E (.ref c) (some dd) H'
  | .no => False
def spM (K : PySem.W.Frag) (f : MF) : Sp := fun vs H Q E => ∃ F as, RS K F H (vs.map some) (as.map some) ∧ WnF K Q E F H vs as (f as)
end Cz

/-! # CzE -/
namespace Cz
open L2 PyProof.Rows PySem.Spec PySem
variable {K : PySem.W.Frag}

theorem RpA.length {F : Hp} {σ : L2.St} {s : SS} : ∀ {rs : List Rv} {vs : List V}, RpA K F σ s rs vs → rs.length = vs.length
  | _, _, .nil => rfl
  | _, _, .d _ r => congrArg (· + 1) r.length
  | _, _, .b _ r => congrArg (· + 1) r.length
theorem RpA.ref {F : Hp} {σ : L2.St} {s : SS} : ∀ {rs : List Rv} {vs : List V} {j i : Nat}, RpA K F σ s rs vs → rs[j]? = some (.b i) → ∃ v, vs[j]? = some v ∧ σ[i]? = some (some v)
  | _, _, _, _, .nil, e => by (simp at e)
  | _, _, 0, i, .d h r, e => by simp at e
  | _, _, 0, i, .b h r, e => by
    simp at e
    subst e
    exact ⟨_, rfl, h⟩
  | _, _, j + 1, i, .d h r, e => by
    obtain ⟨v, a, b⟩ := r.ref (j := j) (i := i) (by simpa using e)
    exact ⟨v, by simpa using a, b⟩
  | _, _, j + 1, i, .b h r, e => by
    obtain ⟨v, a, b⟩ := r.ref (j := j) (i := i) (by simpa using e)
    exact ⟨v, by simpa using a, b⟩
theorem mem_refs : ∀ {rs : List Rv} {i : Nat}, i ∈ refs rs ↔ ∃ j : Nat, rs[j]? = some (Rv.b i)
  | [], i => by simp [refs]
  | .d d :: rs, i => by
    show i ∈ refs rs ↔ _
    rw [mem_refs (rs := rs)]
    constructor
    · rintro ⟨j, h⟩
      exact ⟨j + 1, by simpa using h⟩
    · rintro ⟨j, h⟩
      cases j with
      | zero => simp at h
      | succ j => exact ⟨j, by simpa using h⟩
  | .o d :: rs, i => by
    show i ∈ refs rs ↔ _
    rw [mem_refs (rs := rs)]
    constructor
    · rintro ⟨j, h⟩
      exact ⟨j + 1, by simpa using h⟩
    · rintro ⟨j, h⟩
      cases j with
      | zero => simp at h
      | succ j => exact ⟨j, by simpa using h⟩
  | .b k :: rs, i => by
    show i ∈ k :: refs rs ↔ _
    rw [List.mem_cons, mem_refs (rs := rs)]
    constructor
    · rintro (rfl | ⟨j, h⟩)
      · exact ⟨0, rfl⟩
      · exact ⟨j + 1, by simpa using h⟩
    · rintro ⟨j, h⟩
      cases j with
      | zero =>
        simp at h
        exact .inl h.symm
      | succ j => exact .inr ⟨j, by simpa using h⟩
theorem refs_inj : ∀ {rs : List Rv} {i j k : Nat}, (refs rs).Nodup → rs[j]? = some (.b i) → rs[k]? = some (.b i) → j = k
  | [], i, j, k, _, h, _ => by simp at h
  | r :: rs, i, 0, 0, _, _, _ => rfl
  | r :: rs, i, 0, k + 1, nd, h1, h2 => by
    simp at h1
    subst h1
    have m : i ∈ refs rs := mem_refs.mpr ⟨k, by simpa using h2⟩
    have nd' : (i :: refs rs).Nodup := nd
    exact absurd m (List.nodup_cons.mp nd').1
  | r :: rs, i, j + 1, 0, nd, h1, h2 => by
    simp at h2
    subst h2
    have m : i ∈ refs rs := mem_refs.mpr ⟨j, by simpa using h1⟩
    have nd' : (i :: refs rs).Nodup := nd
    exact absurd m (List.nodup_cons.mp nd').1
  | r :: rs, i, j + 1, k + 1, nd, h1, h2 => by
    have nd' : (refs rs).Nodup := by
      cases r with
      | b x => exact (List.nodup_cons.mp (show (x :: refs rs).Nodup from nd)).2
      | d x => exact nd
      | o x => exact nd
    exact congrArg (· + 1) (refs_inj (rs := rs) (i := i) nd' (by simpa using h1) (by simpa using h2))
theorem argS_get {F H : Hp} {σ : L2.St} {s : SS} (r0 : RS K F H σ s) : ∀ {rs : List Rv} {vs : List V} {as : List SV}, RpA K F σ s rs vs → argS s rs = some as → as.length = vs.length ∧
    ∀ (j : Nat) (a : SV), as[j]? = some a → ∃ v, vs[j]? = some v ∧ ((∃ d, a = .fz d ∧ Rp K F d v) ∨ ∃ i o sv, a = .br o ∧ rs[j]? = some (.b i) ∧ σ[i]? = some (some v) ∧ s[i]? = some (some sv) ∧ SV.own sv = some o)
  | _, _, _, .nil, e => by
    cases e
    exact ⟨rfl, fun j a h => by simp at h⟩
  | _, _, as, .d (d := d) (v := v) h r, e => by
    simp only [argS, Option.map_eq_some_iff] at e
    obtain ⟨as', e1, rfl⟩ := e
    obtain ⟨hl, hg⟩ := argS_get r0 r e1
    refine ⟨by simp [hl], fun j a ha => ?_⟩
    cases j with
    | zero =>
      simp at ha
      subst ha
      exact ⟨v, rfl, .inl ⟨d, rfl, h⟩⟩
    | succ j =>
      obtain ⟨u, h1, h2⟩ := hg j a (by simpa using ha)
      refine ⟨u, by simpa using h1, ?_⟩
      rcases h2 with h2 | ⟨i, o, sv, b1, b2, b3⟩
      · exact .inl h2
      · exact .inr ⟨i, o, sv, b1, by simpa using b2, b3⟩
  | _, _, as, .b (i := i) (v := v) (rs := rs2) (vs := vs2) h r, e => by
    have key : ∀ (a0 : SV) (as' : List SV), argS s rs2 = some as' → as = a0 :: as' → ((∃ d, a0 = .fz d ∧ Rp K F d v) ∨ ∃ o sv, a0 = .br o ∧ s[i]? = some (some sv) ∧ SV.own sv = some o) → (as.length = (v :: vs2).length ∧ ∀ (j : Nat) (a : SV), as[j]? = some a → ∃ u, (v :: vs2)[j]? = some u ∧ ((∃ d, a = .fz d ∧ Rp K F d u) ∨ ∃ i' o sv, a = .br o ∧ (Rv.b i :: rs2)[j]? = some (.b i') ∧ σ[i']? = some (some u) ∧ s[i']? = some (some sv) ∧ SV.own sv = some o)) := fun a0 as' e1 ea h0 => by
      subst ea
      obtain ⟨hl, hg⟩ := argS_get r0 r e1
      refine ⟨by simp [hl], fun j a ha => ?_⟩
      cases j with
      | zero =>
        simp at ha
        subst ha
        rcases h0 with h0 | ⟨o, sv, b1, b2, b3⟩
        · exact ⟨v, rfl, .inl h0⟩
        · exact ⟨v, rfl, .inr ⟨i, o, sv, b1, rfl, h, b2, b3⟩⟩
      | succ j =>
        obtain ⟨u, h1, h2⟩ := hg j a (by simpa using ha)
        refine ⟨u, by simpa using h1, ?_⟩
        rcases h2 with h2 | ⟨i', o, sv, b1, b2, b3⟩
        · exact .inl h2
        · exact .inr ⟨i', o, sv, b1, by simpa using b2, b3⟩
    simp only [argS] at e
    split at e
    · rename_i o q
      simp only [Option.map_eq_some_iff] at e
      obtain ⟨as', e1, e2⟩ := e
      exact key _ as' e1 e2.symm (.inr ⟨o, _, rfl, q, rfl⟩)
    · rename_i o q
      simp only [Option.map_eq_some_iff] at e
      obtain ⟨as', e1, e2⟩ := e
      exact key _ as' e1 e2.symm (.inr ⟨o, _, rfl, q, rfl⟩)
    · rename_i d q
      simp only [Option.map_eq_some_iff] at e
      obtain ⟨as', e1, e2⟩ := e
      obtain ⟨u, a1, a2⟩ := r0.fz i d q
      rw [h] at a1
      cases a1
      exact key _ as' e1 e2.symm (.inl ⟨d, rfl, a2⟩)
    · cases e
theorem map_get {α β : Type} {l : List α} {f : α → β} {j : Nat} {b : β} (h : (l.map f)[j]? = some b) : ∃ a, l[j]? = some a ∧ f a = b := by
  rw [List.getElem?_map, Option.map_eq_some_iff] at h
  exact h
/-- the def's first state -/
theorem RS.lend {F H : Hp} {σ : L2.St} {s : SS} (r0 : RS K F H σ s) {rs : List Rv} {vs : List V} {as : List SV} (ra : RpA K F σ s rs vs) (ea : argS s rs = some as) (nd : (refs rs).Nodup) : RS K F H (vs.map some) (as.map some) := by
  obtain ⟨hl, hg⟩ := argS_get r0 ra ea
  refine ⟨r0.sub, by simp [hl], fun j d h => ?_, fun j sv o h1 h2 => ?_, fun j k sj sk oj ok' p h1 h2 h3 h4 h5 h6 => ?_⟩
  · obtain ⟨a, e1, e2⟩ := map_get h
    cases e2
    obtain ⟨v, e3, e4⟩ := hg j _ e1
    rcases e4 with ⟨d', e5, e6⟩ | ⟨i, o, sv, e5, _⟩
    · cases e5
      exact ⟨v, by rw [List.getElem?_map, e3]; rfl, e6⟩
    · cases e5
  · obtain ⟨a, e1, e2⟩ := map_get h1
    cases e2
    obtain ⟨v, e3, e4⟩ := hg j _ e1
    rcases e4 with ⟨d', e5, e6⟩ | ⟨i, o', sv', e5, e6, e7, e8, e9⟩
    · subst e5
      cases h2
    · subst e5
      cases h2
      obtain ⟨p, ho, b1, b2, b3, b4⟩ := r0.ow i sv' o e8 e9
      rw [e7] at b1
      cases b1
      exact ⟨p, ho, by rw [List.getElem?_map, e3]; rfl, b2, b3, b4⟩
  · obtain ⟨a, e1, e2⟩ := map_get h1
    obtain ⟨b, f1, f2⟩ := map_get h3
    cases e2
    cases f2
    obtain ⟨v, e3, e4⟩ := hg j _ e1
    obtain ⟨u, f3, f4⟩ := hg k _ f1
    rcases e4 with ⟨d', e5, e6⟩ | ⟨i, o', sv', e5, e6, e7, e8, e9⟩
    · subst e5
      cases h2
    · rcases f4 with ⟨d', f5, f6⟩ | ⟨i', o2, sv2, f5, f6, f7, f8, f9⟩
      · subst f5
        cases h4
      · rw [List.getElem?_map, e3] at h5
        cases h5
        rw [List.getElem?_map, f3] at h6
        cases h6
        have e := r0.ne i i' sv' sv2 _ _ p e8 e9 f8 f9 e7 f7
        subst e
        exact refs_inj nd e6 f6
theorem lend_own {F H : Hp} {σ : L2.St} {s : SS} (r0 : RS K F H σ s) {rs : List Rv} {vs : List V} {as : List SV} (ra : RpA K F σ s rs vs) (ea : argS s rs = some as) {a : Addr} (h : Ow (vs.map some) (as.map some) a) :
    ∃ i sv o, s[i]? = some (some sv) ∧ SV.own sv = some o ∧ σ[i]? = some (some (.ref a)) ∧ i ∈ refs rs := by
  obtain ⟨hl, hg⟩ := argS_get r0 ra ea
  obtain ⟨j, sv, o, h1, h2, h3⟩ := h
  obtain ⟨b, e1, e2⟩ := map_get h1
  cases e2
  obtain ⟨v, e3, e4⟩ := hg j _ e1
  rw [List.getElem?_map, e3] at h3
  cases h3
  rcases e4 with ⟨d', e5, e6⟩ | ⟨i, o', sv', e5, e6, e7, e8, e9⟩
  · subst e5
    cases h2
  · exact ⟨i, sv', o', e8, e9, e7, mem_refs.mpr ⟨j, e6⟩⟩

theorem backS_get {s : SS} : ∀ {rs : List Rv} {as : List SV} {s' : SS}, backS s rs as = some s' → (refs rs).Nodup → s'.length = s.length ∧ (∀ i : Nat, i ∉ refs rs → s'[i]? = s[i]?) ∧
    ∀ (j i : Nat), rs[j]? = some (.b i) → (∃ o o', s[i]? = some (some (.ow o)) ∧ as[j]? = some (.br o') ∧ s'[i]? = some (some (.ow o'))) ∨ (∃ o o', s[i]? = some (some (.br o)) ∧ as[j]? = some (.br o') ∧ s'[i]? = some (some (.br o'))) ∨ ∃ d, s[i]? = some (some (.fz d)) ∧ s'[i]? = s[i]?
  | [], [], s', e, _ => by
    cases e
    exact ⟨rfl, fun _ _ => rfl, fun j i h => by simp at h⟩
  | [], a :: as, s', e, _ => by cases e
  | .o _ :: rs, [], s', e, _ => by cases e
  | .d _ :: rs, [], s', e, _ => by cases e
  | .b _ :: rs, [], s', e, _ => by cases e
  | .o _ :: rs, a :: as, s', e, _ => by cases e
  | .d _ :: rs, a :: as, s', e, nd => by
    obtain ⟨h1, h2, h3⟩ := backS_get (rs := rs) (as := as) e nd
    refine ⟨h1, h2, fun j i h => ?_⟩
    cases j with
    | zero => simp at h
    | succ j => exact (h3 j i (by simpa using h)).imp (fun ⟨o, o', x, y, z⟩ => ⟨o, o', x, by simpa using y, z⟩) (Or.imp (fun ⟨o, o', x, y, z⟩ => ⟨o, o', x, by simpa using y, z⟩) id)
  | .b i :: rs, a :: as, s', e, nd => by
    have nd2 : i ∉ refs rs ∧ (refs rs).Nodup := List.nodup_cons.mp (show (i :: refs rs).Nodup from nd)
    simp only [backS] at e
    split at e
    · rename_i o q
      split at e
      · rename_i o'
        rw [Option.map_eq_some_iff] at e
        obtain ⟨s1, e1, rfl⟩ := e
        obtain ⟨h1, h2, h3⟩ := backS_get e1 nd2.2
        have hi : s1[i]? = some (some (.ow o)) := (h2 i nd2.1).trans q
        refine ⟨by rw [List.length_set]; exact h1, fun k hk => ?_, fun j k h => ?_⟩
        · have hk' : k ≠ i ∧ k ∉ refs rs := by
            have z : k ∉ i :: refs rs := hk
            simpa using z
          rw [get_set_ne (Ne.symm hk'.1)]
          exact h2 k hk'.2
        · cases j with
          | zero =>
            simp at h
            subst h
            exact .inl ⟨o, o', q, rfl, get_set_eq hi⟩
          | succ j =>
            have h' : rs[j]? = some (.b k) := by simpa using h
            have nk : i ≠ k := fun z => nd2.1 (by rw [z]; exact mem_refs.mpr ⟨j, h'⟩)
            rw [get_set_ne nk]
            exact (h3 j k h').imp (fun ⟨o, o', x, y, z⟩ => ⟨o, o', x, by simpa using y, z⟩) (Or.imp (fun ⟨o, o', x, y, z⟩ => ⟨o, o', x, by simpa using y, z⟩) id)
      · cases e
    · rename_i o q
      split at e
      · rename_i o'
        rw [Option.map_eq_some_iff] at e
        obtain ⟨s1, e1, rfl⟩ := e
        obtain ⟨h1, h2, h3⟩ := backS_get e1 nd2.2
        have hi : s1[i]? = some (some (.br o)) := (h2 i nd2.1).trans q
        refine ⟨by rw [List.length_set]; exact h1, fun k hk => ?_, fun j k h => ?_⟩
        · have hk' : k ≠ i ∧ k ∉ refs rs := by
            have z : k ∉ i :: refs rs := hk
            simpa using z
          rw [get_set_ne (Ne.symm hk'.1)]
          exact h2 k hk'.2
        · cases j with
          | zero =>
            simp at h
            subst h
            exact .inr (.inl ⟨o, o', q, rfl, get_set_eq hi⟩)
          | succ j =>
            have h' : rs[j]? = some (.b k) := by simpa using h
            have nk : i ≠ k := fun z => nd2.1 (by rw [z]; exact mem_refs.mpr ⟨j, h'⟩)
            rw [get_set_ne nk]
            exact (h3 j k h').imp (fun ⟨o, o', x, y, z⟩ => ⟨o, o', x, by simpa using y, z⟩) (Or.imp (fun ⟨o, o', x, y, z⟩ => ⟨o, o', x, by simpa using y, z⟩) id)
      · cases e
    · rename_i d q
      obtain ⟨h1, h2, h3⟩ := backS_get e nd2.2
      refine ⟨h1, fun k hk => h2 k fun z => hk (show k ∈ i :: refs rs from List.mem_cons_of_mem _ z), fun j k h => ?_⟩
      cases j with
      | zero =>
        simp at h
        subst h
        exact .inr (.inr ⟨d, q, h2 i nd2.1⟩)
      | succ j =>
        have h' : rs[j]? = some (.b k) := by simpa using h
        exact (h3 j k h').imp (fun ⟨o, o', x, y, z⟩ => ⟨o, o', x, by simpa using y, z⟩) (Or.imp (fun ⟨o, o', x, y, z⟩ => ⟨o, o', x, by simpa using y, z⟩) id)
    · cases e
/-- from the def's last state back to the caller's -/
theorem Go.call {F H F' H' : Hp} {σ : L2.St} {s s' : SS} {rs : List Rv} {vs : List V} {as as' : List SV} (r0 : RS K F H σ s) (ra : RpA K F σ s rs vs) (ea : argS s rs = some as) (nd : (refs rs).Nodup)
    (g : Go K F H (vs.map some) (as.map some) F' H' (vs.map some) (as'.map some)) (eb : backS s rs as' = some s') : Go K F H σ s F' H' σ s' ∧ ∀ a, Ow σ s' a → Ow σ s a := by
  obtain ⟨b1, b2, b3⟩ := backS_get eb nd
  have own : ∀ (i : Nat) (sv : SV) (o : OD), s'[i]? = some (some sv) → SV.own sv = some o → ∃ sv0 o0, s[i]? = some (some sv0) ∧ SV.own sv0 = some o0 := fun i sv o h1 h2 => by
    by_cases hi : i ∈ refs rs
    · obtain ⟨j, hj⟩ := mem_refs.mp hi
      rcases b3 j i hj with ⟨x, y, z, _⟩ | ⟨x, y, z, _⟩ | ⟨d, z, w⟩
      · exact ⟨_, _, z, rfl⟩
      · exact ⟨_, _, z, rfl⟩
      · rw [w, z] at h1
        cases h1
        cases h2
    · rw [b2 i hi] at h1
      exact ⟨_, _, h1, h2⟩
  have co : ∀ a, Ow (vs.map some) (as.map some) a → Ow σ s a := fun a h => by
    obtain ⟨i, sv, o, x, y, z, _⟩ := lend_own r0 ra ea h
    exact ⟨i, sv, o, x, y, z⟩
  have cw : ∀ a, Ow σ s' a → Ow σ s a := fun a ⟨i, sv, o, x, y, z⟩ => by
    obtain ⟨sv0, o0, x0, y0⟩ := own i sv o x y
    exact ⟨i, sv0, o0, x0, y0, z⟩
  refine ⟨⟨⟨g.rs.sub, by rw [b1]; exact r0.len, fun i d h => ?_, fun i sv o h1 h2 => ?_, fun i j si sj oi oj p h1 h2 h3 h4 h5 h6 => ?_⟩, g.fr, fun a o h n => g.kp a o h fun w => n (co a w), fun a h => ?_, fun a h => .inl (cw a h), fun i o h => ?_, g.dm⟩, cw⟩
  · have h0 : s[i]? = some (some (.fz d)) := by
      by_cases hi : i ∈ refs rs
      · obtain ⟨j, hj⟩ := mem_refs.mp hi
        rcases b3 j i hj with ⟨x, y, z, z1, z2⟩ | ⟨x, y, z, z1, z2⟩ | ⟨d, z, w⟩
        · rw [z2] at h; cases h
        · rw [z2] at h; cases h
        · rw [w] at h; exact h
      · rw [b2 i hi] at h; exact h
    obtain ⟨v, h1, h2⟩ := r0.fz i d h0
    exact ⟨v, h1, h2.mono g.fr⟩
  · by_cases hi : i ∈ refs rs
    · obtain ⟨j, hj⟩ := mem_refs.mp hi
      obtain ⟨v, hv1, hv2⟩ := ra.ref hj
      have fin : ∀ o' : OD, as'[j]? = some (.br o') → o = o' → ∃ p ho, σ[i]? = some (some (.ref p)) ∧ F' p = none ∧ H' p = some ho ∧ RpO K F' o ho := fun o' e1 e2 => by
        subst e2
        obtain ⟨p, ho, c1, c2, c3, c4⟩ := g.rs.ow j (.br o) o (by rw [List.getElem?_map, e1]; rfl) rfl
        rw [List.getElem?_map, hv1] at c1
        cases c1
        exact ⟨p, ho, hv2, c2, c3, c4⟩
      rcases b3 j i hj with ⟨x, y, z, z1, z2⟩ | ⟨x, y, z, z1, z2⟩ | ⟨d, z, w⟩
      · rw [z2] at h1
        cases h1
        cases h2
        exact fin _ z1 rfl
      · rw [z2] at h1
        cases h1
        cases h2
        exact fin _ z1 rfl
      · rw [w, z] at h1
        cases h1
        cases h2
    · rw [b2 i hi] at h1
      obtain ⟨p, ho, c1, c2, c3, c4⟩ := r0.ow i sv o h1 h2
      have n : ¬ Ow (vs.map some) (as.map some) p := fun w => by
        obtain ⟨k, sv', o', x, y, z, m⟩ := lend_own r0 ra ea w
        have e := r0.ne i k sv sv' o o' p h1 h2 x y c1 z
        subst e
        exact hi m
      refine ⟨p, ho, c1, ?_, g.kp p ho c3 n, c4.mono g.fr⟩
      cases e : F' p with
      | none => rfl
      | some u =>
        rcases g.nw p (by rw [e]; exact fun z => nomatch z) with q | q | q | q
        · exact absurd c2 q
        · rw [c3] at q; cases q
        · exact absurd q n
        · exact absurd q (c4.notTup c3)
  · obtain ⟨a1, a2, a3, a4⟩ := own i si oi h1 h2
    obtain ⟨c1, c2, c3, c4⟩ := own j sj oj h3 h4
    exact r0.ne i j a1 c1 a2 c2 p a3 a4 c3 c4 h5 h6
  · rcases g.nw a h with q | q | q | q
    · exact .inl q
    · exact .inr (.inl q)
    · exact .inr (.inr (.inl (co a q)))
    · exact .inr (.inr (.inr q))
  · refine ⟨rfl, ?_⟩
    by_cases hi : i ∈ refs rs
    · obtain ⟨j, hj⟩ := mem_refs.mp hi
      rcases b3 j i hj with ⟨x, y, z, z1, z2⟩ | ⟨x, y, z, z1, z2⟩ | ⟨d, z, w⟩
      · rw [h] at z; cases z
      · exact ⟨_, z2⟩
      · rw [h] at z; cases z
    · exact ⟨o, by rw [b2 i hi]; exact h⟩

/-- the slots of a def's parameters behind it -/
def svs : SS → Option (List SV)
  | [] => some []
  | some v :: r => (svs r).map (v :: ·)
  | none :: _ => none
theorem svs_map : ∀ as : List SV, svs (as.map some) = some as
  | [] => rfl
  | a :: as => by
    show (svs (as.map some)).map (a :: ·) = _
    rw [svs_map as]
    rfl
theorem svs_eq : ∀ {s : SS} {as : List SV}, svs s = some as → s = as.map some
  | [], as, e => by
    cases e
    rfl
  | some v :: r, as, e => by
    simp only [svs, Option.map_eq_some_iff] at e
    obtain ⟨l, e1, rfl⟩ := e
    rw [svs_eq e1]
    rfl
  | none :: r, as, e => by cases e
def callS (f : MF) (rs : List Rv) (s1 : SS) : R Rv := opt (argS s1 rs) fun as => if (refs rs).Nodup then
  match f as with
  | .ok r s2 => opt (svs s2) fun as' => opt (backS s1 rs as') fun s3 => match r with
    | .b _ => .no
    | .d d => .ok (.d d) s3
    | .o o => .ok (.o o) s3
  | .ex c l s2 => opt (svs s2) fun as' => opt (backS s1 rs as') fun s3 => .ex c l s3
  | .no => .no else .no
theorem call_ok {W : WX} {Q : VK} {f : MF} {F0 H0 F H : Hp} {σ : L2.St} {s0 s : SS} {rs : List Rv} {vs : List V} (g : Go K F0 H0 σ s0 F H σ s) (ra : RpA K F σ s rs vs) (w : Wn K W Q F0 H0 σ s0 (callS f rs s)) :
    spM K f vs H Q (fun c d H' => W c d σ H') := by
  obtain ⟨as, ea, w1⟩ := opt_wn w
  split at w1
  · rename_i nd
    refine ⟨F, as, g.rs.lend ra ea nd, ?_⟩
    cases e : f as with
    | ok r s2 =>
      rw [e] at w1
      obtain ⟨as', e1, w2⟩ := opt_wn w1
      obtain ⟨s3, e2, w3⟩ := opt_wn w2
      have e3 := svs_eq e1
      subst e3
      refine ⟨as', rfl, fun v F' H' g1 h1 nb => ?_⟩
      obtain ⟨g2, own⟩ := Go.call g.rs ra ea nd g1 e2
      cases r with
      | d d => exact w3 v F' H' (g.trans g2) h1
      | o o =>
        refine w3 v F' H' (g.trans g2) ?_
        obtain ⟨p, ho, rfl, a1, a2, a3, a4, a5⟩ := h1
        refine ⟨p, ho, rfl, a1, a2, a3, g.dm p a4, fun z => ?_⟩
        obtain ⟨_, u, q⟩ := g.rs.owF (own p z)
        rw [a4] at q; cases q
      | b i => exact absurd rfl (nb i)
    | ex c l s2 =>
      rw [e] at w1
      obtain ⟨as', e1, w2⟩ := opt_wn w1
      obtain ⟨s3, e2, w3⟩ := opt_wn w2
      have e3 := svs_eq e1
      subst e3
      refine ⟨as', rfl, fun dd F' H' xs g1 h1 h2 => ?_⟩
      exact w3 dd F' H' xs (g.trans (Go.call g.rs ra ea nd g1 e2).1) h1 h2
    | no =>
      rw [e] at w1
      exact w1
  · exact w1.elim
def noEx : R Rv → R Rv
  | .ex _ _ _ => .no
  | r => r
theorem noEx_wn {W : WX} {Q : VK} {F H : Hp} {σ : L2.St} {s : SS} {r : R Rv} (w : Wn K W Q F H σ s (noEx r)) (W' : WX) : Wn K W' Q F H σ s r := by
  cases r with
  | ok a s' => exact w
  | ex c l s' => exact w.elim
  | no => exact w.elim
theorem RpA.ofL {F : Hp} {σ : L2.St} {s : SS} : ∀ {ds : List D} {us : List V}, RpL K F ds us → RpA K F σ s (ds.map .d) us
  | _, _, .nil => .nil
  | _, _, .cons x y => .d x (RpA.ofL y)
theorem RpA.append {F : Hp} {σ : L2.St} {s : SS} {ds : List D} {us : List V} (h : RpL K F ds us) : ∀ {rs : List Rv} {vs : List V}, RpA K F σ s rs vs → RpA K F σ s (rs ++ ds.map .d) (vs ++ us)
  | _, _, .nil => RpA.ofL h
  | _, _, .d x r => .d x (r.append h)
  | _, _, .b x r => .b x (r.append h)
/-- a def that lets nothing out | one that may raise; ds: its defaults -/
def mCall (f : MF) (ds : List D) (ma : M (List Rv)) : M Rv := fun s => (ma s).bind fun rs s1 => noEx (callS f (rs ++ ds.map .d) s1)
def mCallX (f : MF) (ma : M (List Rv)) : M Rv := fun s => (ma s).bind fun rs s1 => callS f rs s1
theorem ev_call {W : WX} {f : MF} {ds : List D} {dvs : List V} {t : TA} {ma : M (List Rv)} (hd : ∀ F, RpL K F ds dvs) (ha : EvA K W t ma) : EvX K W (tCall (spM K f) dvs (fun _ _ _ => False) t) (mCall f ds ma) := by
  intro F H σ s Q rs w
  refine ha.step (Go.refl rs) w fun rs s1 vs F1 H1 g1 _ h1 w1 => ?_
  exact call_ok (W := fun _ _ _ _ => False) g1 (h1.append (hd F1)) (noEx_wn w1 _)
theorem ev_callX {W : WX} {f : MF} {t : TA} {ma : M (List Rv)} (ha : EvA K W t ma) : EvX K W (tCallS (spM K f) (WE W) t) (mCallX f ma) := by
  intro F H σ s Q rs w
  refine ha.step (Go.refl rs) w fun rs s1 vs F1 H1 g1 _ h1 w1 => ?_
  exact call_ok g1 h1 w1
/-- a method: the receiver is data, or a name's object, lent -/
def mMeth (C : Addr) (m : Str) (f : MF) (ds : List D) (mo : M Rv) (ma : M (List Rv)) : M Rv := fun s => (mo s).bind fun r s1 => opt (pk (nrm r) s1) fun x => match x with
  | .obj C' fs => if C' = C ∧ fs.lookup m = none then (ma s1).bind fun rs s2 => noEx (callS f (nrm r :: (rs ++ ds.map .d)) s2) else .no
  | _ => .no
theorem RpR.arg {H0 F H : Hp} {σ : L2.St} {s : SS} {r : Rv} {v : V} {rs : List Rv} {vs : List V} (h : RpR K H0 F H σ s (nrm r) v) (ra : RpA K F σ s rs vs) : RpA K F σ s (nrm r :: rs) (v :: vs) := by
  cases r with
  | d d => exact .d h ra
  | o o => exact .d h ra
  | b i => exact .b h ra
theorem ev_meth {W : WX} {C : Addr} {m : Str} {f : MF} {ds : List D} {dvs : List V} {ta : TE} {t : TA} {mo : M Rv} {ma : M (List Rv)} (hd : ∀ F, RpL K F ds dvs) (ho : EvX K W ta mo) (ha : EvA K W t ma) :
    EvX K W (tMeth C m (spM K f) dvs (fun _ _ _ => False) ta t) (mMeth C m f ds mo ma) := by
  intro F H σ s Q rs w
  refine ho.step (Go.refl rs) w fun r s1 v F1 H1 g1 _ h1 w1 => ?_
  obtain ⟨F1', g1', sb1, h1'⟩ := nrm_ok g1 h1
  obtain ⟨x, ex, w2⟩ := opt_wn w1
  have hp := pk_ok g1'.rs h1' ex
  cases x with
  | obj C' fs =>
    simp only at w2
    split at w2
    · rename_i hc
      obtain ⟨a, dx, xs, rfl, e1, e2⟩ := hp
      obtain ⟨rfl, l⟩ := hc
      refine ⟨a, dx, xs, rfl, e1, ?_, ?_⟩
      · rcases e2.lookup (f := m) with ⟨_, z⟩ | ⟨d, u, z, _⟩
        · exact z
        · rw [l] at z; cases z
      · refine ha.step g1' w2 fun rs s2 vs F2 H2 g2 g12 h2 w3 => ?_
        exact call_ok (W := fun _ _ _ _ => False) g2 ((h1'.go g12).arg (h2.append (hd F2))) (noEx_wn w3 _)
    · exact w2.elim
  | _ => exact w2.elim
/-- an attribute of an instance of one of these classes -/
def mFld (Cs : List Addr) (f : Str) (mo : M Rv) : M Rv := fun s => (mo s).bind fun r s1 => opt (pk r s1) fun x => match x with
  | .obj C fs => if C ∈ Cs then opt (fs.lookup f) fun d => .ok (.d d) s1 else .no
  | _ => .no
theorem ev_fld {W : WX} {Cs : List Addr} {f : Str} {ta : TE} {mo : M Rv} (hc : ∀ C ∈ Cs, Cls K C ∧ NoAttr K C f) (ho : EvX K W ta mo) : EvX K W (tFld K ta f) (mFld Cs f mo) := by
  intro F H σ s Q rs w
  refine ho.step (Go.refl rs) w fun r s1 v F1 H1 g1 _ h1 w1 => ?_
  obtain ⟨x, ex, w2⟩ := opt_wn w1
  have hp := pk_ok g1.rs h1 ex
  cases x with
  | obj C fs =>
    simp only at w2
    split at w2
    · rename_i hm
      obtain ⟨a, dx, xs, rfl, e1, e2⟩ := hp
      obtain ⟨d, ed, w3⟩ := opt_wn w2
      rcases e2.lookup (f := f) with ⟨z, _⟩ | ⟨d', u, z1, z2, z3⟩
      · rw [ed] at z; cases z
      · rw [ed] at z1
        cases z1
        exact ⟨a, C, dx, xs, u, rfl, e1, (hc C hm).1, (hc C hm).2, z2, w3 u F1 H1 g1 z3⟩
    · exact w2.elim
  | _ => exact w2.elim
end Cz

/-! # CzF -/
namespace Cz
open L2 PyProof.Rows PySem.Spec PySem
variable {K : PySem.W.Frag}

/-! ## statements -/
inductive Out where
  | nx (s : SS) | rt (r : Rv) (s : SS) | bk (s : SS) | ct (s : SS) | ex (c : Addr) (l : List (Str × D)) (s : SS) | no
abbrev MS := SS → Out
def R.out {α : Type} (r : R α) (f : α → SS → Out) : Out := match r with
  | .ok a s => f a s
  | .ex c l s => .ex c l s
  | .no => .no
def optO {α : Type} (o : Option α) (f : α → Out) : Out := match o with
  | some a => f a
  | none => .no
/-- this def's own, not lent -/
def OwW (σ : L2.St) (s : SS) (a : Addr) : Prop := ∃ (i : Nat) (o : OD), s[i]? = some (some (.ow o)) ∧ σ[i]? = some (some (.ref a))
def RpRt (K : PySem.W.Frag) (H0 : Hp) (σ0 : L2.St) (s0 : SS) (F H : Hp) (σ : L2.St) (s : SS) : Rv → V → Prop
  | .d d, v => Rp K F d v
  | .o o, v => ∃ p ho, v = .ref p ∧ F p = none ∧ H p = some ho ∧ RpO K F o ho ∧ (H0 p = none ∨ OwW σ0 s0 p) ∧ ∀ (j : Nat) (o' : OD), s[j]? = some (some (.br o')) → σ[j]? ≠ some (some (.ref p))
  | .b _, _ => False
theorem RpRt.back {H0 H1 F0 F1 F H : Hp} {σ0 σ1 σ : L2.St} {s0 s1 s : SS} {r : Rv} {v : V} (g : Go K F0 H0 σ0 s0 F1 H1 σ1 s1) (h : RpRt K H1 σ1 s1 F H σ s r v) : RpRt K H0 σ0 s0 F H σ s r v := by
  cases r with
  | d d => exact h
  | b i => exact h
  | o o =>
    obtain ⟨p, ho, rfl, e1, e2, e3, e4, e5⟩ := h
    refine ⟨p, ho, rfl, e1, e2, e3, ?_, e5⟩
    rcases e4 with e4 | ⟨i, o', h1, h2⟩
    · exact .inl (g.dm p e4)
    · rcases g.ow p ⟨i, _, o', h1, rfl, h2⟩ with ⟨j, sv, u, a1, a2, a3⟩ | q
      · cases sv with
        | fz d => cases a2
        | ow o2 => exact .inr ⟨j, o2, a1, a3⟩
        | br o2 =>
          obtain ⟨b1, o3, b2⟩ := g.br j o2 a1
          have e := g.rs.ne i j _ _ o' o3 p h1 rfl b2 rfl h2 (b1.trans a3)
          subst e
          rw [h1] at b2
          cases b2
      · exact .inl q
def WnS (K : PySem.W.Frag) (W : WX) (D : Ends) (F H : Hp) (σ : L2.St) (s : SS) : Out → Prop
  | .nx s' => ∀ σ' F' H', Go K F H σ s F' H' σ' s' → D.nx σ' H'
  | .rt r s' => ∀ v σ' F' H', Go K F H σ s F' H' σ' s' → RpRt K H σ s F' H' σ' s' r v → D.rt v H'
  | .bk s' => ∀ σ' F' H', Go K F H σ s F' H' σ' s' → D.bk σ' H'
  | .ct s' => ∀ σ' F' H', Go K F H σ s F' H' σ' s' → D.ct σ' H'
  | .ex c l s' => ∀ dd σ' F' H' xs, Go K F H σ s F' H' σ' s' → H' dd = some (.xd xs) → RpF K F' l xs → W (.ref c) (some dd) σ' H'
  | .no => False
def EvS (K : PySem.W.Frag) (W : WX) (ts : TS) (m : MS) : Prop := ∀ F H σ s D, RS K F H σ s → WnS K W D F H σ s (m s) → ts D σ H
theorem WnS.at {W : WX} {D : Ends} {F0 H0 F H : Hp} {σ0 σ : L2.St} {s0 s : SS} {o : Out} (g : Go K F0 H0 σ0 s0 F H σ s) (w : WnS K W D F0 H0 σ0 s0 o) : WnS K W D F H σ s o := by
  cases o with
  | nx s' => exact fun σ' F' H' g1 => w σ' F' H' (g.trans g1)
  | rt r s' => exact fun v σ' F' H' g1 h => w v σ' F' H' (g.trans g1) (h.back g)
  | bk s' => exact fun σ' F' H' g1 => w σ' F' H' (g.trans g1)
  | ct s' => exact fun σ' F' H' g1 => w σ' F' H' (g.trans g1)
  | ex c l s' => exact fun dd σ' F' H' xs g1 => w dd σ' F' H' xs (g.trans g1)
  | no => exact w
theorem EvS.at {W : WX} {ts : TS} {m : MS} (h : EvS K W ts m) {F0 H0 F H : Hp} {σ0 σ : L2.St} {s0 s : SS} {D : Ends} (g : Go K F0 H0 σ0 s0 F H σ s) (w : WnS K W D F0 H0 σ0 s0 (m s)) : ts D σ H :=
  h F H σ s D g.rs (w.at g)
/-- an expression within a statement -/
theorem EvX.stepS {W : WX} {te : TE} {m : M Rv} (h : EvX K W te m) {F H : Hp} {σ : L2.St} {s : SS} {D : Ends} {Q1 : VK} {f : Rv → SS → Out} (rs : RS K F H σ s) (w : WnS K W D F H σ s ((m s).out f))
    (k : ∀ r s1 v F1 H1, Go K F H σ s F1 H1 σ s1 → RpR K H F1 H1 σ s1 r v → WnS K W D F H σ s (f r s1) → Q1 v H1) : te σ H Q1 := by
  refine h F H σ s Q1 rs ?_
  cases e : m s with
  | ok r s1 =>
    rw [e] at w
    exact fun v F1 H1 g1 r1 => k r s1 v F1 H1 g1 r1 w
  | ex c l s1 =>
    rw [e] at w
    exact fun dd F1 H1 xs g1 => w dd σ F1 H1 xs g1
  | no =>
    rw [e] at w
    exact w
theorem EvT.stepS {W : WX} {tt : TT} {m : M Bool} (h : EvT K W tt m) {F H : Hp} {σ : L2.St} {s : SS} {D : Ends} {Q1 : Bool → Hp → Prop} {f : Bool → SS → Out} (rs : RS K F H σ s) (w : WnS K W D F H σ s ((m s).out f))
    (k : ∀ b s1 F1 H1, Go K F H σ s F1 H1 σ s1 → WnS K W D F H σ s (f b s1) → Q1 b H1) : tt σ H Q1 := by
  refine h F H σ s Q1 rs ?_
  cases e : m s with
  | ok r s1 =>
    rw [e] at w
    exact fun F1 H1 g1 => k r s1 F1 H1 g1 w
  | ex c l s1 =>
    rw [e] at w
    exact fun dd F1 H1 xs g1 => w dd σ F1 H1 xs g1
  | no =>
    rw [e] at w
    exact w
theorem optO_wn {α : Type} {F H : Hp} {σ : L2.St} {s : SS} {W : WX} {D : Ends} {o : Option α} {f : α → Out} (w : WnS K W D F H σ s (optO o f)) : ∃ a, o = some a ∧ WnS K W D F H σ s (f a) := by
  cases o with
  | none => exact w.elim
  | some a => exact ⟨a, rfl, w⟩

def mNext : MS := fun s => .nx s
theorem es_next {W : WX} : EvS K W tNext mNext := fun F H σ s D rs w => w σ F H (Go.refl rs)
def mBreak : MS := fun s => .bk s
theorem es_break {W : WX} : EvS K W tBreak mBreak := fun F H σ s D rs w => w σ F H (Go.refl rs)
def mCont : MS := fun s => .ct s
theorem es_cont {W : WX} : EvS K W tCont mCont := fun F H σ s D rs w => w σ F H (Go.refl rs)
def mNever : MS := fun _ => .no
theorem es_never {W : WX} {t : TS} : EvS K W t mNever := fun F H σ s D rs w => w.elim
def mSeq (a b : MS) : MS := fun s => match a s with
  | .nx s' => b s'
  | o => o
theorem es_seq {W : WX} {t u : TS} {a b : MS} (ha : EvS K W t a) (hb : EvS K W u b) : EvS K W (tSeq t u) (mSeq a b) := by
  intro F H σ s D rs w
  refine ha F H σ s _ rs ?_
  unfold mSeq at w
  cases e : a s with
  | nx s' =>
    rw [e] at w
    exact fun σ' F' H' g => hb.at g w
  | rt r s' => rw [e] at w; exact w
  | bk s' => rw [e] at w; exact w
  | ct s' => rw [e] at w; exact w
  | ex c l s' => rw [e] at w; exact w
  | no => rw [e] at w; exact w
def mIfS (mt : M Bool) (a b : MS) : MS := fun s => (mt s).out fun c s1 => if c then a s1 else b s1
theorem es_if {W : WX} {c : TT} {t u : TS} {mt : M Bool} {a b : MS} (hc : EvT K W c mt) (ha : EvS K W t a) (hb : EvS K W u b) : EvS K W (tIfS c t u) (mIfS mt a b) := by
  intro F H σ s D rs w
  refine hc.stepS rs w fun x s1 F1 H1 g1 w1 => ?_
  cases x with
  | true => exact ha.at g1 w1
  | false => exact hb.at g1 w1
def mRet (me : M Rv) : MS := fun s => (me s).out fun r s1 => match r with
  | .d d => .rt (.d d) s1
  | .o o => .rt (.o o) s1
  | .b i => match s1[i]? with
    | some (some (.fz d)) => .rt (.d d) s1
    | some (some (.ow o)) => .rt (.o o) s1
    | _ => .no
theorem es_ret {W : WX} {te : TE} {me : M Rv} (h : EvX K W te me) : EvS K W (tRet te) (mRet me) := by
  intro F H σ s D rs w
  refine h.stepS rs w fun r s1 v F1 H1 g1 h1 w1 => ?_
  cases r with
  | d d => exact w1 v σ F1 H1 g1 h1
  | o o =>
    refine w1 v σ F1 H1 g1 ?_
    obtain ⟨p, ho, rfl, a1, a2, a3, a4, a5⟩ := h1
    exact ⟨p, ho, rfl, a1, a2, a3, .inl a4, fun j o' z y => a5 ⟨j, _, o', z, rfl, y⟩⟩
  | b i =>
    have hv : σ[i]? = some (some v) := h1
    simp only at w1
    split at w1
    · rename_i d q
      obtain ⟨u, b1, b2⟩ := g1.rs.fz i d q
      rw [hv] at b1
      cases b1
      exact w1 v σ F1 H1 g1 b2
    · rename_i o q
      obtain ⟨p, ho, b1, b2, b3, b4⟩ := g1.rs.ow i _ o q rfl
      rw [hv] at b1
      cases b1
      refine w1 _ σ F1 H1 g1 ⟨p, ho, rfl, b2, b3, b4, ?_, fun j o' z y => ?_⟩
      · rcases g1.ow p ⟨i, _, o, q, rfl, hv⟩ with ⟨j, sv, u, a1, a2, a3⟩ | z
        · cases sv with
          | fz d => cases a2
          | ow o2 => exact .inr ⟨j, o2, a1, a3⟩
          | br o2 =>
            obtain ⟨c1, o3, c2⟩ := g1.br j o2 a1
            have e := g1.rs.ne i j _ _ o o3 p q rfl c2 rfl hv (c1.trans a3)
            subst e
            rw [q] at c2
            cases c2
        · exact .inl z
      · have e := g1.rs.ne i j _ _ o o' p q rfl z rfl hv y
        subst e
        rw [q] at z
        cases z
    · exact w1.elim
def mRetN : MS := fun s => .rt (.d .non) s
theorem es_retN {W : WX} : EvS K W tRetN mRetN := fun F H σ s D rs w => w .non σ F H (Go.refl rs) .non
def mDrop (me : M Rv) : MS := fun s => (me s).out fun _ s1 => .nx s1
theorem es_drop {W : WX} {te : TE} {me : M Rv} (h : EvX K W te me) : EvS K W (tDrop te) (mDrop me) := by
  intro F H σ s D rs w
  exact h.stepS rs w fun r s1 v F1 H1 g1 h1 w1 => w1 σ F1 H1 g1

/-! ## names that get a value -/
/-- may the i-th name be given another value? -/
def free (s : SS) (i : Nat) : Bool := match s[i]? with
  | some (some (.br _)) => false
  | some _ => true
  | none => false
theorem free_lt {s : SS} {i : Nat} (h : free s i = true) : i < s.length ∧ ∀ o, s[i]? ≠ some (some (.br o)) := by
  unfold free at h
  split at h
  · cases h
  · rename_i x q n
    exact ⟨lt_of_get n, fun o z => by rw [n] at z; cases z; exact q o rfl⟩
  · cases h
theorem Go.setD {F0 H0 F H : Hp} {σ0 σ : L2.St} {s0 s : SS} {i : Nat} {d : D} {v : V} (g : Go K F0 H0 σ0 s0 F H σ s) (hf : free s i = true) (h : Rp K F d v) : Go K F0 H0 σ0 s0 F H (σ.set i (some v)) (s.set i (some (.fz d))) := by
  obtain ⟨hl, nb⟩ := free_lt hf
  have hσ : i < σ.length := by rw [g.rs.len]; exact hl
  have si : (s.set i (some (.fz d)))[i]? = some (some (.fz d)) := List.getElem?_set_self hl
  have σi : (σ.set i (some v))[i]? = some (some v) := List.getElem?_set_self hσ
  have old : ∀ (j : Nat) (sv : SV) (o : OD), (s.set i (some (.fz d)))[j]? = some (some sv) → SV.own sv = some o → j ≠ i ∧ s[j]? = some (some sv) ∧ (σ.set i (some v))[j]? = σ[j]? := fun j sv o q w => by
    have nj : j ≠ i := fun z => by
      subst z
      rw [si] at q
      cases q
      cases w
    rw [get_set_ne (Ne.symm nj)] at q
    exact ⟨nj, q, get_set_ne (Ne.symm nj)⟩
  refine ⟨⟨g.rs.sub, by rw [List.length_set, List.length_set]; exact g.rs.len, fun j d' q => ?_, fun j sv o q w => ?_, fun j k sj sk oj ok' p a1 a2 a3 a4 a5 a6 => ?_⟩, g.fr, g.kp, g.nw, fun a w => ?_, fun j o q => ?_, g.dm⟩
  · by_cases nj : j = i
    · subst nj
      rw [si] at q
      cases q
      exact ⟨v, σi, h⟩
    · rw [get_set_ne (Ne.symm nj)] at q ⊢
      exact g.rs.fz j d' q
  · obtain ⟨nj, q', e⟩ := old j sv o q w
    rw [e]
    exact g.rs.ow j sv o q' w
  · obtain ⟨_, q1, e1⟩ := old j sj oj a1 a2
    obtain ⟨_, q2, e2⟩ := old k sk ok' a3 a4
    rw [e1] at a5
    rw [e2] at a6
    exact g.rs.ne j k sj sk oj ok' p q1 a2 q2 a4 a5 a6
  · obtain ⟨j, sv, o, q1, q2, q3⟩ := w
    obtain ⟨_, q', e⟩ := old j sv o q1 q2
    rw [e] at q3
    exact g.ow a ⟨j, sv, o, q', q2, q3⟩
  · obtain ⟨e, o', q'⟩ := g.br j o q
    have nj : i ≠ j := fun z => by
      subst z
      exact nb _ q'
    rw [get_set_ne nj, get_set_ne nj]
    exact ⟨e, o', q'⟩
theorem Go.setO {F0 H0 F H : Hp} {σ0 σ : L2.St} {s0 s : SS} {i : Nat} {o : OD} {v : V} (g : Go K F0 H0 σ0 s0 F H σ s) (hf : free s i = true) (h : RpR K H0 F H σ s (.o o) v) : Go K F0 H0 σ0 s0 F H (σ.set i (some v)) (s.set i (some (.ow o))) := by
  obtain ⟨hl, nb⟩ := free_lt hf
  obtain ⟨p, ho, rfl, b1, b2, b3, b4, b5⟩ := h
  have hσ : i < σ.length := by rw [g.rs.len]; exact hl
  have si : (s.set i (some (.ow o)))[i]? = some (some (.ow o)) := List.getElem?_set_self hl
  have σi : (σ.set i (some (.ref p)))[i]? = some (some (.ref p)) := List.getElem?_set_self hσ
  have old : ∀ (j : Nat) (sv : SV), j ≠ i → (s.set i (some (.ow o)))[j]? = some (some sv) → s[j]? = some (some sv) ∧ (σ.set i (some (.ref p)))[j]? = σ[j]? := fun j sv nj q => by
    rw [get_set_ne (Ne.symm nj)] at q
    exact ⟨q, get_set_ne (Ne.symm nj)⟩
  have np : ∀ (j : Nat) (sv : SV) (u : OD), j ≠ i → (s.set i (some (.ow o)))[j]? = some (some sv) → SV.own sv = some u → (σ.set i (some (.ref p)))[j]? ≠ some (some (.ref p)) := fun j sv u nj q w z => by
    obtain ⟨q', e⟩ := old j sv nj q
    rw [e] at z
    exact b5 ⟨j, sv, u, q', w, z⟩
  refine ⟨⟨g.rs.sub, by rw [List.length_set, List.length_set]; exact g.rs.len, fun j d' q => ?_, fun j sv u q w => ?_, fun j k sj sk oj ok' x a1 a2 a3 a4 a5 a6 => ?_⟩, g.fr, g.kp, g.nw, fun a w => ?_, fun j u q => ?_, g.dm⟩
  · have nj : j ≠ i := fun z => by
      subst z
      rw [si] at q
      cases q
    rw [get_set_ne (Ne.symm nj)] at q ⊢
    exact g.rs.fz j d' q
  · by_cases nj : j = i
    · subst nj
      rw [si] at q
      cases q
      cases w
      exact ⟨p, ho, σi, b1, b2, b3⟩
    · obtain ⟨q', e⟩ := old j sv nj q
      rw [e]
      exact g.rs.ow j sv u q' w
  · by_cases nj : j = i
    · subst nj
      rw [σi] at a5
      cases a5
      by_cases nk : k = j
      · exact nk.symm
      · exact absurd a6 (np k sk ok' nk a3 a4)
    · by_cases nk : k = i
      · subst nk
        rw [σi] at a6
        cases a6
        exact absurd a5 (np j sj oj nj a1 a2)
      · obtain ⟨q1, e1⟩ := old j sj nj a1
        obtain ⟨q2, e2⟩ := old k sk nk a3
        rw [e1] at a5
        rw [e2] at a6
        exact g.rs.ne j k sj sk oj ok' x q1 a2 q2 a4 a5 a6
  · obtain ⟨j, sv, u, q1, q2, q3⟩ := w
    by_cases nj : j = i
    · subst nj
      rw [σi] at q3
      cases q3
      exact .inr b4
    · obtain ⟨q', e⟩ := old j sv nj q1
      rw [e] at q3
      exact g.ow a ⟨j, sv, u, q', q2, q3⟩
  · obtain ⟨e, o', q'⟩ := g.br j u q
    have nj : i ≠ j := fun z => by
      subst z
      exact nb _ q'
    rw [get_set_ne nj, get_set_ne nj]
    exact ⟨e, o', q'⟩
/-- name = e -/
def mAsg (i : Nat) (me : M Rv) : MS := fun s => (me s).out fun r s1 => match r with
  | .d d => if free s1 i then .nx (s1.set i (some (.fz d))) else .no
  | .o o => if free s1 i then .nx (s1.set i (some (.ow o))) else .no
  | .b j => (frz (.b j) s1).out fun d s2 => if free s2 i then .nx (s2.set i (some (.fz d))) else .no
theorem frz_out {W : WX} {D' : Ends} {F0 H0 : Hp} {σ : L2.St} {s0 s : SS} {r : Rv} {f : D → SS → Out} (w : WnS K W D' F0 H0 σ s0 ((frz r s).out f)) : ∃ d s', frz r s = .ok d s' ∧ WnS K W D' F0 H0 σ s0 (f d s') := by
  cases e : frz r s with
  | ok d s' => rw [e] at w; exact ⟨d, s', rfl, w⟩
  | ex c l s' => exact absurd e frz_ex
  | no => rw [e] at w; exact w.elim
theorem es_asg {W : WX} {i : Nat} {te : TE} {me : M Rv} (h : EvX K W te me) : EvS K W (tAsg te (gName i)) (mAsg i me) := by
  intro F H σ s D rs w
  refine h.stepS rs w fun r s1 v F1 H1 g1 h1 w1 => ?_
  show D.nx (σ.set i (some v)) H1
  cases r with
  | d d =>
    simp only at w1
    split at w1
    · rename_i hf
      exact w1 _ F1 H1 (g1.setD hf h1)
    · exact w1.elim
  | o o =>
    simp only at w1
    split at w1
    · rename_i hf
      exact w1 _ F1 H1 (g1.setO hf h1)
    · exact w1.elim
  | b j =>
    obtain ⟨d, s2, e, w2⟩ := frz_out w1
    obtain ⟨F2, g2, _, hd⟩ := frz_ok g1 h1 e
    split at w2
    · rename_i hf
      exact w2 _ F2 H1 (g2.setD hf hd)
    · exact w2.elim
/-! ## targets of data -/
abbrev MG := D → SS → Option SS
/-- tv: the places it stores to -/
def EvG (K : PySem.W.Frag) (g : TG) (f : MG) (tv : List Nat) : Prop := ∀ F0 H0 σ0 s0 F H σ s v d s' Q, Go K F0 H0 σ0 s0 F H σ s → Rp K F d v → f d s = some s' →
  (∀ σ', Go K F0 H0 σ0 s0 F H σ' s' → (∀ j : Nat, j ∉ tv → σ'[j]? = σ[j]?) → σ'.length = σ.length → Q σ' H) → g v σ H Q
def mgName (i : Nat) : MG := fun d s => if free s i then some (s.set i (some (.fz d))) else none
theorem eg_name {i : Nat} : EvG K (gName i) (mgName i) [i] := by
  intro F0 H0 σ0 s0 F H σ s v d s' Q g h e q
  unfold mgName at e
  split at e
  · rename_i hf
    cases e
    exact q _ (g.setD hf h) (fun j hj => get_set_ne (fun z => hj (by rw [z]; exact List.mem_singleton.mpr rfl))) (by rw [List.length_set])
  · cases e
abbrev MGs := List D → SS → Option SS
def EvGs (K : PySem.W.Frag) (g : TGs) (f : MGs) (tv : List Nat) : Prop := ∀ F0 H0 σ0 s0 F H σ s vs ds s' Q, Go K F0 H0 σ0 s0 F H σ s → RpL K F ds vs → f ds s = some s' →
  (∀ σ', Go K F0 H0 σ0 s0 F H σ' s' → (∀ j : Nat, j ∉ tv → σ'[j]? = σ[j]?) → σ'.length = σ.length → Q σ' H) → g vs σ H Q
def mgNil : MGs := fun ds s => match ds with
  | [] => some s
  | _ => none
theorem eg_nil : EvGs K gNil mgNil [] := by
  intro F0 H0 σ0 s0 F H σ s vs ds s' Q g h e q
  cases h with
  | nil =>
    cases e
    exact ⟨rfl, q σ g (fun _ _ => rfl) rfl⟩
  | cons a b => cases e
def mgCons (f : MG) (r : MGs) : MGs := fun ds s => match ds with
  | d :: ds => (f d s).bind fun s1 => r ds s1
  | [] => none
theorem eg_cons {t : TG} {u : TGs} {f : MG} {r : MGs} {tv us : List Nat} (h1 : EvG K t f tv) (h2 : EvGs K u r us) : EvGs K (gCons t u) (mgCons f r) (tv ++ us) := by
  intro F0 H0 σ0 s0 F H σ s vs ds s' Q g h e q
  cases h with
  | nil => cases e
  | cons a b =>
    rename_i d ds v vs
    have e' : (f d s).bind (fun s1 => r ds s1) = some s' := e
    rw [Option.bind_eq_some_iff] at e'
    obtain ⟨s1, e1, e2⟩ := e'
    refine ⟨v, vs, rfl, h1 F0 H0 σ0 s0 F H σ s v d s1 _ g a e1 fun σ' g' k1 l1 => h2 F0 H0 σ0 s0 F H σ' s1 vs ds s' Q g' b e2 fun σ2 g2 k2 l2 => q σ2 g2 (fun j hj => ?_) (l2.trans l1)⟩
    exact (k2 j fun z => hj (List.mem_append_right _ z)).trans (k1 j fun z => hj (List.mem_append_left _ z))
def mgTup (n : Nat) (r : MGs) : MG := fun d s => (tupL d).bind fun ds => if ds.length = n then r ds s else none
theorem eg_tup {n : Nat} {t : TGs} {r : MGs} {tv : List Nat} (h : EvGs K t r tv) : EvG K (gTup K n t) (mgTup n r) tv := by
  intro F0 H0 σ0 s0 F H σ s v d s' Q g hd e q
  unfold mgTup at e
  rw [Option.bind_eq_some_iff] at e
  obtain ⟨ds, e1, e⟩ := e
  obtain ⟨a, xs, rfl, hs, hl⟩ := hd.sqt e1
  split at e
  · rename_i hn
    exact ⟨a, xs, rfl, g.rs.sub.t hs, by rw [← hl.length]; exact hn, h F0 H0 σ0 s0 F H σ s xs ds s' Q g hl e q⟩
  · cases e
/-- target = e, the value made data first -/
def mAsgG (f : MG) (me : M Rv) : MS := fun s => (me s).out fun r s1 => (frz r s1).out fun d s2 => optO (f d s2) fun s3 => .nx s3
theorem es_asgG {W : WX} {g : TG} {f : MG} {tv : List Nat} {te : TE} {me : M Rv} (hg : EvG K g f tv) (h : EvX K W te me) : EvS K W (tAsg te g) (mAsgG f me) := by
  intro F H σ s D rs w
  refine h.stepS rs w fun r s1 v F1 H1 g1 h1 w1 => ?_
  obtain ⟨d, s2, e, w2⟩ := frz_out w1
  obtain ⟨F2, g2, _, hd⟩ := frz_ok g1 h1 e
  obtain ⟨s3, e3, w3⟩ := optO_wn w2
  exact hg F H σ s F2 H1 σ s2 v d s3 _ g2 hd e3 fun σ' g3 _ _ => w3 σ' F2 H1 g3

/-! ## loops -/
def WnI (K : PySem.W.Frag) (W : WX) (Q : It → Hp → Prop) (F H : Hp) (σ : L2.St) (s : SS) : R (List D) → Prop
  | .ok ds s' => ∀ J F' H' G Y, Go K F H σ s F' H' σ s' → Walk J ds.length G Y → (∀ F2 H2 σ2 s2, RS K F2 H2 σ2 s2 → Sub F' F2 → G H2) →
      (∀ i Hc x Hx F2 σ2 s2, i < ds.length → Y i Hc x Hx → RS K F2 Hc σ2 s2 → Sub F' F2 → ∃ F3 d, Al F2 Hc F3 Hx ∧ ds[i]? = some d ∧ Rp K F3 d x) → Q J H'
  | .ex c l s' => ∀ dd F' H' xs, Go K F H σ s F' H' σ s' → H' dd = some (.xd xs) → RpF K F' l xs → W (.ref c) (some dd) σ H'
  | .no => False
def EvI (K : PySem.W.Frag) (W : WX) (wi : TI) (m : M (List D)) : Prop := ∀ F H σ s Q, RS K F H σ s → WnI K W Q F H σ s (m s) → wi σ H Q
def loop (f : MG) (b : MS) : List D → SS → Out
  | [], s => .nx s
  | d :: ds, s => optO (f d s) fun s1 => match b s1 with
    | .nx s2 => loop f b ds s2
    | .ct s2 => loop f b ds s2
    | .bk s2 => .nx s2
    | o => o
def mFor (mi : M (List D)) (f : MG) (b : MS) : MS := fun s => (mi s).out fun ds s1 => loop f b ds s1
theorem es_forAt {W : WX} {wi : TI} {g : TG} {tb : TS} {mi : M (List D)} {f : MG} {tv : List Nat} {b : MS} {F H : Hp} {σ : L2.St} {s : SS} {D : Ends} (hi : ∀ Q, WnI K W Q F H σ s (mi s) → wi σ H Q) (hg : EvG K g f tv) (hb : EvS K W tb b) (w : WnS K W D F H σ s (mFor mi f b s)) : tFor wi g tb D σ H := by
  refine hi _ ?_
  have w' : WnS K W D F H σ s ((mi s).out fun ds s1 => loop f b ds s1) := w
  cases e : mi s with
  | no => rw [e] at w'; exact w'
  | ex c l s1 =>
    rw [e] at w'
    exact fun dd F1 H1 xs g1 => w' dd σ F1 H1 xs g1
  | ok ds s1 =>
    rw [e] at w'
    intro J F1 H1 G Y g1 wk hG hY
    refine for_it wk (fun i σ2 H2 => ∃ F2 s2, Go K F H σ s F2 H2 σ2 s2 ∧ Sub F1 F2 ∧ WnS K W D F H σ s (loop f b (ds.drop i) s2)) ⟨F1, s1, g1, Sub.refl, w'⟩ ?_ ?_ ?_
    · rintro i σ2 H2 _ ⟨F2, s2, g2, sb, _⟩
      exact hG F2 H2 σ2 s2 g2.rs sb
    · rintro i x σ2 H2 H3 hi' ⟨F2, s2, g2, sb, w2⟩ y
      obtain ⟨F3, d, al, ed, rd⟩ := hY i H2 x H3 F2 σ2 s2 hi' y g2.rs sb
      have hd : ds.drop i = d :: ds.drop (i + 1) := by
        obtain ⟨hlt, he⟩ := List.getElem?_eq_some_iff.mp ed
        rw [List.drop_eq_getElem_cons hlt, he]
      rw [hd] at w2
      obtain ⟨s3, e3, w3⟩ := optO_wn w2
      refine hg F H σ s F3 H3 σ2 s2 x d s3 _ (g2.al al) rd e3 fun σ3 g3 _ _ => ?_
      refine hb F3 H3 σ3 s3 _ g3.rs ?_
      cases eb : b s3 with
      | nx s4 =>
        rw [eb] at w3
        exact fun σ4 F4 H4 g4 => ⟨F4, s4, g3.trans g4, (sb.trans al.f).trans g4.fr, w3⟩
      | ct s4 =>
        rw [eb] at w3
        exact fun σ4 F4 H4 g4 => ⟨F4, s4, g3.trans g4, (sb.trans al.f).trans g4.fr, w3⟩
      | bk s4 =>
        rw [eb] at w3
        exact fun σ4 F4 H4 g4 => w3 σ4 F4 H4 (g3.trans g4)
      | rt r s4 =>
        rw [eb] at w3
        exact fun v σ4 F4 H4 g4 h4 => w3 v σ4 F4 H4 (g3.trans g4) (h4.back g3)
      | ex c l s4 =>
        rw [eb] at w3
        exact fun dd σ4 F4 H4 xs g4 => w3 dd σ4 F4 H4 xs (g3.trans g4)
      | no =>
        rw [eb] at w3
        exact w3
    · rintro σ2 H2 ⟨F2, s2, g2, sb, w2⟩
      rw [List.drop_length] at w2
      exact w2 σ2 F2 H2 g2
theorem es_for {W : WX} {wi : TI} {g : TG} {tb : TS} {mi : M (List D)} {f : MG} {tv : List Nat} {b : MS} (hi : EvI K W wi mi) (hg : EvG K g f tv) (hb : EvS K W tb b) : EvS K W (tFor wi g tb) (mFor mi f b) :=
  fun F H σ s D rs w => es_forAt (fun Q => hi F H σ s Q rs) hg hb w
def mWhile (n : Nat) (mc : M Bool) (b : MS) : MS := fun s => match n with
  | 0 => .no
  | n + 1 => (mc s).out fun c s1 => if c then match b s1 with
      | .nx s2 => mWhile n mc b s2
      | .ct s2 => mWhile n mc b s2
      | .bk s2 => .nx s2
      | o => o
    else .nx s1
theorem es_while {W : WX} {c : TT} {tb : TS} {mc : M Bool} {b : MS} (n : Nat) (hc : EvT K W c mc) (hb : EvS K W tb b) : EvS K W (tWhile c tb) (mWhile n mc b) := by
  intro F H σ s D rs w
  refine ⟨fun m σ2 H2 => ∃ F2 s2, Go K F H σ s F2 H2 σ2 s2 ∧ WnS K W D F H σ s (mWhile m mc b s2), ⟨n, F, s, Go.refl rs, w⟩, ?_⟩
  rintro m σ2 H2 ⟨F2, s2, g2, w2⟩
  cases m with
  | zero => exact w2.elim
  | succ m =>
    have w3 : WnS K W D F2 H2 σ2 s2 ((mc s2).out fun c s1 => if c then match b s1 with
      | .nx s2 => mWhile m mc b s2
      | .ct s2 => mWhile m mc b s2
      | .bk s2 => .nx s2
      | o => o
    else .nx s1) := WnS.at g2 w2
    refine hc F2 H2 σ2 s2 _ g2.rs ?_
    have w4 : WnS K W D F H σ s ((mc s2).out fun c s1 => if c then match b s1 with
      | .nx s2 => mWhile m mc b s2
      | .ct s2 => mWhile m mc b s2
      | .bk s2 => .nx s2
      | o => o
    else .nx s1) := w2
    cases e : mc s2 with
    | no => rw [e] at w4; exact w4
    | ex c l s3 =>
      rw [e] at w4
      exact fun dd F3 H3 xs g3 => w4 dd σ2 F3 H3 xs (g2.trans g3)
    | ok x s3 =>
      rw [e] at w4
      intro F3 H3 g3
      have g := g2.trans g3
      cases x with
      | false => exact w4 σ2 F3 H3 g
      | true =>
        refine ⟨fun σ4 H4 => ∃ F4 s4, Go K F H σ s F4 H4 σ4 s4 ∧ WnS K W D F H σ s (mWhile m mc b s4), fun σ4 H4 p => ⟨m, Nat.lt_succ_self m, p⟩, ?_⟩
        refine hb F3 H3 σ2 s3 _ g.rs ?_
        have w5 : WnS K W D F H σ s (match b s3 with
          | .nx s2 => mWhile m mc b s2
          | .ct s2 => mWhile m mc b s2
          | .bk s2 => .nx s2
          | o => o) := w4
        cases eb : b s3 with
        | nx s4 =>
          rw [eb] at w5
          exact fun σ4 F4 H4 g4 => ⟨F4, s4, g.trans g4, w5⟩
        | ct s4 =>
          rw [eb] at w5
          exact fun σ4 F4 H4 g4 => ⟨F4, s4, g.trans g4, w5⟩
        | bk s4 =>
          rw [eb] at w5
          exact fun σ4 F4 H4 g4 => w5 σ4 F4 H4 (g.trans g4)
        | rt r s4 =>
          rw [eb] at w5
          exact fun v σ4 F4 H4 g4 h4 => w5 v σ4 F4 H4 (g.trans g4) (h4.back g)
        | ex c l s4 =>
          rw [eb] at w5
          exact fun dd σ4 F4 H4 xs g4 => w5 dd σ4 F4 H4 xs (g.trans g4)
        | no =>
          rw [eb] at w5
          exact w5
end Cz

/-! # CzG -/
namespace Cz
open L2 PyProof.Rows PySem.Spec PySem
variable {K : PySem.W.Frag}

/-! ## a def by its body -/
def endS : List SV → SS → Option (List SV)
  | [], _ => some []
  | .fz d :: as, _ :: s => (endS as s).map (.fz d :: ·)
  | .br _ :: as, some (.br o) :: s => (endS as s).map (.br o :: ·)
  | _, _ => none
theorem endS_get : ∀ {as : List SV} {s : SS} {as' : List SV}, endS as s = some as' → as'.length = as.length ∧
    ∀ (j : Nat) (a : SV), as[j]? = some a → (∃ d, a = .fz d ∧ as'[j]? = some (.fz d)) ∨ ∃ o o', a = .br o ∧ s[j]? = some (some (.br o')) ∧ as'[j]? = some (.br o')
  | [], s, as', e => by
    cases e
    exact ⟨rfl, fun j a h => by simp at h⟩
  | .fz d :: as, [], as', e => by cases e
  | .fz d :: as, x :: s, as', e => by
    simp only [endS, Option.map_eq_some_iff] at e
    obtain ⟨l, e1, rfl⟩ := e
    obtain ⟨h1, h2⟩ := endS_get e1
    refine ⟨by simp [h1], fun j a h => ?_⟩
    cases j with
    | zero =>
      simp at h
      subst h
      exact .inl ⟨d, rfl, rfl⟩
    | succ j => exact h2 j a (by simpa using h)
  | .br o :: as, [], as', e => by cases e
  | .br o :: as, none :: s, as', e => by cases e
  | .br o :: as, some (.fz d) :: s, as', e => by cases e
  | .br o :: as, some (.ow d) :: s, as', e => by cases e
  | .br o :: as, some (.br u) :: s, as', e => by
    simp only [endS, Option.map_eq_some_iff] at e
    obtain ⟨l, e1, rfl⟩ := e
    obtain ⟨h1, h2⟩ := endS_get e1
    refine ⟨by simp [h1], fun j a h => ?_⟩
    cases j with
    | zero =>
      simp at h
      subst h
      exact .inr ⟨o, u, rfl, rfl, rfl⟩
    | succ j => exact h2 j a (by simpa using h)
  | .ow o :: as, s, as', e => by
    cases s <;> cases e
def runF (np n : Nat) (mb : MS) : MF := fun as => if as.length = np then match mb (as.map some ++ List.replicate (n - np) none) with
    | .rt r s => opt (endS as s) fun as' => .ok r (as'.map some)
    | .nx s => opt (endS as s) fun as' => .ok (.d .non) (as'.map some)
    | .ex c l s => opt (endS as s) fun as' => .ex c l (as'.map some)
    | _ => .no
  else .no
theorem pad_get {α : Type} {l : List α} {n i : Nat} {x : α} (h : (l.map some ++ List.replicate n none)[i]? = some (some x)) : l[i]? = some x := by
  by_cases hi : i < l.length
  · rw [List.getElem?_append_left (by simpa using hi), List.getElem?_map] at h
    cases e : l[i]? with
    | none => (rw [e] at h; cases h)
    | some y => rw [e] at h; cases h; rfl
  · rw [List.getElem?_append_right (by simpa using hi), List.getElem?_replicate] at h
    split at h <;> cases h
theorem pad_of {α : Type} {l : List α} {n i : Nat} {x : α} (h : l[i]? = some x) : (l.map some ++ List.replicate n none)[i]? = some (some x) := by
  have hi := lt_of_get h
  rw [List.getElem?_append_left (by simpa using hi), List.getElem?_map, h]
  rfl
theorem mapS_get {α : Type} {l : List α} {i : Nat} {x : α} (h : (l.map some)[i]? = some (some x)) : l[i]? = some x := by
  obtain ⟨a, e1, e2⟩ := map_get h
  cases e2
  exact e1
theorem mapS_of {α : Type} {l : List α} {i : Nat} {x : α} (h : l[i]? = some x) : (l.map some)[i]? = some (some x) := by
  rw [List.getElem?_map, h]
  rfl
section
variable {F H F' H' : Hp} {vs : List V} {as as' : List SV} {σ : L2.St} {s : SS} {n m : Nat}
theorem RS.pad (r : RS K F H (vs.map some) (as.map some)) (hn : n - vs.length = n - as.length) : RS K F H (vs.map some ++ List.replicate (n - vs.length) none) (as.map some ++ List.replicate (n - as.length) none) := by
  have hl : vs.length = as.length := by simpa using r.len
  refine ⟨r.sub, by simp [hl], fun i d h => ?_, fun i sv o h1 h2 => ?_, fun i j si sj oi oj p h1 h2 h3 h4 h5 h6 => ?_⟩
  · obtain ⟨v, e1, e2⟩ := r.fz i d (mapS_of (pad_get h))
    exact ⟨v, pad_of (mapS_get e1), e2⟩
  · obtain ⟨p, ho, e1, e2⟩ := r.ow i sv o (mapS_of (pad_get h1)) h2
    exact ⟨p, ho, pad_of (mapS_get e1), e2⟩
  · exact r.ne i j si sj oi oj p (mapS_of (pad_get h1)) h2 (mapS_of (pad_get h3)) h4 (mapS_of (pad_get h5)) (mapS_of (pad_get h6))
theorem Go.body (r : RS K F H (vs.map some) (as.map some)) (g : Go K F H (vs.map some ++ List.replicate n none) (as.map some ++ List.replicate m none) F' H' σ s) (e : endS as s = some as') :
    Go K F H (vs.map some) (as.map some) F' H' (vs.map some) (as'.map some) := by
  obtain ⟨hl, hg⟩ := endS_get e
  have hv : vs.length = as.length := by simpa using r.len
  have back : ∀ (j : Nat) (a : SV), as'[j]? = some a → ∃ b, as[j]? = some b ∧ ((∃ d, a = .fz d ∧ b = .fz d) ∨ ∃ o o', b = .br o ∧ a = .br o' ∧ s[j]? = some (some (.br o')) ∧ σ[j]? = (vs.map some)[j]?) := fun j a h => by
    have hj : j < as.length := by rw [← hl]; exact lt_of_get h
    have hb : as[j]? = some as[j] := List.getElem?_eq_getElem hj
    refine ⟨as[j], hb, ?_⟩
    rcases hg j _ hb with ⟨d, e1, e2⟩ | ⟨o, o', e1, e2, e3⟩
    · rw [h] at e2
      cases e2
      exact .inl ⟨d, rfl, e1⟩
    · rw [h] at e3
      cases e3
      obtain ⟨q, _⟩ := g.br j o (pad_of (by rw [hb, e1]))
      refine .inr ⟨o, o', e1, rfl, e2, ?_⟩
      rw [q, List.getElem?_append_left (by rw [List.length_map]; omega)]
  have ow : ∀ a, Ow (vs.map some) (as'.map some) a → Ow (vs.map some) (as.map some) a := fun a ⟨j, sv, o, h1, h2, h3⟩ => by
    obtain ⟨b, e1, e2⟩ := back j sv (mapS_get h1)
    rcases e2 with ⟨d, e2, _⟩ | ⟨o1, o2, e2, e3, _⟩
    · subst e2
      cases h2
    · exact ⟨j, _, o1, mapS_of e1, by rw [e2]; rfl, h3⟩
  have up : ∀ a, Ow (vs.map some ++ List.replicate n none) (as.map some ++ List.replicate m none) a → Ow (vs.map some) (as.map some) a := fun a ⟨j, sv, o, h1, h2, h3⟩ => ⟨j, sv, o, mapS_of (pad_get h1), h2, mapS_of (pad_get h3)⟩
  refine ⟨⟨g.rs.sub, by simp [hv, hl], fun j d h => ?_, fun j sv o h1 h2 => ?_, fun j k sj sk oj ok' p h1 h2 h3 h4 h5 h6 => ?_⟩, g.fr, fun a o h nn => g.kp a o h fun w => nn (up a w), fun a h => ?_, fun a w => .inl (ow a w), fun j o h => ?_, g.dm⟩
  · obtain ⟨b, e1, e2⟩ := back j _ (mapS_get h)
    rcases e2 with ⟨d', e2, e3⟩ | ⟨o1, o2, _, e3, _⟩
    · cases e2
      subst e3
      obtain ⟨v, b1, b2⟩ := r.fz j d (mapS_of e1)
      exact ⟨v, b1, b2.mono g.fr⟩
    · cases e3
  · obtain ⟨b, e1, e2⟩ := back j _ (mapS_get h1)
    rcases e2 with ⟨d, e2, _⟩ | ⟨o1, o2, _, e3, e4, e5⟩
    · subst e2
      cases h2
    · subst e3
      cases h2
      rw [← e5]
      exact g.rs.ow j _ o e4 rfl
  · obtain ⟨b, e1, e2⟩ := back j _ (mapS_get h1)
    obtain ⟨c, f1, f2⟩ := back k _ (mapS_get h3)
    rcases e2 with ⟨d, e2, _⟩ | ⟨o1, o2, _, e3, e4, e5⟩
    · subst e2
      cases h2
    · rcases f2 with ⟨d, f2, _⟩ | ⟨o3, o4, _, f3, f4, f5⟩
      · subst f2
        cases h4
      · rw [← e5] at h5
        rw [← f5] at h6
        exact g.rs.ne j k _ _ o2 o4 p e4 rfl f4 rfl h5 h6
  · rcases g.nw a h with q | q | q | q
    · exact .inl q
    · exact .inr (.inl q)
    · exact .inr (.inr (.inl (up a q)))
    · exact .inr (.inr (.inr q))
  · obtain ⟨d, e1, _⟩ | ⟨o1, o2, e1, e2, e3⟩ := hg j _ (mapS_get h)
    · cases e1
    · exact ⟨rfl, o2, mapS_of e3⟩
theorem RpRt.leave (r : RS K F H (vs.map some) (as.map some)) (g : Go K F H (vs.map some ++ List.replicate n none) (as.map some ++ List.replicate m none) F' H' σ s) (e : endS as s = some as') {rv : Rv} {v : V}
    (h : RpRt K H (vs.map some ++ List.replicate n none) (as.map some ++ List.replicate m none) F' H' σ s rv v) : RpR K H F' H' (vs.map some) (as'.map some) rv v ∧ ∀ i, rv ≠ .b i := by
  obtain ⟨hl, hg⟩ := endS_get e
  have hv : vs.length = as.length := by simpa using r.len
  cases rv with
  | d d => exact ⟨h, fun i z => by cases z⟩
  | b i => exact h.elim
  | o o =>
    refine ⟨?_, fun i z => by cases z⟩
    obtain ⟨p, ho, rfl, e1, e2, e3, e4, e5⟩ := h
    refine ⟨p, ho, rfl, e1, e2, e3, ?_, fun w => ?_⟩
    · rcases e4 with e4 | ⟨i, o', h1, h2⟩
      · exact e4
      · have h1' := pad_get h1
        rcases hg i _ h1' with ⟨d, z, _⟩ | ⟨_, _, z, _⟩ <;> cases z
    · obtain ⟨j, sv, u, h1, h2, h3⟩ := w
      have hj : j < as.length := by
        rw [← hl]
        exact lt_of_get (mapS_get h1)
      have hb : as[j]? = some as[j] := List.getElem?_eq_getElem hj
      rcases hg j _ hb with ⟨d, q1, q2⟩ | ⟨o1, o2, q1, q2, q3⟩
      · rw [mapS_get h1] at q2
        cases q2
        cases h2
      · obtain ⟨q, _⟩ := g.br j o1 (pad_of (by rw [hb, q1]))
        refine e5 j o2 q2 ?_
        rw [q, List.getElem?_append_left (by rw [List.length_map]; omega)]
        exact h3
end
theorem body_ok {W : WX} {ts : TS} {mb : MS} (he : EvS K W ts mb) {N : List Str} {np : Nat} {F H : Hp} {vs : List V} {as : List SV} {Q : VK} {E : XK} (rs : RS K F H (vs.map some) (as.map some)) (w : WnF K Q E F H vs as (runF np N.length mb as))
    (hW : ∀ c d σ H', E c d H' → W c d σ H') : ts { nx := fun _ H' => Q .non H', rt := Q } (L2.start N vs) H := by
  unfold runF at w
  split at w
  · rename_i hl
    subst hl
    have hv : vs.length = as.length := by simpa using rs.len
    have r1 := rs.pad (n := N.length) (by rw [hv])
    have r2 : RS K F H (L2.start N vs) (as.map some ++ List.replicate (N.length - as.length) none) := r1
    refine he F H _ _ _ r2 ?_
    cases e : mb (as.map some ++ List.replicate (N.length - as.length) none) with
    | nx s =>
      rw [e] at w
      dsimp only at w
      intro σ' F' H' g
      cases e2 : endS as s with
      | none => rw [e2] at w; exact w.elim
      | some as' =>
        rw [e2] at w
        obtain ⟨as2, _, w2⟩ := w
        exact w2 .non F' H' (Go.body rs g e2) .non (fun i z => by cases z)
    | rt r s =>
      rw [e] at w
      dsimp only at w
      intro v σ' F' H' g h
      cases e2 : endS as s with
      | none => rw [e2] at w; exact w.elim
      | some as' =>
        rw [e2] at w
        obtain ⟨as2, _, w2⟩ := w
        obtain ⟨h1, h2⟩ := RpRt.leave rs g e2 h
        exact w2 v F' H' (Go.body rs g e2) h1 h2
    | ex c l s =>
      rw [e] at w
      dsimp only at w
      intro dd σ' F' H' xs g h1 h2
      cases e2 : endS as s with
      | none => rw [e2] at w; exact w.elim
      | some as' =>
        rw [e2] at w
        obtain ⟨as2, _, w2⟩ := w
        exact hW _ _ _ _ (w2 dd F' H' xs (Go.body rs g e2) h1 h2)
    | bk s => rw [e] at w; exact w.elim
    | ct s => rw [e] at w; exact w.elim
    | no => rw [e] at w; exact w.elim
  · exact w.elim
theorem runF_len {np n : Nat} {mb : MS} {as : List SV} {Q : VK} {E : XK} {F H : Hp} {vs : List V} (rs : RS K F H (vs.map some) (as.map some)) (w : WnF K Q E F H vs as (runF np n mb as)) : vs.length = np := by
  unfold runF at w
  split at w
  · rename_i hl
    have hv : vs.length = as.length := by simpa using rs.len
    omega
  · exact w.elim
abbrev runN (np n : Nat) (mb : MS) : MF := fun as => noEx (runF np n mb as)
theorem noEx_wf {F H : Hp} {vs : List V} {as : List SV} {Q : VK} {E : XK} {r : R Rv} (w : WnF K Q E F H vs as (noEx r)) (E' : XK) : WnF K Q E' F H vs as r := by
  cases r with
  | ok a s' => exact w
  | ex c l s' => exact w.elim
  | no => exact w.elim
section
variable {P : Program} {w : World} {mg : Str → Option Value} {base : Heap}
/-- a def that lets nothing out -/
theorem fn_okN {x qual : Str} {st : Stmt} {f : Addr} {fd : FuncData} {N ps : List Str} {k : Nat} {mb : MS} (F : Fun K x qual st f fd) (S : FnScope N ps (defScope st))
    (hb : ∀ (cdv : Value) (A : Around) (outer : List Env) (s : Shared) (H : Hp) (E : XK), Room k (A.deeper (envOfC qual (defScope st) s.heap.objs.size f cdv)) →
      ∃ t, PSs (cxOf CX0 P w K mg base N qual (defScope st) f cdv A outer s H E).nox (defBody st) t ∧ EvS K (fun _ _ _ _ => False) t mb) :
    FnOk P w K mg base CX0 (k + 1) f fd ps (spM K (runN ps.length N.length mb)) := by
  refine F.ok S (fun vs H Q E h => ?_) (fun cdv A outer s H vs Q E hr h => ?_)
  · obtain ⟨F0, as, rs, w1⟩ := h
    exact runF_len rs (noEx_wf w1 (fun _ _ _ => False))
  · obtain ⟨t, h1, h2⟩ := hb cdv A outer s H E hr
    obtain ⟨F0, as, rs, w1⟩ := h
    exact ⟨t, h1, body_ok h2 rs (noEx_wf w1 (fun _ _ _ => False)) fun _ _ _ _ z => z⟩
/-- a def that may raise -/
theorem fn_okX {x qual : Str} {st : Stmt} {f : Addr} {fd : FuncData} {N ps : List Str} {k : Nat} {mb : MS} (F : Fun K x qual st f fd) (S : FnScope N ps (defScope st))
    (hb : ∀ (cdv : Value) (A : Around) (outer : List Env) (s : Shared) (H : Hp) (E : XK), Room k (A.deeper (envOfC qual (defScope st) s.heap.objs.size f cdv)) →
      ∃ t, PSs (cxOf (L2.CX P w) P w K mg base N qual (defScope st) f cdv A outer s H E) (defBody st) t ∧ EvS K (fun c d _ H' => E c d H') t mb) :
    FnOk P w K mg base (L2.CX P w) (k + 1) f fd ps (spM K (runF ps.length N.length mb)) := by
  refine F.okX S (fun vs H Q E h => ?_) (fun cdv A outer s H vs Q E hr h => ?_)
  · obtain ⟨F0, as, rs, w1⟩ := h
    exact runF_len rs w1
  · obtain ⟨t, h1, h2⟩ := hb cdv A outer s H E hr
    obtain ⟨F0, as, rs, w1⟩ := h
    exact ⟨t, h1, body_ok h2 rs w1 fun _ _ _ _ z => z⟩
end
end Cz

/-! # CzH -/
namespace Cz
open L2 PyProof.Rows PySem.Spec PySem
variable {K : PySem.W.Frag}

/-! ## what a loop goes over -/
theorem EvX.stepI {W : WX} {te : TE} {m : M Rv} (h : EvX K W te m) {F H : Hp} {σ : L2.St} {s : SS} {Q : It → Hp → Prop} {Q1 : VK} {f : Rv → SS → R (List D)} (rs : RS K F H σ s) (w : WnI K W Q F H σ s ((m s).bind f))
    (k : ∀ r s1 v F1 H1, Go K F H σ s F1 H1 σ s1 → RpR K H F1 H1 σ s1 r v → WnI K W Q F H σ s (f r s1) → Q1 v H1) : te σ H Q1 := by
  refine h F H σ s Q1 rs ?_
  cases e : m s with
  | ok r s1 =>
    rw [e] at w
    exact fun v F1 H1 g1 r1 => k r s1 v F1 H1 g1 r1 w
  | ex c l s1 =>
    rw [e] at w
    exact fun dd F1 H1 xs g1 => w dd F1 H1 xs g1
  | no =>
    rw [e] at w
    exact w
theorem EvA.stepI {W : WX} {ta : TA} {m : M (List Rv)} (h : EvA K W ta m) {F H : Hp} {σ : L2.St} {s : SS} {Q : It → Hp → Prop} {Q1 : List V → Hp → Prop} {f : List Rv → SS → R (List D)} (rs : RS K F H σ s) (w : WnI K W Q F H σ s ((m s).bind f))
    (k : ∀ r s1 v F1 H1, Go K F H σ s F1 H1 σ s1 → RpA K F1 σ s1 r v → WnI K W Q F H σ s (f r s1) → Q1 v H1) : ta σ H Q1 := by
  refine h F H σ s Q1 rs ?_
  cases e : m s with
  | ok r s1 =>
    rw [e] at w
    exact fun v F1 H1 g1 r1 => k r s1 v F1 H1 g1 r1 w
  | ex c l s1 =>
    rw [e] at w
    exact fun dd F1 H1 xs g1 => w dd F1 H1 xs g1
  | no =>
    rw [e] at w
    exact w
theorem opt_wnI {α : Type} {F H : Hp} {σ : L2.St} {s : SS} {W : WX} {Q : It → Hp → Prop} {o : Option α} {f : α → R (List D)} (w : WnI K W Q F H σ s (opt o f)) : ∃ a, o = some a ∧ WnI K W Q F H σ s (f a) := by
  cases o with
  | none => exact w.elim
  | some a => exact ⟨a, rfl, w⟩
theorem frz_wnI {W : WX} {Q : It → Hp → Prop} {F0 H0 : Hp} {σ : L2.St} {s0 s : SS} {r : Rv} {f : D → SS → R (List D)} (w : WnI K W Q F0 H0 σ s0 ((frz r s).bind f)) : ∃ d s', frz r s = .ok d s' ∧ WnI K W Q F0 H0 σ s0 (f d s') := by
  cases e : frz r s with
  | ok d s' => rw [e] at w; exact ⟨d, s', rfl, w⟩
  | ex c l s' => exact absurd e frz_ex
  | no => rw [e] at w; exact w.elim
/-- the items of a list, a tuple, a text -/
def itemsD : D → Option (List D)
  | .lst l => some l
  | .rol l => some l
  | .tup l => some l
  | .tuk l => some l
  | .str z => some (z.cps.toList.map fun c => .str ⟨#[c]⟩)
  | _ => none
def mItems (me : M Rv) : M (List D) := fun s => (me s).bind fun r s1 => (frz r s1).bind fun d s2 => opt (itemsD d) fun l => .ok l s2
def iSeq (K : PySem.W.Frag) (te : TE) : TI := fun σ H Q => te σ H fun x H1 => (∃ a xs, x = .ref a ∧ SqL K H1 a xs ∧ Q (Itl K a) H1) ∨ (∃ a xs, x = .ref a ∧ SqT K H1 a xs ∧ Q (Itt K a) H1) ∨ ∃ z, x = .str z ∧ Q (Its z) H1
theorem pi_seq {X : Cx} {tg l : Expr} {te : TE} (h : PE X l te) : PI X tg l (iSeq X.K te) := by
  refine ⟨fun pins s σ H Q I w => thn (h.run pins s σ H _ I w) ?_⟩
  rintro v s1 ⟨y, H1, I1, ry, ⟨a, xs, rfl, hq, q⟩ | ⟨a, xs, rfl, hq, q⟩ | ⟨z, rfl, q⟩⟩
  · cases ry
    obtain ⟨us, ru, pl, _⟩ := I1.list hq
    exact wpAny_pyIter_list pl.isList (pi_one (tk := s1.toks) I1 _ (turn_list a _) ⟨_, Heap.get?_push_size _ rfl, rfl, rfl⟩ q)
  · cases ry
    obtain ⟨us, ru, pl, _⟩ := I1.tuple hq
    exact wpAny_pyIter_tuple pl (pi_one (tk := s1.toks) I1 _ (turn_tuple a _) ⟨_, Heap.get?_push_size _ rfl, rfl, rfl⟩ q)
  · obtain ⟨t, rfl⟩ := ry
    cases e : z.cps.all (· < 128) with
    | false => exact wpAny_pyIter_wide e (pi_one (tk := s1.toks) I1 _ (turn_str _ z t _ (.inr rfl)) ⟨_, Heap.get?_push_size _ rfl, rfl, rfl⟩ q)
    | true => exact wpAny_pyIter_ascii e (pi_one (tk := s1.toks) I1 _ (turn_str _ z t _ (.inl rfl)) ⟨_, Heap.get?_push_size _ rfl, rfl, rfl⟩ q)
theorem seq_items {F1 : Hp} {l : List D} {xs : List V} (hl : RpL K F1 l xs) : ∀ (i : Nat) (Hc : Hp) (x : V) (Hx F2 : Hp) (σ2 : L2.St) (s2 : SS), i < l.length → YAt xs i Hc x Hx → RS K F2 Hc σ2 s2 → Sub F1 F2 → ∃ F3 d, Al F2 Hc F3 Hx ∧ l[i]? = some d ∧ Rp K F3 d x := by
  intro i Hc x Hx F2 σ2 s2 _ y rs sb
  obtain ⟨rfl, hx⟩ := y
  obtain ⟨d, e1, e2⟩ := hl.get' hx
  exact ⟨F2, d, Al.refl rs.sub, e1, e2.mono sb⟩
theorem seq_wn {W : WX} {Q : It → Hp → Prop} {F H : Hp} {σ : L2.St} {s s2 : SS} {F2 H2 : Hp} {d : D} {v : V} {l : List D} (g : Go K F H σ s F2 H2 σ s2) (h : Rp K F2 d v) (e : itemsD d = some l) (w : WnI K W Q F H σ s (.ok l s2)) :
    (∃ a xs, v = .ref a ∧ SqL K H2 a xs ∧ Q (Itl K a) H2) ∨ (∃ a xs, v = .ref a ∧ SqT K H2 a xs ∧ Q (Itt K a) H2) ∨ ∃ z, v = .str z ∧ Q (Its z) H2 := by
  cases h with
  | lst h r =>
    rename_i a xs ds
    cases e
    refine .inl ⟨a, xs, rfl, SqL.of (g.rs.sub _ _ h), w _ F2 H2 (fun H => SqL K H a xs) (YAt xs) g (by rw [r.length]; exact walk_list) (fun F3 H3 σ3 s3 r3 sb => SqL.of (r3.sub _ _ (sb _ _ h))) (seq_items r)⟩
  | rol h r =>
    rename_i a xs ds
    cases e
    refine .inl ⟨a, xs, rfl, g.rs.sub.l h, w _ F2 H2 (fun H => SqL K H a xs) (YAt xs) g (by rw [r.length]; exact walk_list) (fun F3 H3 σ3 s3 r3 sb => r3.sub.l (sb.l h)) (seq_items r)⟩
  | tup h0 r =>
    rename_i a xs ds
    have h := SqT.of (K := K) h0
    cases e
    refine .inr (.inl ⟨a, xs, rfl, g.rs.sub.t h, w _ F2 H2 (fun H => SqT K H a xs) (YAt xs) g (by rw [r.length]; exact walk_tup) (fun F3 H3 σ3 s3 r3 sb => r3.sub.t (sb.t h)) (seq_items r)⟩)
  | tuk h r =>
    rename_i a xs ds
    cases e
    refine .inr (.inl ⟨a, xs, rfl, g.rs.sub.t h, w _ F2 H2 (fun H => SqT K H a xs) (YAt xs) g (by rw [r.length]; exact walk_tup) (fun F3 H3 σ3 s3 r3 sb => r3.sub.t (sb.t h)) (seq_items r)⟩)
  | str z =>
    cases e
    refine .inr (.inr ⟨z, rfl, w _ F2 H2 (fun _ => True) _ g (by rw [List.length_map]; simpa using walk_str (z := z)) (fun _ _ _ _ _ _ => trivial) ?_⟩)
    rintro i Hc x Hx F3 σ3 s3 hi ⟨rfl, c, hc, rfl⟩ rs sb
    refine ⟨F3, .str ⟨#[c]⟩, Al.refl rs.sub, ?_, .str _⟩
    rw [List.getElem?_map, Array.getElem?_toList, hc]
    rfl
  | non => cases e
  | bl b => cases e
  | int i => cases e
  | ref a => cases e
  | ty t => cases e
  | dk h r => cases e
  | dt h r => cases e
  | obj h r => cases e
theorem ei_seq {W : WX} {te : TE} {me : M Rv} (h : EvX K W te me) : EvI K W (iSeq K te) (mItems me) := by
  intro F H σ s Q rs w
  refine h.stepI rs w fun r s1 v F1 H1 g1 h1 w1 => ?_
  obtain ⟨d, s2, ed, w2⟩ := frz_wnI w1
  obtain ⟨F2, g2, _, hd⟩ := frz_ok g1 h1 ed
  obtain ⟨l, el, w3⟩ := opt_wnI w2
  exact seq_wn g2 hd el w3
/-- range(n), range(a, b) -/
def rng1D : List D → Option (List D)
  | [.int n] => if -(2 ^ 62) ≤ n ∧ n < 2 ^ 62 then some ((List.range n.toNat).map fun i => .int (0 + (i : Nat))) else none
  | _ => none
def rng2D : List D → Option (List D)
  | [.int a, .int b] => if -(2 ^ 62) ≤ a ∧ a < 2 ^ 62 ∧ -(2 ^ 62) ≤ b ∧ b < 2 ^ 62 then some ((List.range (b - a).toNat).map fun i => .int (a + (i : Nat))) else none
  | _ => none
def mRng (f : List D → Option (List D)) (ma : M (List Rv)) : M (List D) := fun s => (ma s).bind fun rs s1 => opt ((allD rs).bind f) fun l => .ok l s1
theorem range_items {lo : Int} {n : Nat} {F1 : Hp} : ∀ (i : Nat) (Hc : Hp) (x : V) (Hx F2 : Hp) (σ2 : L2.St) (s2 : SS), i < ((List.range n).map fun i => D.int (lo + (i : Nat))).length → YFn (fun i => .int (lo + (i : Nat))) i Hc x Hx → RS K F2 Hc σ2 s2 → Sub F1 F2 →
    ∃ F3 d, Al F2 Hc F3 Hx ∧ ((List.range n).map fun i => D.int (lo + (i : Nat)))[i]? = some d ∧ Rp K F3 d x := by
  intro i Hc x Hx F2 σ2 s2 hi y rs sb
  obtain ⟨rfl, rfl⟩ := y
  refine ⟨F2, _, Al.refl rs.sub, ?_, .int _⟩
  have hi' : i < n := by simpa using hi
  rw [List.getElem?_map, List.getElem?_range hi']
  rfl
theorem ei_range1 {W : WX} {ta : TA} {ma : M (List Rv)} (h : EvA K W ta ma) : EvI K W (iRng1 ta) (mRng rng1D ma) := by
  intro F H σ s Q rs w
  refine h.stepI rs w fun rvs s1 vs F1 H1 g1 h1 w1 => ?_
  obtain ⟨l, el, w2⟩ := opt_wnI w1
  rw [Option.bind_eq_some_iff] at el
  obtain ⟨ds, e1, e2⟩ := el
  have hl := allD_ok h1 e1
  unfold rng1D at e2
  split at e2
  · rename_i n
    split at e2
    · rename_i hb
      cases e2
      cases hl with
      | cons a r =>
        cases a
        cases r
        exact ⟨n, rfl, hb.1, hb.2, w2 _ F1 H1 (fun _ => True) (YFn fun i => .int (0 + (i : Nat))) g1 (by rw [List.length_map, List.length_range]; exact walk_range) (fun _ _ _ _ _ _ => trivial) range_items⟩
    · cases e2
  · cases e2
theorem ei_range2 {W : WX} {ta : TA} {ma : M (List Rv)} (h : EvA K W ta ma) : EvI K W (iRng2 ta) (mRng rng2D ma) := by
  intro F H σ s Q rs w
  refine h.stepI rs w fun rvs s1 vs F1 H1 g1 h1 w1 => ?_
  obtain ⟨l, el, w2⟩ := opt_wnI w1
  rw [Option.bind_eq_some_iff] at el
  obtain ⟨ds, e1, e2⟩ := el
  have hl := allD_ok h1 e1
  unfold rng2D at e2
  split at e2
  · rename_i a b
    split at e2
    · rename_i hb
      cases e2
      cases hl with
      | cons x r =>
        cases x
        cases r with
        | cons y r =>
          cases y
          cases r
          exact ⟨a, b, rfl, hb, w2 _ F1 H1 (fun _ => True) (YFn fun i => .int (a + (i : Nat))) g1 (by rw [List.length_map, List.length_range]; exact walk_range) (fun _ _ _ _ _ _ => trivial) range_items⟩
    · cases e2
  · cases e2
/-- enumerate of a list; the pairs are new -/
def pairsD (xs ys : List D) : List D := (xs.zip ys).map fun p => .tup [p.1, p.2]
theorem pair_items {F1 : Hp} {l m : List D} {n : Nat} {f g : Nat → Option V} (hn : (pairsD l m).length = n) (hf : ∀ i x, f i = some x → ∃ d, l[i]? = some d ∧ ∀ F2, Sub F1 F2 → Rp K F2 d x) (hg : ∀ i x, g i = some x → ∃ d, m[i]? = some d ∧ ∀ F2, Sub F1 F2 → Rp K F2 d x) :
    ∀ (i : Nat) (Hc : Hp) (x : V) (Hx F2 : Hp) (σ2 : L2.St) (s2 : SS), i < (pairsD l m).length → YPair f g i Hc x Hx → RS K F2 Hc σ2 s2 → Sub F1 F2 → ∃ F3 d, Al F2 Hc F3 Hx ∧ (pairsD l m)[i]? = some d ∧ Rp K F3 d x := by
  intro i Hc x Hx F2 σ2 s2 hi y rs sb
  obtain ⟨T, a, b, rfl, hT, rfl, ha, hb⟩ := y
  obtain ⟨d, d1, d2⟩ := hf i a ha
  obtain ⟨e, e1, e2⟩ := hg i b hb
  have al := Al.new (ho := .tup [a, b]) rs.sub hT
  refine ⟨_, .tup [d, e], al, ?_, .tup upd_same (.cons (d2 _ (sb.trans al.f)) (.cons (e2 _ (sb.trans al.f)) .nil))⟩
  unfold pairsD
  rw [List.getElem?_map, (List.getElem?_zip_eq_some (z := (d, e))).mpr ⟨d1, e1⟩]
  rfl
def nums (n : Nat) : List D := (List.range n).map fun i => .int (i : Nat)
def enumD (ds : List D) : Option (List D) := match ds with
  | [.lst l] => some (pairsD (nums l.length) l)
  | [.rol l] => some (pairsD (nums l.length) l)
  | _ => none
theorem nums_at {n i : Nat} (h : i < n) : (nums n)[i]? = some (.int (i : Nat)) := by
  unfold nums
  rw [List.getElem?_map, List.getElem?_range h]
  rfl
theorem enum_len (l : List D) : (pairsD (nums l.length) l).length = l.length := by simp [pairsD, nums]
theorem ei_enum {W : WX} {ta : TA} {ma : M (List Rv)} (h : EvA K W ta ma) : EvI K W (iEnum K ta) (mRng enumD ma) := by
  intro F H σ s Q rs w
  refine h.stepI rs w fun rvs s1 vs F1 H1 g1 h1 w1 => ?_
  obtain ⟨l, el, w2⟩ := opt_wnI w1
  rw [Option.bind_eq_some_iff] at el
  obtain ⟨ds, e1, e2⟩ := el
  have hl := allD_ok h1 e1
  have fin : ∀ (a : Addr) (xs : List V) (l' : List D), vs = [.ref a] → l = pairsD (nums l'.length) l' → SqL K F1 a xs → RpL K F1 l' xs → ∃ a xs, vs = [.ref a] ∧ SqL K H1 a xs ∧ Q (Ite K a) H1 := fun a xs l' ev e hq hr => by
    subst e
    refine ⟨a, xs, ev, g1.rs.sub.l hq, w2 _ F1 H1 (fun H => SqL K H a xs) _ g1 (by rw [enum_len, hr.length]; exact walk_enum) (fun F3 H3 σ3 s3 r3 sb => r3.sub.l (sb.l hq)) ?_⟩
    refine fun i Hc x Hx F2 σ2 s2 hi y => ?_
    obtain ⟨T, u, v, h1, h2, h3, h4, h5⟩ := y
    have hi' : i < l'.length := by
      rw [enum_len] at hi
      exact hi
    refine pair_items (f := fun i => if i < l'.length then some (V.int (i : Nat)) else none) (g := fun i => xs[i]?) (n := l'.length) (enum_len l') (fun k z hz => ?_) (fun k z hz => ?_) i Hc x Hx F2 σ2 s2 hi ⟨T, u, v, h1, h2, h3, ?_, h5⟩
    · by_cases hk : k < l'.length
      · rw [if_pos hk] at hz
        cases hz
        exact ⟨_, nums_at hk, fun _ _ => .int _⟩
      · rw [if_neg hk] at hz
        cases hz
    · obtain ⟨d, a1, a2⟩ := hr.get' hz
      exact ⟨d, a1, fun F2 sb => a2.mono sb⟩
    · show (if i < l'.length then some (V.int (i : Nat)) else none) = some u
      rw [if_pos hi']
      exact h4
  unfold enumD at e2
  split at e2
  · cases e2
    cases hl with
    | cons x r =>
      cases r
      cases x with
      | lst hq hr => exact fin _ _ _ rfl rfl (SqL.of hq) hr
  · cases e2
    cases hl with
    | cons x r =>
      cases r
      cases x with
      | rol hq hr => exact fin _ _ _ rfl rfl hq hr
  · cases e2

/-! ## comprehensions -/
def wipeS (s : SS) : List Nat → SS
  | [] => s
  | v :: vs => (wipeS s vs).set v none
/-- none of these places holds an object of its own -/
def loose (s : SS) (vs : List Nat) : Bool := vs.all fun i => match s[i]? with
  | some (some (.fz _)) => true
  | some none => true
  | _ => false
/-- the places vs as they were in s0 -/
def restS (s0 s : SS) : List Nat → SS
  | [] => s
  | v :: vs => (restS s0 s vs).set v ((s0[v]?).getD none)
theorem wipeS_len {s : SS} : ∀ {vs : List Nat}, (wipeS s vs).length = s.length
  | [] => rfl
  | v :: vs => by unfold wipeS; rw [List.length_set, wipeS_len]
theorem restS_len {s0 s : SS} : ∀ {vs : List Nat}, (restS s0 s vs).length = s.length
  | [] => rfl
  | v :: vs => by unfold restS; rw [List.length_set, restS_len]
theorem wipeS_out {s : SS} {j : Nat} : ∀ {vs : List Nat}, j ∉ vs → (wipeS s vs)[j]? = s[j]?
  | [], _ => rfl
  | v :: vs, h => by
    unfold wipeS
    have h' : j ≠ v ∧ j ∉ vs := by simpa using h
    rw [get_set_ne (Ne.symm h'.1), wipeS_out h'.2]
theorem wipeS_in {s : SS} {j : Nat} {x : SV} : ∀ {vs : List Nat}, j ∈ vs → (wipeS s vs)[j]? ≠ some (some x)
  | [], h => by cases h
  | v :: vs, h => by
    unfold wipeS
    intro e
    by_cases hv : v = j
    · subst hv
      rw [List.getElem?_set_self (by have := lt_of_get e; rw [List.length_set] at this; exact this)] at e
      cases e
    · rw [get_set_ne hv] at e
      have h' : j ∈ vs := by
        (rcases List.mem_cons.mp h with z | z)
        · exact absurd z.symm hv
        · exact z
      exact wipeS_in h' e
theorem wipe_out {σ : L2.St} {j : Nat} : ∀ {vs : List Nat}, j ∉ vs → (wipe σ vs)[j]? = σ[j]?
  | [], _ => rfl
  | v :: vs, h => by
    unfold wipe
    have h' : j ≠ v ∧ j ∉ vs := by simpa using h
    rw [get_set_ne (Ne.symm h'.1), wipe_out h'.2]
theorem wipe_in {σ : L2.St} {j : Nat} : ∀ {vs : List Nat}, j ∈ vs → j < σ.length → (wipe σ vs)[j]? = some none
  | [], h, _ => by cases h
  | v :: vs, h, hl => by
    unfold wipe
    by_cases hv : v = j
    · subst hv
      rw [List.getElem?_set_self (by rw [wipe_length]; exact hl)]
    · rw [get_set_ne hv]
      have h' : j ∈ vs := by
        (rcases List.mem_cons.mp h with z | z)
        · exact absurd z.symm hv
        · exact z
      exact wipe_in h' hl
theorem wipe_eq {σ σ' : L2.St} {vs tv : List Nat} (hl : σ'.length = σ.length) (ht : ∀ j ∈ tv, j ∈ vs) (h : ∀ j : Nat, j ∉ tv → σ'[j]? = (wipe σ vs)[j]?) : wipe σ' vs = wipe σ vs := by
  (refine List.ext_getElem? fun j => ?_)
  by_cases hj : j ∈ vs
  · by_cases hlt : j < σ.length
    · rw [wipe_in hj (by rw [hl]; exact hlt), wipe_in hj hlt]
    · rw [List.getElem?_eq_none (by rw [wipe_length]; omega), List.getElem?_eq_none (by rw [wipe_length]; omega)]
  · rw [wipe_out hj, h j fun z => hj (ht j z)]
theorem restS_out {s0 s : SS} {j : Nat} : ∀ {vs : List Nat}, j ∉ vs → (restS s0 s vs)[j]? = s[j]?
  | [], _ => rfl
  | v :: vs, h => by
    unfold restS
    have h' : j ≠ v ∧ j ∉ vs := by simpa using h
    rw [get_set_ne (Ne.symm h'.1), restS_out h'.2]
theorem restS_in {s0 s : SS} {j : Nat} (hj : j < s.length) (h0 : j < s0.length) : ∀ {vs : List Nat}, j ∈ vs → (restS s0 s vs)[j]? = s0[j]?
  | [], h => by cases h
  | v :: vs, h => by
    unfold restS
    by_cases hv : v = j
    · subst hv
      rw [List.getElem?_set_self (by rw [restS_len]; exact hj), List.getElem?_eq_getElem h0]
      rfl
    · rw [get_set_ne hv]
      have h' : j ∈ vs := by
        (rcases List.mem_cons.mp h with z | z)
        · exact absurd z.symm hv
        · exact z
      exact restS_in hj h0 h'
theorem loose_at {s : SS} {vs : List Nat} (h : loose s vs = true) {j : Nat} (hj : j ∈ vs) : j < s.length ∧ ∀ sv o, s[j]? = some (some sv) → SV.own sv ≠ some o := by
  have q := List.all_eq_true.mp h j hj
  split at q
  · rename_i d e
    exact ⟨lt_of_get e, fun sv o h1 h2 => by rw [e] at h1; cases h1; cases h2⟩
  · rename_i e
    exact ⟨lt_of_get e, fun sv o h1 h2 => by rw [e] at h1; cases h1⟩
  · cases q
theorem Go.wipe {F0 H0 F H : Hp} {σ0 σ : L2.St} {s0 s : SS} {vs : List Nat} (g : Go K F0 H0 σ0 s0 F H σ s) (hl : loose s vs = true) : Go K F0 H0 σ0 s0 F H (L2.wipe σ vs) (wipeS s vs) := by
  have at' : ∀ (j : Nat) (sv : SV), (wipeS s vs)[j]? = some (some sv) → j ∉ vs ∧ s[j]? = some (some sv) ∧ (L2.wipe σ vs)[j]? = σ[j]? := fun j sv h => by
    have n : j ∉ vs := fun z => wipeS_in z h
    rw [wipeS_out n] at h
    exact ⟨n, h, wipe_out n⟩
  refine ⟨⟨g.rs.sub, by rw [wipeS_len, wipe_length]; exact g.rs.len, fun j d h => ?_, fun j sv o h1 h2 => ?_, fun i j si sj oi oj p h1 h2 h3 h4 h5 h6 => ?_⟩, g.fr, g.kp, g.nw, fun a w => ?_, fun j o h => ?_, g.dm⟩
  · obtain ⟨_, h', e⟩ := at' j _ h
    rw [e]
    exact g.rs.fz j d h'
  · obtain ⟨_, h', e⟩ := at' j _ h1
    rw [e]
    exact g.rs.ow j sv o h' h2
  · obtain ⟨_, a1, e1⟩ := at' i _ h1
    obtain ⟨_, a2, e2⟩ := at' j _ h3
    rw [e1] at h5
    rw [e2] at h6
    exact g.rs.ne i j si sj oi oj p a1 h2 a2 h4 h5 h6
  · obtain ⟨j, sv, o, h1, h2, h3⟩ := w
    obtain ⟨_, a1, e1⟩ := at' j _ h1
    rw [e1] at h3
    exact g.ow a ⟨j, sv, o, a1, h2, h3⟩
  · obtain ⟨e, o', h'⟩ := g.br j o h
    have n : j ∉ vs := fun z => (loose_at hl z).2 _ o' h' rfl
    exact ⟨(wipe_out n).trans e, o', (wipeS_out n).trans h'⟩
/-- back to the names as they stood, what the others hold as it is now -/
theorem Go.rest {F H F' H' : Hp} {σ : L2.St} {s s' : SS} {vs : List Nat} (rs : RS K F H σ s) (hl : loose s vs = true) (g : Go K F H σ s F' H' (L2.wipe σ vs) s') (hn : ∀ j ∈ vs, s'[j]? = some none) : Go K F H σ s F' H' σ (restS s s' vs) := by
  have len : s'.length = s.length := by
    have := g.rs.len
    rw [wipe_length, rs.len] at this
    exact this.symm
  have at' : ∀ (j : Nat) (sv : SV), (restS s s' vs)[j]? = some (some sv) → (j ∈ vs ∧ s[j]? = some (some sv)) ∨ (j ∉ vs ∧ s'[j]? = some (some sv) ∧ (L2.wipe σ vs)[j]? = σ[j]?) := fun j sv h => by
    by_cases hj : j ∈ vs
    · have h0 := (loose_at hl hj).1
      rw [restS_in (by rw [len]; exact h0) h0 hj] at h
      exact .inl ⟨hj, h⟩
    · rw [restS_out hj] at h
      exact .inr ⟨hj, h, wipe_out hj⟩
  have own : ∀ (j : Nat) (sv : SV) (o : OD), (restS s s' vs)[j]? = some (some sv) → SV.own sv = some o → s'[j]? = some (some sv) ∧ (L2.wipe σ vs)[j]? = σ[j]? := fun j sv o h1 h2 => by
    rcases at' j sv h1 with ⟨hj, h⟩ | ⟨_, h, e⟩
    · exact absurd h2 ((loose_at hl hj).2 sv o h)
    · exact ⟨h, e⟩
  refine ⟨⟨g.rs.sub, by rw [restS_len, len]; exact rs.len, fun j d h => ?_, fun j sv o h1 h2 => ?_, fun i j si sj oi oj p h1 h2 h3 h4 h5 h6 => ?_⟩, g.fr, g.kp, g.nw, fun a w => ?_, fun j o h => ?_, g.dm⟩
  · rcases at' j _ h with ⟨hj, h'⟩ | ⟨_, h', e⟩
    · obtain ⟨v, a1, a2⟩ := rs.fz j d h'
      exact ⟨v, a1, a2.mono g.fr⟩
    · rw [← e]
      exact g.rs.fz j d h'
  · obtain ⟨h', e⟩ := own j sv o h1 h2
    rw [← e]
    exact g.rs.ow j sv o h' h2
  · obtain ⟨a1, e1⟩ := own i si oi h1 h2
    obtain ⟨a2, e2⟩ := own j sj oj h3 h4
    rw [← e1] at h5
    rw [← e2] at h6
    exact g.rs.ne i j si sj oi oj p a1 h2 a2 h4 h5 h6
  · obtain ⟨j, sv, o, h1, h2, h3⟩ := w
    obtain ⟨a1, e1⟩ := own j sv o h1 h2
    rw [← e1] at h3
    exact g.ow a ⟨j, sv, o, a1, h2, h3⟩
  · have n : j ∉ vs := fun z => (loose_at hl z).2 _ o h rfl
    obtain ⟨_, o', h'⟩ := g.br j o h
    exact ⟨rfl, o', (restS_out n).trans h'⟩
/-- an object that is new since F0, H0 and nobody's, stands on -/
theorem Go.still {F H F' H' : Hp} {σ σ' : L2.St} {s s' : SS} {p : Addr} {ho : HO} (g : Go K F H σ s F' H' σ' s') (e1 : F p = none) (e2 : H p = some ho) (e3 : ¬ Ow σ s p) (e4 : ¬ Tu H p) : F' p = none ∧ H' p = some ho ∧ ¬ Ow σ' s' p := by
  refine ⟨?_, g.kp p ho e2 e3, fun w => ?_⟩
  · cases e : F' p with
    | none => rfl
    | some u =>
      rcases g.nw p (by rw [e]; exact fun z => nomatch z) with q | q | q | q
      · exact absurd e1 q
      · rw [e2] at q; cases q
      · exact absurd q e3
      · exact absurd q e4
  · rcases g.ow p w with q | q
    · exact e3 q
    · rw [e2] at q; cases q
theorem Go.pend {F0 H0 F H : Hp} {σ0 σ : L2.St} {s0 s : SS} {p : Addr} (ho : HO) (g : Go K F0 H0 σ0 s0 F H σ s) (e0 : H0 p = none) (e1 : F p = none) (e3 : ¬ Ow σ s p) : Go K F0 H0 σ0 s0 F (upd H p ho) σ s := by
  refine ⟨⟨fun a o h => ?_, g.rs.len, g.rs.fz, fun i sv o h1 h2 => ?_, g.rs.ne⟩, g.fr, fun a o h n => ?_, g.nw, g.ow, g.br, fun a h => ?_⟩
  · rw [upd_ne (ne_of_none h e1)]
    exact g.rs.sub _ _ h
  · obtain ⟨q, hq, a1, a2, a3, a4⟩ := g.rs.ow i sv o h1 h2
    have nq : q ≠ p := fun z => e3 ⟨i, sv, o, h1, h2, by rw [← z]; exact a1⟩
    exact ⟨q, hq, a1, a2, by rw [upd_ne nq]; exact a3, a4⟩
  · rw [upd_ne (ne_of_none h e0)]
    exact g.kp a o h n
  · by_cases z : a = p
    · subst z
      exact e0
    · rw [upd_ne z] at h
      exact g.dm a h
end Cz

/-! # CzI -/
namespace Cz
open L2 PyProof.Rows PySem.Spec PySem
variable {K : PySem.W.Frag}
abbrev W0 : WX := fun _ _ _ _ => False
def noX {α : Type} : R α → R α
  | .ok a s => .ok a s
  | _ => .no
def loopC (f : MG) (mt : M Bool) (me : M Rv) (vs : List Nat) : List D → List D → SS → R (List D)
  | [], acc, s => .ok acc s
  | d :: ds, acc, s => opt (f d s) fun s1 => (noX (mt s1)).bind fun b s2 =>
    if b then (noX (me s2)).bind fun r s3 => (frz r s3).bind fun e s4 => if loose s4 vs = true ∧ acc.length < 100000 then loopC f mt me vs ds (acc ++ [e]) (wipeS s4 vs) else .no
    else if loose s2 vs then loopC f mt me vs ds acc (wipeS s2 vs) else .no
def mLc (mi : M (List D)) (f : MG) (mt : M Bool) (me : M Rv) (vs : List Nat) : M Rv := fun s => (mi s).bind fun ds s1 =>
  if loose s1 vs then (loopC f mt me vs ds [] (wipeS s1 vs)).bind fun acc s2 => .ok (.o (.lst acc)) (restS s1 s2 vs) else .no
theorem wipeS_none {s : SS} {j : Nat} : ∀ {vs : List Nat}, j ∈ vs → j < s.length → (wipeS s vs)[j]? = some none
  | [], h, _ => by cases h
  | v :: vs, h, hl => by
    unfold wipeS
    by_cases hv : v = j
    · subst hv
      rw [List.getElem?_set_self (by rw [wipeS_len]; exact hl)]
    · rw [get_set_ne hv]
      have h' : j ∈ vs := by
        (rcases List.mem_cons.mp h with z | z)
        · exact absurd z.symm hv
        · exact z
      exact wipeS_none h' hl
theorem rest_own {σ : L2.St} {s s' : SS} {vs : List Nat} (hl : loose s vs = true) (len : s'.length = s.length) {a : Addr} (h : Ow σ (restS s s' vs) a) : Ow (L2.wipe σ vs) s' a := by
  obtain ⟨j, sv, o, h1, h2, h3⟩ := h
  by_cases hj : j ∈ vs
  · have h0 := (loose_at hl hj).1
    rw [restS_in (by rw [len]; exact h0) h0 hj] at h1
    exact absurd h2 ((loose_at hl hj).2 sv o h1)
  · rw [restS_out hj] at h1
    exact ⟨j, sv, o, h1, h2, by rw [wipe_out hj]; exact h3⟩
def mYes : M Bool := fun s => .ok true s
theorem tYes_ev {W : WX} : EvT K W tYes mYes := fun F H σ s Q rs w => w F H (Go.refl rs)
theorem ev_lcAt {W : WX} {wi : TI} {g : TG} {tt : TT} {te : TE} {vs tv : List Nat} {mi : M (List D)} {f : MG} {mt : M Bool} {me : M Rv} {F H : Hp} {σ : L2.St} {s : SS} {Q : VK} (hi : ∀ Q, WnI K W Q F H σ s (mi s) → wi σ H Q) (hg : EvG K g f tv) (ht : ∀ j ∈ tv, j ∈ vs) (htt : EvT K W0 tt mt) (he : EvX K W0 te me) (w : Wn K W Q F H σ s (mLc mi f mt me vs s)) : tLc wi g tt te vs σ H Q := by
  refine hi _ ?_
  unfold mLc at w
  cases e : mi s with
  | no => rw [e] at w; exact w
  | ex c l s1 =>
    rw [e] at w
    exact fun dd F1 H1 xs g1 => w dd F1 H1 xs g1
  | ok ds s1 =>
    rw [e] at w
    have w1 : Wn K W Q F H σ s (if loose s1 vs then (loopC f mt me vs ds [] (wipeS s1 vs)).bind fun acc s2 => .ok (.o (.lst acc)) (restS s1 s2 vs) else .no) := w
    intro J F1 H1 G Y g1 wk hG hY Dl hD
    by_cases hls : loose s1 vs = true
    · rw [if_pos hls] at w1
      have hF : F1 Dl = none := g1.rs.sub.free hD
      have hO : ¬ Ow σ s1 Dl := fun z => by
        obtain ⟨_, u, q⟩ := g1.rs.owF z
        rw [hD] at q; cases q
      have wow : ∀ (σ2 : L2.St) (s2 : SS) (a : Addr), Ow (L2.wipe σ2 vs) (wipeS s2 vs) a → Ow σ2 s2 a := fun σ2 s2 a ⟨j, sv, o, h1, h2, h3⟩ => by
        have n : j ∉ vs := fun z => wipeS_in z h1
        rw [wipeS_out n] at h1
        rw [wipe_out n] at h3
        exact ⟨j, sv, o, h1, h2, h3⟩
      refine lc_it wk (fun i Hc => ∃ Fc sc acc xs, Go K F1 H1 σ s1 Fc Hc (L2.wipe σ vs) sc ∧ Fc Dl = none ∧ Hc Dl = some (.lst xs) ∧ ¬ Ow (L2.wipe σ vs) sc Dl ∧ RpL K Fc acc xs ∧ (∀ j ∈ vs, sc[j]? = some none) ∧
        Wn K W Q F H σ s ((loopC f mt me vs (ds.drop i) acc sc).bind fun acc s2 => .ok (.o (.lst acc)) (restS s1 s2 vs)))
        ⟨F1, wipeS s1 vs, [], [], ((Go.refl g1.rs).wipe hls).pend _ hD hF (fun z => hO (wow σ s1 Dl z)), hF, upd_same, fun z => hO (wow σ s1 Dl z), .nil, fun j hj => wipeS_none hj (loose_at hls hj).1, w1⟩ ?_ ?_ ?_
      · rintro i Hc _ ⟨Fc, sc, acc, xs, gc, _⟩
        exact hG Fc Hc _ sc gc.rs gc.fr
      · rintro i x Hc Hx hi' ⟨Fc, sc, acc, xs, gc, c1, c2, c3, c4, c5, c6⟩ y
        obtain ⟨F3, d, al, ed, rd⟩ := hY i Hc x Hx Fc _ sc hi' y gc.rs gc.fr
        have hd : ds.drop i = d :: ds.drop (i + 1) := by
          obtain ⟨hlt, hx⟩ := List.getElem?_eq_some_iff.mp ed
          rw [List.drop_eq_getElem_cons hlt, hx]
        rw [hd] at c6
        have c7 : Wn K W Q F H σ s ((opt (f d sc) fun s1 => (noX (mt s1)).bind fun b s2 =>
          if b then (noX (me s2)).bind fun r s3 => (frz r s3).bind fun e s4 => if loose s4 vs = true ∧ acc.length < 100000 then loopC f mt me vs (ds.drop (i + 1)) (acc ++ [e]) (wipeS s4 vs) else .no
          else if loose s2 vs then loopC f mt me vs (ds.drop (i + 1)) acc (wipeS s2 vs) else .no).bind fun acc s2 => .ok (.o (.lst acc)) (restS s1 s2 vs)) := c6
        cases ef : f d sc with
        | none => rw [ef] at c7; exact c7.elim
        | some s3 =>
          rw [ef] at c7
          let finC : List D → SS → R Rv := fun acc s2 => .ok (.o (.lst acc)) (restS s1 s2 vs)
          let elC : Rv → SS → R (List D) := fun r s3 => (frz r s3).bind fun e s4 => if loose s4 vs = true ∧ acc.length < 100000 then loopC f mt me vs (ds.drop (i + 1)) (acc ++ [e]) (wipeS s4 vs) else .no
          let tailC : Bool → SS → R (List D) := fun b s2 => if b then (noX (me s2)).bind elC else if loose s2 vs then loopC f mt me vs (ds.drop (i + 1)) acc (wipeS s2 vs) else .no
          have c7 : Wn K W Q F H σ s (((noX (mt s3)).bind tailC).bind finC) := c7
          refine hg Fc Hc _ sc F3 Hx _ sc x d s3 _ ((Go.refl gc.rs).al al) rd ef fun σ2 g3 k3 l3 => ?_
          have hw : L2.wipe σ2 vs = L2.wipe σ vs := wipe_eq (by rw [l3, wipe_length]) ht k3
          refine ⟨hw, htt F3 Hx σ2 s3 _ g3.rs ?_⟩
          cases et : mt s3 with
          | no => rw [et] at c7; exact c7.elim
          | ex c l s4 => rw [et] at c7; exact c7.elim
          | ok b s4 =>
            rw [et] at c7
            intro F4 H4 g4
            cases b with
            | false =>
              have c8 : Wn K W Q F H σ s ((if loose s4 vs then loopC f mt me vs (ds.drop (i + 1)) acc (wipeS s4 vs) else .no).bind fun acc s2 => .ok (.o (.lst acc)) (restS s1 s2 vs)) := c7
              show ∃ Fc sc acc xs, _
              by_cases h4 : loose s4 vs = true
              · rw [if_pos h4] at c8
                have gt : Go K Fc Hc (L2.wipe σ vs) sc F4 H4 (L2.wipe σ vs) (wipeS s4 vs) := by
                  have z := (g3.trans g4).wipe h4
                  rw [hw] at z
                  exact z
                obtain ⟨b1, b2, b3⟩ := gt.still c1 c2 c3 (fun ⟨_, z⟩ => by rw [c2] at z; cases z)
                exact ⟨F4, wipeS s4 vs, acc, xs, gc.trans gt, b1, b2, b3, c4.mono gt.fr, fun j hj => wipeS_none hj (loose_at h4 hj).1, c8⟩
              · rw [if_neg h4] at c8
                exact c8.elim
            | true =>
              show te σ2 H4 _
              refine he F4 H4 σ2 s4 _ g4.rs ?_
              cases ee : me s4 with
              | no => 
                have c8 : Wn K W Q F H σ s (((noX (me s4)).bind elC).bind finC) := c7
                rw [ee] at c8
                exact c8.elim
              | ex c l s5 =>
                have c8 : Wn K W Q F H σ s (((noX (me s4)).bind elC).bind finC) := c7
                rw [ee] at c8
                exact c8.elim
              | ok r s5 =>
                have c8 : Wn K W Q F H σ s (((noX (me s4)).bind elC).bind finC) := c7
                rw [ee] at c8
                intro v F5 H5 g5 r5
                cases ez : frz r s5 with
                | no =>
                  have c8 : Wn K W Q F H σ s (((frz r s5).bind fun e s4 => if loose s4 vs = true ∧ acc.length < 100000 then loopC f mt me vs (ds.drop (i + 1)) (acc ++ [e]) (wipeS s4 vs) else .no).bind finC) := c8
                  rw [ez] at c8
                  exact c8.elim
                | ex c l s6 => exact absurd ez frz_ex
                | ok e' s6 =>
                  have c8 : Wn K W Q F H σ s (((frz r s5).bind fun e s4 => if loose s4 vs = true ∧ acc.length < 100000 then loopC f mt me vs (ds.drop (i + 1)) (acc ++ [e]) (wipeS s4 vs) else .no).bind finC) := c8
                  rw [ez] at c8
                  have c9 : Wn K W Q F H σ s ((if loose s6 vs = true ∧ acc.length < 100000 then loopC f mt me vs (ds.drop (i + 1)) (acc ++ [e']) (wipeS s6 vs) else .no).bind fun acc s2 => .ok (.o (.lst acc)) (restS s1 s2 vs)) := c8
                  obtain ⟨F6, g6, _, hv⟩ := frz_ok g5 r5 ez
                  by_cases h6 : loose s6 vs = true ∧ acc.length < 100000
                  · rw [if_pos h6] at c9
                    have gt : Go K Fc Hc (L2.wipe σ vs) sc F6 H5 (L2.wipe σ vs) (wipeS s6 vs) := by
                      have z := ((g3.trans g4).trans g6).wipe h6.1
                      rw [hw] at z
                      exact z
                    obtain ⟨b1, b2, b3⟩ := gt.still c1 c2 c3 (fun ⟨_, z⟩ => by rw [c2] at z; cases z)
                    have lz : xs.length < sizeLine := by
                      rw [← c4.length]
                      exact Nat.lt_of_lt_of_le h6.2 (by decide)
                    exact ⟨xs, b2, lz, F6, wipeS s6 vs, acc ++ [e'], xs ++ [v], (gc.trans gt).pend _ hD b1 b3, b1, upd_same, b3, (c4.mono gt.fr).append (.cons hv .nil), fun j hj => wipeS_none hj (loose_at h6.1 hj).1, c9⟩
                  · rw [if_neg h6] at c9
                    exact c9.elim
      · rintro Hc ⟨Fc, sc, acc, xs, gc, c1, c2, c3, c4, c5, c6⟩
        rw [List.drop_length] at c6
        have len : sc.length = s1.length := by
          have q := gc.rs.len
          rw [wipe_length, g1.rs.len] at q
          exact q.symm
        exact c6 (.ref Dl) Fc Hc (g1.trans (Go.rest g1.rs hls gc c5)) ⟨Dl, .lst xs, rfl, c1, c2, .lst c4, g1.dm Dl hD, fun z => c3 (rest_own hls len z)⟩
    · rw [if_neg hls] at w1
      exact w1.elim
theorem ev_lc {W : WX} {wi : TI} {g : TG} {tt : TT} {te : TE} {vs tv : List Nat} {mi : M (List D)} {f : MG} {mt : M Bool} {me : M Rv} (hi : EvI K W wi mi) (hg : EvG K g f tv) (ht : ∀ j ∈ tv, j ∈ vs) (htt : EvT K W0 tt mt) (he : EvX K W0 te me) : EvX K W (tLc wi g tt te vs) (mLc mi f mt me vs) :=
  fun F H σ s Q rs w => ev_lcAt (fun Q => hi F H σ s Q rs) hg ht htt he w
end Cz

/-! # CzJ -/
namespace Cz
open L2 PyProof.Rows PySem.Spec PySem
variable {K : PySem.W.Frag}

/-! ## operators -/
theorem opr_or {X : Cx} {f : Value → Value → Sem Value} {r r' : R2} (h : OpR X f r) (h' : OpR X f r') : OpR X f (fun x y H Q => r x y H Q ∨ r' x y H Q) := by
  (intro pins s σ H x y v u Q I rx ry q)
  rcases q with q | q
  · (exact h pins s σ H x y v u Q I rx ry q)
  · (exact h' pins s σ H x y v u Q I rx ry q)
theorem callr_or {X : Cx} {f : Value} {r r' : List V → Hp → VK → Prop} (h : CallR X f r) (h' : CallR X f r') : CallR X f (fun x H Q => r x H Q ∨ r' x H Q) := by
  intro pins s σ H xs us Q I rx q
  rcases q with q | q
  · exact h pins s σ H xs us Q I rx q
  · exact h' pins s σ H xs us Q I rx q
theorem outD {F H : Hp} {Q : VK} {d : D} {z : V} (s : Sub F H) (h : OutOk K F H Q (some (.d d))) (r : Rp K F d z) : Q z H := h z F H (Al.refl s) r
theorem outN {F H : Hp} {Q : VK} {l : List D} {xs : List V} (s : Sub F H) (h : OutOk K F H Q (some (.d (.tup l)))) (r : RpL K F l xs) : ∀ p, H p = none → Q (.ref p) (upd H p (.tup xs)) := fun p hp => by
  have a := Al.new (ho := .tup xs) s hp
  exact h (.ref p) _ _ a (.tup upd_same (r.mono a.f))
theorem outL {F H : Hp} {Q : VK} {l : List D} {xs : List V} (s : Sub F H) (h : OutOk K F H Q (some (.o (.lst l)))) (r : RpL K F l xs) : ∀ p, H p = none → Q (.ref p) (upd H p (.lst xs)) := fun p hp => h F p _ (Al.refl s) hp (.lst r)
def small (n : Nat) : Bool := decide (n ≤ 100000)
theorem small_le {n : Nat} (h : small n = true) : n ≤ sizeLine := size_le (of_decide_eq_true h)
def addD : D → D → Option Rv
  | .int a, .int b => some (.d (.int (a + b)))
  | .str a, .str b => if small (a.length + b.length) then some (.d (.str (a ++ b))) else none
  | .lst a, .lst b => if small (a.length + b.length) then some (.o (.lst (a ++ b))) else none
  | x, y => (tupL x).bind fun a => (tupL y).bind fun b => if small (a.length + b.length) then some (.d (if a.isEmpty then y else if b.isEmpty then x else .tup (a ++ b))) else none
def rStrCat : R2 := fun x y H Q => ∃ i j, x = .str i ∧ y = .str j ∧ i.length + j.length ≤ sizeLine ∧ Q (.str (i ++ j)) H
def rAddA (K : PySem.W.Frag) : R2 := fun x y H Q => rI0 (fun i j => .int (i + j)) x y H Q ∨ rStrCat x y H Q ∨ rCat x y H Q ∨ rCatA K x y H Q
theorem op_addA {X : Cx} : OpR X (binaryOp .Add) (rAddA X.K) := opr_or op_add (opr_or op_add_str (opr_or op_cat op_catA))
theorem RpP.sqt {F H : Hp} {d : D} {v : V} {l : List D} (s : Sub F H) (h : RpP K F H d v) (e : tupL d = some l) : ∃ a xs, v = .ref a ∧ SqT K H a xs ∧ RpL K F l xs := by
  cases d with
  | tup m =>
    obtain ⟨a, xs, h1, h2, h3⟩ := Rp.sqt (show Rp K F (.tup m) v from h) e
    exact ⟨a, xs, h1, s.t h2, h3⟩
  | tuk m =>
    obtain ⟨a, xs, h1, h2, h3⟩ := Rp.sqt (show Rp K F (.tuk m) v from h) e
    exact ⟨a, xs, h1, s.t h2, h3⟩
  | _ => cases e
theorem RpP.rp {F H : Hp} {d : D} {v : V} {l : List D} (h : RpP K F H d v) (e : tupL d = some l) : Rp K F d v := by
  cases d with
  | tup m => exact h
  | tuk m => exact h
  | _ => cases e
theorem o2_addT {F H : Hp} {x y : V} {dx dy : D} {Q : VK} (s : Sub F H) (hx : RpP K F H dx x) (hy : RpP K F H dy y)
    (ho : OutOk K F H Q ((tupL dx).bind fun a => (tupL dy).bind fun b => if small (a.length + b.length) then some (.d (if a.isEmpty then dy else if b.isEmpty then dx else .tup (a ++ b))) else none)) : rCatA K x y H Q := by
  cases ea : tupL dx with
  | none => rw [ea] at ho; exact ho.elim
  | some a =>
    cases eb : tupL dy with
    | none => rw [ea, eb] at ho; exact ho.elim
    | some b =>
      rw [ea, eb] at ho
      have ho2 : OutOk K F H Q (if small (a.length + b.length) then some (.d (if a.isEmpty then dy else if b.isEmpty then dx else .tup (a ++ b))) else none) := ho
      obtain ⟨p, xs, rfl, h1, r1⟩ := hx.sqt s ea
      obtain ⟨q, ys, rfl, h2, r2⟩ := hy.sqt s eb
      split at ho2
      · rename_i hz
        refine ⟨p, q, xs, ys, rfl, rfl, h1, h2, ?_, fun e => ?_, fun n e => ?_, fun n m => ?_⟩
        · rw [← r1.length, ← r2.length]
          exact small_le hz
        · subst e
          cases r1
          exact outD s ho2 (hy.rp eb)
        · subst e
          cases r2
          have na : a.isEmpty = false := by
            cases a with
            | nil => cases r1; exact absurd rfl n
            | cons _ _ => rfl
          rw [na] at ho2
          exact outD s ho2 (hx.rp ea)
        · have na : a.isEmpty = false := by
            cases a with
            | nil => cases r1; exact absurd rfl n
            | cons _ _ => rfl
          have nb : b.isEmpty = false := by
            cases b with
            | nil => cases r2; exact absurd rfl m
            | cons _ _ => rfl
          rw [na, nb] at ho2
          exact outN s ho2 (r1.append r2)
      · exact ho2.elim
theorem o2_add : Op2 K (rAddA K) addD := by
  intro F H x y dx dy Q s hx hy ho
  cases dx with
  | int a =>
    cases dy with
    | int b => cases hx; cases hy; exact .inl ⟨a, b, rfl, rfl, outD s ho (.int _)⟩
    | _ => exact ho.elim
  | str a =>
    cases dy with
    | str b =>
      cases hx
      cases hy
      simp only [addD] at ho
      split at ho
      · rename_i hz
        exact .inr (.inl ⟨a, b, rfl, rfl, small_le hz, outD s ho (.str _)⟩)
      · exact ho.elim
    | _ => exact ho.elim
  | lst a =>
    cases dy with
    | lst b =>
      obtain ⟨p, xs, rfl, h1, r1⟩ := hx
      obtain ⟨q, ys, rfl, h2, r2⟩ := hy
      simp only [addD] at ho
      split at ho
      · rename_i hz
        refine .inr (.inr (.inl ⟨p, q, xs, ys, rfl, rfl, h1, h2, ?_, outL s ho (r1.append r2)⟩))
        rw [← r1.length, ← r2.length]
        exact small_le hz
      · exact ho.elim
    | _ => exact ho.elim
  | tup a => exact .inr (.inr (.inr (o2_addT s hx hy ho)))
  | tuk a => exact .inr (.inr (.inr (o2_addT s hx hy ho)))
  | _ => exact ho.elim
/-- two ints to something -/
def intD (c : Int → Int → Bool) (f : Int → Int → D) : D → D → Option Rv
  | .int a, .int b => if c a b then some (.d (f a b)) else none
  | _, _ => none
theorem o2_int {c : Int → Int → Bool} {f : Int → Int → D} {C : Int → Int → Prop} {g : Int → Int → V} (hc : ∀ a b, c a b = true → C a b) (hg : ∀ F a b, Rp K F (f a b) (g a b)) : Op2 K (rI C g) (intD c f) := by
  intro F H x y dx dy Q s hx hy ho
  cases dx with
  | int a =>
    cases dy with
    | int b =>
      cases hx
      cases hy
      simp only [intD] at ho
      split at ho
      · rename_i h
        exact ⟨a, b, rfl, rfl, hc a b h, outD s ho (hg F a b)⟩
      · exact ho.elim
    | _ => exact ho.elim
  | _ => exact ho.elim
def intD0 (f : Int → Int → D) : D → D → Option Rv
  | .int a, .int b => some (.d (f a b))
  | _, _ => none
theorem o2_int0 {f : Int → Int → D} {g : Int → Int → V} (hg : ∀ F a b, Rp K F (f a b) (g a b)) : Op2 K (rI0 g) (intD0 f) := by
  intro F H x y dx dy Q s hx hy ho
  cases dx with
  | int a =>
    cases dy with
    | int b => cases hx; cases hy; exact ⟨a, b, rfl, rfl, outD s ho (hg F a b)⟩
    | _ => exact ho.elim
  | _ => exact ho.elim
abbrev subD : D → D → Option Rv := intD0 fun a b => .int (a - b)
theorem o2_sub : Op2 K (rI0 fun i j => .int (i - j)) subD := o2_int0 fun _ _ _ => .int _
def mulOk (a b : Int) : Bool := decide (-(2 ^ 64) < a ∧ a < 2 ^ 64) || decide (-(2 ^ 64) < b ∧ b < 2 ^ 64)
abbrev mulD : D → D → Option Rv := intD mulOk fun a b => .int (a * b)
theorem o2_mul : Op2 K (rI CMul fun i j => .int (i * j)) mulD := o2_int (fun a b h => by
  unfold mulOk at h
  (rw [Bool.or_eq_true, decide_eq_true_eq, decide_eq_true_eq] at h)
  exact h) fun _ _ _ => .int _
abbrev fdivD : D → D → Option Rv := intD (fun _ b => decide (0 < b ∧ b < 1073741824)) fun a b => .int (a / b)
theorem o2_fdiv : Op2 K (rI CDiv fun i j => .int (i / j)) fdivD := o2_int (fun a b h => (of_decide_eq_true h : 0 < b ∧ b < 1073741824)) fun _ _ _ => .int _
abbrev modD : D → D → Option Rv := intD (fun _ b => decide (0 < b)) fun a b => .int (a % b)
theorem o2_mod : Op2 K (rI (fun _ j => 0 < j) fun i j => .int (i % j)) modD := o2_int (fun a b h => of_decide_eq_true h) fun _ _ _ => .int _
abbrev powD : D → D → Option Rv := intD (fun a b => decide (0 ≤ b ∧ b ≤ 1000000 ∧ a.natAbs < 2 ^ 64)) fun a b => .int (a ^ b.toNat)
theorem o2_pow : Op2 K (rI CPow fun i j => .int (i ^ j.toNat)) powD := o2_int (fun a b h => (of_decide_eq_true h : 0 ≤ b ∧ b ≤ 1000000 ∧ a.natAbs < 2 ^ 64)) fun _ _ _ => .int _
def negD : D → Option Rv
  | .int a => some (.d (.int (-a)))
  | _ => none
theorem o1_neg : Op1 K (rU fun i => .int (-i)) negD := by
  intro F H x dx Q s hx ho
  cases dx with
  | int a => cases hx; exact ⟨a, rfl, outD s ho (.int _)⟩
  | _ => exact ho.elim

/-! ## order -/
def rStrCmp (p : Str → Str → Bool) : R2 := fun x y H Q => ∃ i j, x = .str i ∧ y = .str j ∧ Q (.bl (p i j)) H
def cmpD (f : Int → Int → Bool) (g : Str → Str → Bool) : D → D → Option Rv
  | .int a, .int b => some (.d (.bl (f a b)))
  | .str a, .str b => some (.d (.bl (g a b)))
  | _, _ => none
def rCmpA (f : Int → Int → Bool) (g : Str → Str → Bool) : R2 := fun x y H Q => rI0 (fun i j => .bl (f i j)) x y H Q ∨ rStrCmp g x y H Q
theorem o2_cmp {f : Int → Int → Bool} {g : Str → Str → Bool} : Op2 K (rCmpA f g) (cmpD f g) := by
  intro F H x y dx dy Q s hx hy ho
  cases dx with
  | int a =>
    cases dy with
    | int b => cases hx; cases hy; exact .inl ⟨a, b, rfl, rfl, outD s ho (.bl _)⟩
    | _ => exact ho.elim
  | str a =>
    cases dy with
    | str b => cases hx; cases hy; exact .inr ⟨a, b, rfl, rfl, outD s ho (.bl _)⟩
    | _ => exact ho.elim
  | _ => exact ho.elim
abbrev sLt (i j : Str) : Bool := decide (i.cps.toList < j.cps.toList)
abbrev ltD := cmpD (fun i j => decide (i < j)) sLt
abbrev leD := cmpD (fun i j => decide (i ≤ j)) (fun i j => !sLt j i)
abbrev gtD := cmpD (fun i j => decide (j < i)) (fun i j => sLt j i)
abbrev geD := cmpD (fun i j => decide (j ≤ i)) (fun i j => !sLt i j)
theorem op_ltA {X : Cx} : OpR X (compareOp .Lt) (rCmpA (fun i j => decide (i < j)) sLt) := opr_or op_lt op_lt_str
theorem op_leA {X : Cx} : OpR X (compareOp .LtE) (rCmpA (fun i j => decide (i ≤ j)) (fun i j => !sLt j i)) := opr_or op_le op_le_str
theorem op_gtA {X : Cx} : OpR X (compareOp .Gt) (rCmpA (fun i j => decide (j < i)) (fun i j => sLt j i)) := opr_or op_gt op_gt_str
theorem op_geA {X : Cx} : OpR X (compareOp .GtE) (rCmpA (fun i j => decide (j ≤ i)) (fun i j => !sLt i j)) := opr_or op_ge op_ge_str

/-! ## equality -/
mutual
def deq : D → D → Bool
  | .non, .non => true
  | .bl a, .bl b => a == b
  | .bl a, .int j => (if a then 1 else 0) == j
  | .int i, .bl b => i == (if b then 1 else 0)
  | .int i, .int j => i == j
  | .str x, .str y => x == y
  | .tup xs, .tup ys => deqs xs ys
  | .tup xs, .tuk ys => deqs xs ys
  | .tuk xs, .tup ys => deqs xs ys
  | .tuk xs, .tuk ys => deqs xs ys
  | .lst xs, .lst ys => deqs xs ys
  | .lst xs, .rol ys => deqs xs ys
  | .rol xs, .lst ys => deqs xs ys
  | .rol xs, .rol ys => deqs xs ys
  | _, _ => false
def deqs : List D → List D → Bool
  | [], [] => true
  | x :: xs, y :: ys => deq x y && deqs xs ys
  | _, _ => false
end
mutual
def toPy : D → Option PyData
  | .non => some .none
  | .bl b => some (.bool b)
  | .int i => some (.int i)
  | .str x => some (.str x)
  | .tup l => (toPys l).map .tuple
  | .tuk l => (toPys l).map .tuple
  | .lst l => (toPys l).map .list
  | .rol l => (toPys l).map .list
  | _ => none
def toPys : List D → Option (List PyData)
  | [] => some []
  | d :: ds => (toPy d).bind fun p => (toPys ds).map (p :: ·)
end
mutual
theorem dp_of {F H : Hp} (s : Sub F H) : ∀ {d : D} {v : V} {p : PyData}, Rp K F d v → toPy d = some p → Dp K H v p
  | _, _, _, .non, e => by simp only [toPy] at e; cases e; exact .non
  | _, _, _, .bl b, e => by simp only [toPy] at e; cases e; exact .bl b
  | _, _, _, .int i, e => by simp only [toPy] at e; cases e; exact .int i
  | _, _, _, .str x, e => by simp only [toPy] at e; cases e; exact .str x
  | _, _, _, .ref a, e => by simp only [toPy] at e; cases e
  | _, _, _, .ty t, e => by simp only [toPy] at e; cases e
  | _, _, _, .dk h r, e => by simp only [toPy] at e; cases e
  | _, _, _, .dt h r, e => by simp only [toPy] at e; cases e
  | _, _, _, .obj h r, e => by simp only [toPy] at e; cases e
  | _, _, _, .tup h r, e => by
    simp only [toPy, Option.map_eq_some_iff] at e
    obtain ⟨l, e1, rfl⟩ := e
    exact .tup (s.t (SqT.of h)) (dps_of s r e1)
  | _, _, _, .tuk h r, e => by
    simp only [toPy, Option.map_eq_some_iff] at e
    obtain ⟨l, e1, rfl⟩ := e
    exact .tup (s.t h) (dps_of s r e1)
  | _, _, _, .lst h r, e => by
    simp only [toPy, Option.map_eq_some_iff] at e
    obtain ⟨l, e1, rfl⟩ := e
    exact .lst (SqL.of (s _ _ h)) (dps_of s r e1)
  | _, _, _, .rol h r, e => by
    simp only [toPy, Option.map_eq_some_iff] at e
    obtain ⟨l, e1, rfl⟩ := e
    exact .lst (s.l h) (dps_of s r e1)
theorem dps_of {F H : Hp} (s : Sub F H) : ∀ {d : List D} {v : List V} {p : List PyData}, RpL K F d v → toPys d = some p → DpAll K H v p
  | _, _, _, .nil, e => by simp only [toPys] at e; cases e; exact .nil
  | _, _, _, .cons h r, e => by
    simp only [toPys, Option.bind_eq_some_iff, Option.map_eq_some_iff] at e
    obtain ⟨p, e1, l, e2, rfl⟩ := e
    exact .cons (dp_of s h e1) (dps_of s r e2)
end
theorem dpp_of {F H : Hp} (s : Sub F H) {d : D} {v : V} {p : PyData} (h : RpP K F H d v) (e : toPy d = some p) : Dp K H v p := by
  cases d with
  | lst l =>
    obtain ⟨a, xs, rfl, h1, r⟩ := h
    simp only [toPy, Option.map_eq_some_iff] at e
    obtain ⟨q, e1, rfl⟩ := e
    exact .lst (SqL.of h1) (dps_of s r e1)
  | dk l => simp only [toPy] at e; cases e
  | dt l => simp only [toPy] at e; cases e
  | obj C l => simp only [toPy] at e; cases e
  | non => exact dp_of s h e
  | bl b => exact dp_of s h e
  | int i => exact dp_of s h e
  | str x => exact dp_of s h e
  | ref a => exact dp_of s h e
  | ty t => exact dp_of s h e
  | tup l => exact dp_of s h e
  | tuk l => exact dp_of s h e
  | rol l => exact dp_of s h e
mutual
theorem deq_py : ∀ {d e : D} {p q : PyData}, toPy d = some p → toPy e = some q → PyData.eqv p q = deq d e
  | d, e, p, q, h1, h2 => by
    cases d <;> cases e <;> simp only [toPy, Option.map_eq_some_iff, reduceCtorEq, Option.some.injEq] at h1 h2 <;> first
      | (obtain ⟨l, a1, rfl⟩ := h1; obtain ⟨m, a2, rfl⟩ := h2; simp only [deq, PyData.eqv]; done)
      | (obtain ⟨l, a1, rfl⟩ := h1; obtain ⟨m, a2, rfl⟩ := h2; simp only [deq, PyData.eqv]; exact deqs_py a1 a2)
      | (obtain ⟨l, a1, rfl⟩ := h1; subst h2; simp only [deq, PyData.eqv])
      | (subst h1; obtain ⟨m, a2, rfl⟩ := h2; simp only [deq, PyData.eqv])
      | (subst h1; subst h2; simp only [deq, PyData.eqv])
theorem deqs_py : ∀ {d e : List D} {p q : List PyData}, toPys d = some p → toPys e = some q → PyData.eqvAll p q = deqs d e
  | [], [], p, q, h1, h2 => by simp only [toPys] at h1 h2; cases h1; cases h2; simp only [PyData.eqvAll, deqs]
  | [], y :: ys, p, q, h1, h2 => by
    simp only [toPys, Option.bind_eq_some_iff, Option.map_eq_some_iff] at h1 h2
    cases h1
    obtain ⟨a, a1, l, a2, rfl⟩ := h2
    simp only [PyData.eqvAll, deqs]
  | x :: xs, [], p, q, h1, h2 => by
    simp only [toPys, Option.bind_eq_some_iff, Option.map_eq_some_iff] at h1 h2
    cases h2
    obtain ⟨a, a1, l, a2, rfl⟩ := h1
    simp only [PyData.eqvAll, deqs]
  | x :: xs, y :: ys, p, q, h1, h2 => by
    simp only [toPys, Option.bind_eq_some_iff, Option.map_eq_some_iff] at h1 h2
    obtain ⟨a, a1, l, a2, rfl⟩ := h1
    obtain ⟨b, b1, m, b2, rfl⟩ := h2
    simp only [PyData.eqvAll, deqs]
    rw [deq_py a1 b1, deqs_py a2 b2]
end
/-- both may be compared -/
def cmpb (d : D) : Bool := match toPy d with
  | some p => SeqAt.shaped p
  | none => false
theorem cmpb_ok {d : D} (h : cmpb d = true) : ∃ p, toPy d = some p ∧ SeqAt.shaped p = true := by
  unfold cmpb at h
  split at h
  · exact ⟨_, by assumption, h⟩
  · cases h
/-- texts and the like, whatever stands in them -/
def flatE : D → D → Option Bool
  | .non, .non => some true
  | .str a, .str b => some (decide (a = b))
  | .int a, .int b => some (decide (a = b))
  | .bl a, .bl b => some (decide (a = b))
  | .non, .str _ => some false
  | .str _, .non => some false
  | .non, .int _ => some false
  | .int _, .non => some false
  | .non, .bl _ => some false
  | .bl _, .non => some false
  | .int _, .str _ => some false
  | .str _, .int _ => some false
  | .bl _, .str _ => some false
  | .str _, .bl _ => some false
  | _, _ => none
def eqB (x y : D) : Option Bool := match flatE x y with
  | some b => some b
  | none => if cmpb x && cmpb y then some (deq x y) else none
def eqD (x y : D) : Option Rv := (eqB x y).map fun b => .d (.bl b)
def neD (x y : D) : Option Rv := (eqB x y).map fun b => .d (.bl !b)
def rEqA (K : PySem.W.Frag) : R2 := fun x y H Q => rEq x y H Q ∨ rEqD K x y H Q
def rNeA (K : PySem.W.Frag) : R2 := fun x y H Q => rNe x y H Q ∨ rNeD K x y H Q
theorem op_eqA {X : Cx} (hu : X.A.units + 64 < cLine) : OpR X (compareOp .Eq) (rEqA X.K) := opr_or op_eq (op_eqD hu)
theorem op_neA {X : Cx} (hu : X.A.units + 64 < cLine) : OpR X (compareOp .NotEq) (rNeA X.K) := opr_or op_ne (op_neD hu)
theorem flatE_ok {F H : Hp} {x y : V} {dx dy : D} {b : Bool} (hx : RpP K F H dx x) (hy : RpP K F H dy y) (e : flatE dx dy = some b) : scal x y = true ∧ decide (x = y) = b := by
  cases dx <;> cases dy <;> simp only [flatE, reduceCtorEq, Option.some.injEq] at e <;> cases hx <;> cases hy <;> subst e <;> refine ⟨rfl, ?_⟩ <;> simp
theorem o2_eq : Op2 K (rEqA K) eqD := by
  intro F H x y dx dy Q s hx hy ho
  unfold eqD eqB at ho
  cases e : flatE dx dy with
  | some b =>
    rw [e] at ho
    obtain ⟨h1, h2⟩ := flatE_ok hx hy e
    refine .inl ⟨h1, ?_⟩
    rw [h2]
    exact outD s ho (.bl _)
  | none =>
    rw [e] at ho
    dsimp only at ho
    split at ho
    · rename_i hc
      rw [Bool.and_eq_true] at hc
      obtain ⟨p, p1, p2⟩ := cmpb_ok hc.1
      obtain ⟨q, q1, q2⟩ := cmpb_ok hc.2
      refine .inr ⟨p, q, dpp_of s hx p1, dpp_of s hy q1, p2, q2, ?_⟩
      rw [deq_py p1 q1]
      exact outD s ho (.bl _)
    · exact ho.elim
theorem o2_ne : Op2 K (rNeA K) neD := by
  intro F H x y dx dy Q s hx hy ho
  unfold neD eqB at ho
  cases e : flatE dx dy with
  | some b =>
    rw [e] at ho
    obtain ⟨h1, h2⟩ := flatE_ok hx hy e
    refine .inl ⟨h1, ?_⟩
    rw [h2]
    exact outD s ho (.bl _)
  | none =>
    rw [e] at ho
    dsimp only at ho
    split at ho
    · rename_i hc
      rw [Bool.and_eq_true] at hc
      obtain ⟨p, p1, p2⟩ := cmpb_ok hc.1
      obtain ⟨q, q1, q2⟩ := cmpb_ok hc.2
      refine .inr ⟨p, q, dpp_of s hx p1, dpp_of s hy q1, p2, q2, ?_⟩
      rw [deq_py p1 q1]
      exact outD s ho (.bl _)
    · exact ho.elim
end Cz

/-! # CzK -/
namespace Cz
open L2 PyProof.Rows PySem.Spec PySem
variable {K : PySem.W.Frag}

/-! ## a sequence's items -/
/-- the items of what may be indexed -/
def seqD : D → Option (List D)
  | .lst l => some l
  | .rol l => some l
  | .tup l => some l
  | .tuk l => some l
  | _ => none
theorem RpP.seq {F H : Hp} {d : D} {v : V} {l : List D} (s : Sub F H) (h : RpP K F H d v) (e : seqD d = some l) : ∃ a xs, v = .ref a ∧ RpL K F l xs ∧ ((SqL K H a xs ∧ ((∃ l', d = .lst l') ∨ ∃ l', d = .rol l')) ∨ (SqT K H a xs ∧ tupL d = some l)) := by
  cases d with
  | lst m =>
    cases e
    obtain ⟨a, xs, rfl, h1, r⟩ := h
    exact ⟨a, xs, rfl, r, .inl ⟨SqL.of h1, .inl ⟨_, rfl⟩⟩⟩
  | rol m =>
    cases e
    cases h with
    | rol h1 r => exact ⟨_, _, rfl, r, .inl ⟨s.l h1, .inr ⟨_, rfl⟩⟩⟩
  | tup m =>
    cases e
    obtain ⟨a, xs, h1, h2, h3⟩ := h.sqt s rfl
    exact ⟨a, xs, h1, h3, .inr ⟨h2, rfl⟩⟩
  | tuk m =>
    cases e
    obtain ⟨a, xs, h1, h2, h3⟩ := h.sqt s rfl
    exact ⟨a, xs, h1, h3, .inr ⟨h2, rfl⟩⟩
  | _ => cases e
theorem RpL.atI {F : Hp} {l : List D} {xs : List V} {i : Int} {d : D} (r : RpL K F l xs) (e : atI l i = some d) : ∃ v, L2.atI xs i = some v ∧ Rp K F d v := by
  unfold L2.atI at e ⊢
  rw [Option.bind_eq_some_iff] at e
  obtain ⟨j, e1, e2⟩ := e
  obtain ⟨v, h1, h2⟩ := r.get e2
  rw [r.length] at e1
  rw [e1]
  exact ⟨v, h1, h2⟩

/-! ## x[i] -/
def ixD : D → D → Option Rv
  | .str z, .int i => if small z.length then (atI z.cps.toList i).map fun c => .d (.str ⟨#[c]⟩) else none
  | d, .int i => (seqD d).bind fun l => (atI l i).map fun e => .d e
  | _, _ => none
theorem o2_ixS {F H : Hp} {x y : V} {dx : D} {i : Int} {l : List D} {e : D} {Q : VK} (s : Sub F H) (hx : RpP K F H dx x) (hy : RpP K F H (.int i) y) (h1 : seqD dx = some l) (h2 : atI l i = some e) (ho : OutOk K F H Q (some (.d e))) : rIx K x y H Q := by
  cases hy
  obtain ⟨a, xs, rfl, r, h⟩ := hx.seq s h1
  obtain ⟨v, e1, e2⟩ := r.atI h2
  rcases h with ⟨h, _⟩ | ⟨h, _⟩
  · exact .inl ⟨a, xs, i, v, rfl, rfl, h, e1, outD s ho e2⟩
  · exact .inr (.inl ⟨a, xs, i, v, rfl, rfl, h, e1, outD s ho e2⟩)
theorem o2_ix : Op2 K (rIx K) ixD := by
  intro F H x y dx dy Q s hx hy ho
  cases dy with
  | int i =>
    have seq : ∀ l, seqD dx = some l → OutOk K F H Q ((atI l i).map fun e => .d e) → rIx K x y H Q := fun l h1 ho => by
      cases h2 : atI l i with
      | none => rw [h2] at ho; exact ho.elim
      | some e => rw [h2] at ho; exact o2_ixS s hx hy h1 h2 ho
    cases dx with
    | str z =>
      simp only [ixD] at ho
      split at ho
      · rename_i hz
        cases h2 : atI z.cps.toList i with
        | none => rw [h2] at ho; exact ho.elim
        | some c =>
          rw [h2] at ho
          cases hx
          cases hy
          exact .inr (.inr ⟨z, i, c, rfl, rfl, small_le hz, h2, outD s ho (.str _)⟩)
      · exact ho.elim
    | lst l => exact seq l rfl ho
    | rol l => exact seq l rfl ho
    | tup l => exact seq l rfl ho
    | tuk l => exact seq l rfl ho
    | _ => exact ho.elim
  | _ => cases dx <;> exact ho.elim

/-! ## x[lo:hi] -/
def WnO (K : PySem.W.Frag) (W : WX) (Q : Option Int → Hp → Prop) (F H : Hp) (σ : L2.St) (s : SS) : R (Option Int) → Prop
  | .ok o s' => ∀ F' H', Go K F H σ s F' H' σ s' → Q o H'
  | .ex c l s' => ∀ dd F' H' xs, Go K F H σ s F' H' σ s' → H' dd = some (.xd xs) → RpF K F' l xs → W (.ref c) (some dd) σ H'
  | .no => False
def EvO (K : PySem.W.Frag) (W : WX) (t : TO) (m : M (Option Int)) : Prop := ∀ F H σ s Q, RS K F H σ s → WnO K W Q F H σ s (m s) → t σ H Q
def mNoPart : M (Option Int) := fun s => .ok none s
theorem eo_none {W : WX} : EvO K W tNoPart mNoPart := fun F H σ s Q rs w => w F H (Go.refl rs)
def intOf : D → Option Int
  | .int i => some i
  | _ => none
def mPart (me : M Rv) : M (Option Int) := fun s => (me s).bind fun r s1 => opt ((pk r s1).bind intOf) fun i => .ok (some i) s1
theorem opt_wnO {α : Type} {F H : Hp} {σ : L2.St} {s : SS} {W : WX} {Q : Option Int → Hp → Prop} {o : Option α} {f : α → R (Option Int)} (w : WnO K W Q F H σ s (opt o f)) : ∃ a, o = some a ∧ WnO K W Q F H σ s (f a) := by
  cases o with
  | none => exact w.elim
  | some a => exact ⟨a, rfl, w⟩
theorem eo_some {W : WX} {te : TE} {me : M Rv} (h : EvX K W te me) : EvO K W (tPart te) (mPart me) := by
  intro F H σ s Q rs w
  refine h F H σ s _ rs ?_
  have w' : WnO K W Q F H σ s ((me s).bind fun r s1 => opt ((pk r s1).bind intOf) fun i => .ok (some i) s1) := w
  cases e : me s with
  | no => rw [e] at w'; exact w'
  | ex c l s1 =>
    rw [e] at w'
    exact fun dd F1 H1 xs g1 => w' dd F1 H1 xs g1
  | ok r s1 =>
    rw [e] at w'
    intro v F1 H1 g1 h1
    obtain ⟨i, e1, w2⟩ := opt_wnO w'
    rw [Option.bind_eq_some_iff] at e1
    obtain ⟨d, e2, e3⟩ := e1
    have hp := pk_ok g1.rs h1 e2
    cases d with
    | int j =>
      cases e3
      cases hp
      exact ⟨_, rfl, w2 F1 H1 g1⟩
    | _ => cases e3
theorem EvO.step {W : WX} {t : TO} {m : M (Option Int)} (h : EvO K W t m) {F0 H0 F H : Hp} {σ : L2.St} {s0 s : SS} {Q : VK} {Q1 : Option Int → Hp → Prop} {f : Option Int → SS → R Rv} (g : Go K F0 H0 σ s0 F H σ s) (w : Wn K W Q F0 H0 σ s0 ((m s).bind f))
    (k : ∀ r s1 F1 H1, Go K F0 H0 σ s0 F1 H1 σ s1 → Go K F H σ s F1 H1 σ s1 → Wn K W Q F0 H0 σ s0 (f r s1) → Q1 r H1) : t σ H Q1 := by
  refine h F H σ s Q1 g.rs ?_
  cases e : m s with
  | ok r s1 =>
    rw [e] at w
    exact fun F1 H1 g1 => k r s1 F1 H1 (g.trans g1) g1 w
  | ex c l s1 =>
    rw [e] at w
    exact fun dd F1 H1 xs g1 => w dd F1 H1 xs (g.trans g1)
  | no =>
    rw [e] at w
    exact w
def cutL {α : Type} (l : List α) (lo hi : Option Int) : List α := (l.drop (HT.sIx l.length 0 lo)).take (HT.sIx l.length l.length hi - HT.sIx l.length 0 lo)
theorem RpL.cut {F : Hp} {l : List D} {xs : List V} (r : RpL K F l xs) (lo hi : Option Int) : RpL K F (cutL l lo hi) (cutV xs lo hi) := by
  unfold cutL cutV
  rw [r.length]
  exact (r.drop _).take _
def slD : D → Option Int → Option Int → Option Rv
  | .lst l, lo, hi => some (.o (.lst (cutL l lo hi)))
  | .rol l, lo, hi => some (.o (.lst (cutL l lo hi)))
  | .tup l, lo, hi => some (.d (.tup (cutL l lo hi)))
  | .tuk l, lo, hi => some (.d (if HT.sIx l.length 0 lo = 0 ∧ HT.sIx l.length l.length hi = l.length then .tuk l else .tup (cutL l lo hi)))
  | .str z, lo, hi => if small z.length then some (.d (.str (cutS z lo hi))) else none
  | _, _, _ => none
def rSlAll (K : PySem.W.Frag) : V → Option Int → Option Int → Hp → VK → Prop := fun x lo hi H Q => rSlL K x lo hi H Q ∨ rSlA K x lo hi H Q ∨ rSlS x lo hi H Q
theorem sl_all {X : Cx} : SlR X (rSlAll X.K) := sl_list.or (sl_tupA.or sl_str)
theorem sl_ok {F H : Hp} {x : V} {dx : D} {lo hi : Option Int} {Q : VK} (s : Sub F H) (hx : RpP K F H dx x) (ho : OutOk K F H Q (slD dx lo hi)) : rSlAll K x lo hi H Q := by
  cases dx with
  | lst l =>
    obtain ⟨a, xs, rfl, h1, r⟩ := hx
    exact .inl ⟨a, xs, rfl, SqL.of h1, outL s ho (r.cut lo hi)⟩
  | rol l =>
    cases hx with
    | rol h1 r => exact .inl ⟨_, _, rfl, s.l h1, outL s ho (r.cut lo hi)⟩
  | tup l =>
    have hx0 := hx
    cases hx with
    | tup h1 r =>
      rename_i a xs
      refine .inr (.inl ⟨a, xs, rfl, s.t (SqT.of h1), fun hw => ?_, fun hw => outN s ho (r.cut lo hi)⟩)
      have e : cutL l lo hi = l := by
        unfold cutL
        rw [r.length, hw.1, hw.2, List.drop_zero, Nat.sub_zero, ← r.length, List.take_length]
      have ho' : OutOk K F H Q (some (.d (.tup (cutL l lo hi)))) := ho
      rw [e] at ho'
      exact outD s ho' hx0
  | tuk l =>
    have hx0 := hx
    cases hx with
    | tuk h1 r =>
      rename_i a xs
      have ho' : OutOk K F H Q (some (.d (if HT.sIx l.length 0 lo = 0 ∧ HT.sIx l.length l.length hi = l.length then .tuk l else .tup (cutL l lo hi)))) := ho
      rw [r.length] at ho'
      refine .inr (.inl ⟨a, xs, rfl, s.t h1, fun hw => ?_, fun hw => ?_⟩)
      · rw [if_pos hw] at ho'
        exact outD s ho' hx0
      · rw [if_neg hw] at ho'
        exact outN s ho' (r.cut lo hi)
  | str z =>
    simp only [slD] at ho
    split at ho
    · rename_i hz
      cases hx
      exact .inr (.inr ⟨z, rfl, small_le hz, outD s ho (.str _)⟩)
    · exact ho.elim
  | _ => exact ho.elim
def mSl (me : M Rv) (ml mh : M (Option Int)) : M Rv := fun s => (me s).bind fun r s1 => (ml s1).bind fun lo s2 => (mh s2).bind fun hi s3 => opt (pk (nrm r) s3) fun d => outR (slD d lo hi) s3
theorem ev_sl {W : WX} {te : TE} {tl th : TO} {me : M Rv} {ml mh : M (Option Int)} (he : EvX K W te me) (hl : EvO K W tl ml) (hh : EvO K W th mh) : EvX K W (tSl (rSlAll K) te tl th) (mSl me ml mh) := by
  intro F H σ s Q rs w
  refine he.step (Go.refl rs) w fun r1 s1 v1 F1 H1 g1 _ h1 w1 => ?_
  obtain ⟨F1', g1', sb1, h1'⟩ := nrm_ok g1 h1
  refine hl.step g1' w1 fun lo s2 F2 H2 g2 g12 w2 => ?_
  refine hh.step g2 w2 fun hi s3 F3 H3 g3 g23 w3 => ?_
  obtain ⟨d, ed, w4⟩ := opt_wn w3
  exact sl_ok g3.rs.sub (pk_ok g3.rs (h1'.go (g12.trans g23)) ed) (out_ok g3 w4)

/-! ## len -/
def lenD : D → Option Rv
  | .str z => if small z.length then some (.d (.int (z.length : Nat))) else none
  | d => (seqD d).map fun l => .d (.int (l.length : Nat))
theorem c1_len : Op1 K (fun x H Q => (fun xs H Q => ∃ x n, xs = [x] ∧ LenV K x H n ∧ Q (.int n) H) [x] H Q) lenD := by
  intro F H x dx Q s hx ho
  have seq : ∀ l, seqD dx = some l → OutOk K F H Q (some (.d (.int (l.length : Nat)))) → ∃ y n, [x] = [y] ∧ LenV K y H n ∧ Q (.int n) H := fun l h1 ho => by
    obtain ⟨a, xs, rfl, r, h⟩ := hx.seq s h1
    refine ⟨_, xs.length, rfl, ?_, outD s (by rw [r.length] at ho; exact ho) (.int _)⟩
    rcases h with ⟨h, _⟩ | ⟨h, _⟩
    · exact .inl ⟨xs, h, rfl⟩
    · exact .inr ⟨xs, h, rfl⟩
  cases dx with
  | str z =>
    simp only [lenD] at ho
    split at ho
    · rename_i hz
      cases hx
      exact ⟨_, _, rfl, ⟨small_le hz, rfl⟩, outD s ho (.int _)⟩
    · exact ho.elim
  | lst l => exact seq l rfl ho
  | rol l => exact seq l rfl ho
  | tup l => exact seq l rfl ho
  | tuk l => exact seq l rfl ho
  | _ => exact ho.elim

/-! ## is -/
theorem plain_none {u : Value} (h : plainIs Value.none u = true) : True := trivial
def rIsA : R2 := fun x y H Q => (y = .non ∧ Q (.bl (decide (x = .non))) H) ∨ ∃ b, y = .bl b ∧ (x = .non ∨ (∃ c, x = .bl c) ∨ (∃ i, x = .int i) ∨ (∃ z, x = .str z)) ∧ Q (.bl (decide (x = .bl b))) H
end Cz

/-! # CzL -/
namespace Cz
open L2 PyProof.Rows PySem.Spec PySem
variable {K : PySem.W.Frag}

/-! ## is, is not -/
def flatX : V → Bool
  | .byt _ => false
  | .flt _ => false
  | _ => true
def rIsA2 : R2 := fun x y H Q => (y = .non ∧ Q (.bl (decide (x = .non))) H) ∨ ∃ b, y = .bl b ∧ flatX x = true ∧ Q (.bl (decide (x = .bl b))) H
def rNotA2 : R2 := fun x y H Q => (y = .non ∧ Q (.bl (!decide (x = .non))) H) ∨ ∃ b, y = .bl b ∧ flatX x = true ∧ Q (.bl (!decide (x = .bl b))) H
theorem rel_bool {x : V} {u : Value} {b : Bool} (h : flatX x = true) (r : RelV x u) : plainIs u (.bool b) = true ∧ (u = .bool b ↔ x = .bl b) := by
  cases x with
  | non => cases (show u = Value.none from r); exact ⟨rfl, by constructor <;> intro z <;> cases z⟩
  | bl c => cases (show u = Value.bool c from r); exact ⟨rfl, by constructor <;> intro z <;> cases z <;> rfl⟩
  | int i => obtain ⟨t, rfl⟩ := (show ∃ t, u = Value.int i t from r); exact ⟨rfl, by constructor <;> intro z <;> cases z⟩
  | str i => obtain ⟨t, rfl⟩ := (show ∃ t, u = Value.str i t from r); exact ⟨rfl, by constructor <;> intro z <;> cases z⟩
  | ref a => cases (show u = Value.ref a from r); exact ⟨rfl, by constructor <;> intro z <;> cases z⟩
  | ty n => cases (show u = Value.type n from r); exact ⟨rfl, by constructor <;> intro z <;> cases z⟩
  | byt b => cases h
  | flt b => cases h
theorem op_isA {X : Cx} : OpR X (compareOp .Is) rIsA2 := by
  refine opr_or op_isN ?_
  (intro pins s σ H x y v u Q I rx ry h)
  obtain ⟨b, rfl, hf, q⟩ := h
  (cases (show u = Value.bool b from ry))
  obtain ⟨h1, h2⟩ := rel_bool (b := b) hf rx
  by_cases e : x = .bl b
  · rw [decide_eq_true e] at q
    rw [h2.mpr e]
    exact wpAny_is_self rfl ⟨.bl true, H, I, rfl, q⟩
  · rw [decide_eq_false e] at q
    exact wpAny_is_other h1 (fun z => e (h2.mp z)) ⟨.bl false, H, I, rfl, q⟩
theorem op_isNotA {X : Cx} : OpR X (compareOp .IsNot) rNotA2 := by
  refine opr_or op_notN ?_
  (intro pins s σ H x y v u Q I rx ry h)
  obtain ⟨b, rfl, hf, q⟩ := h
  (cases (show u = Value.bool b from ry))
  obtain ⟨h1, h2⟩ := rel_bool (b := b) hf rx
  by_cases e : x = .bl b
  · rw [decide_eq_true e] at q
    rw [h2.mpr e]
    exact wpAny_isNot_self rfl ⟨.bl false, H, I, rfl, q⟩
  · rw [decide_eq_false e] at q
    exact wpAny_isNot_other h1 (fun z => e (h2.mp z)) ⟨.bl true, H, I, rfl, q⟩
def isB : D → D → Option Bool
  | .non, .non => some true
  | _, .non => some false
  | .bl a, .bl b => some (decide (a = b))
  | _, .bl _ => some false
  | _, _ => none
def isD (x y : D) : Option Rv := (isB x y).map fun b => .d (.bl b)
def isNotD (x y : D) : Option Rv := (isB x y).map fun b => .d (.bl !b)
theorem isB_ok {F H : Hp} {x y : V} {dx dy : D} {b : Bool} (hx : RpP K F H dx x) (hy : RpP K F H dy y) (e : isB dx dy = some b) : (y = .non ∧ decide (x = .non) = b) ∨ ∃ c, y = .bl c ∧ flatX x = true ∧ decide (x = .bl c) = b := by
  cases dy with
  | non =>
    cases hy
    refine .inl ⟨rfl, ?_⟩
    cases dx with
    | non => cases hx; cases e; rfl
    | lst l => obtain ⟨_, _, rfl, _⟩ := hx; cases e; rfl
    | dk l => obtain ⟨_, _, rfl, _⟩ := hx; cases e; rfl
    | dt l => obtain ⟨_, _, rfl, _⟩ := hx; cases e; rfl
    | obj C l => obtain ⟨_, _, _, rfl, _⟩ := hx; cases e; rfl
    | _ => cases hx <;> cases e <;> rfl
  | bl c =>
    cases hy
    refine .inr ⟨c, rfl, ?_⟩
    cases dx with
    | bl a => cases hx; cases e; refine ⟨rfl, ?_⟩; by_cases h : a = c <;> simp [h]
    | lst l => obtain ⟨_, _, rfl, _⟩ := hx; cases e; exact ⟨rfl, rfl⟩
    | dk l => obtain ⟨_, _, rfl, _⟩ := hx; cases e; exact ⟨rfl, rfl⟩
    | dt l => obtain ⟨_, _, rfl, _⟩ := hx; cases e; exact ⟨rfl, rfl⟩
    | obj C l => obtain ⟨_, _, _, rfl, _⟩ := hx; cases e; exact ⟨rfl, rfl⟩
    | _ => cases hx <;> cases e <;> exact ⟨rfl, rfl⟩
  | _ => cases dx <;> cases e
theorem o2_is : Op2 K rIsA2 isD := by
  intro F H x y dx dy Q s hx hy ho
  unfold isD at ho
  cases e : isB dx dy with
  | none => rw [e] at ho; exact ho.elim
  | some b =>
    rw [e] at ho
    rcases isB_ok hx hy e with ⟨h1, h2⟩ | ⟨c, h1, h2, h3⟩
    · exact .inl ⟨h1, by rw [h2]; exact outD s ho (.bl _)⟩
    · exact .inr ⟨c, h1, h2, by rw [h3]; exact outD s ho (.bl _)⟩
theorem o2_isNot : Op2 K rNotA2 isNotD := by
  intro F H x y dx dy Q s hx hy ho
  unfold isNotD at ho
  cases e : isB dx dy with
  | none => rw [e] at ho; exact ho.elim
  | some b =>
    rw [e] at ho
    rcases isB_ok hx hy e with ⟨h1, h2⟩ | ⟨c, h1, h2, h3⟩
    · exact .inl ⟨h1, by rw [h2]; exact outD s ho (.bl _)⟩
    · exact .inr ⟨c, h1, h2, by rw [h3]; exact outD s ho (.bl _)⟩

/-! ## in, not in -/
section
variable {X : Cx}
def rInT (K : PySem.W.Frag) : R2 := fun x y H Q => ∃ d ds, Dp K H x d ∧ Dp K H y (.tuple ds) ∧ SeqAt.shaped d = true ∧ SeqAt.shaped (.tuple ds) = true ∧ Q (.bl (ds.any fun z => PyData.eqv z d)) H
def rNotInT (K : PySem.W.Frag) : R2 := fun x y H Q => ∃ d ds, Dp K H x d ∧ Dp K H y (.tuple ds) ∧ SeqAt.shaped d = true ∧ SeqAt.shaped (.tuple ds) = true ∧ Q (.bl (!ds.any fun z => PyData.eqv z d)) H
theorem room_tup {d : PyData} {ds : List PyData} (se : SeqAt.shaped d = true) {n : Nat} (hu : n + 65 < cLine) : n + 1 + min (PyData.depthAll ds) d.depth < cLine := by
  have h : d.depth ≤ 64 := by
    unfold SeqAt.shaped at se
    rw [Bool.and_eq_true, decide_eq_true_eq] at se
    exact se.2
  have := Nat.min_le_right (PyData.depthAll ds) d.depth
  omega
theorem layall_tup {ds : List PyData} (h : SeqAt.shaped (.tuple ds) = true) : PyData.canLayAll0 ds = true := by
  unfold SeqAt.shaped at h
  rw [Bool.and_eq_true] at h
  simpa only [PyData.canLay0] using h.1
theorem lay_of {d : PyData} (h : SeqAt.shaped d = true) : d.canLay0 = true := by
  unfold SeqAt.shaped at h
  rw [Bool.and_eq_true] at h
  exact h.1
theorem op_inT (hu : X.A.units + 65 < cLine) : OpR X (compareOp .In) (rInT X.K) := by
  (intro pins s σ H x y v u Q I rx ry h)
  (obtain ⟨d, ds, hd, he, sd, se, q⟩ := h)
  (obtain ⟨as, r1⟩ := Dp.reads I d x v hd rx)
  obtain ⟨bs, r2⟩ := Dp.reads I (.tuple ds) y u he ry
  exact SeqAt.in_tuple_reads r2 r1 (layall_tup se) (lay_of sd) (room_tup sd hu) ⟨.bl _, H, I, rfl, q⟩
theorem op_notInT (hu : X.A.units + 65 < cLine) : OpR X (compareOp .NotIn) (rNotInT X.K) := by
  (intro pins s σ H x y v u Q I rx ry h)
  (obtain ⟨d, ds, hd, he, sd, se, q⟩ := h)
  (obtain ⟨as, r1⟩ := Dp.reads I d x v hd rx)
  obtain ⟨bs, r2⟩ := Dp.reads I (.tuple ds) y u he ry
  exact SeqAt.notIn_tuple_reads r2 r1 (layall_tup se) (lay_of sd) (room_tup sd hu) ⟨.bl _, H, I, rfl, q⟩
end
def rInSgn : R2 := fun x y H Q => ∃ (c : Nat) (z : Str), x = .str ⟨#[c]⟩ ∧ y = .str z ∧ Q (.bl (decide (c ∈ z.cps.toList))) H
def rNotInSgn : R2 := fun x y H Q => ∃ (c : Nat) (z : Str), x = .str ⟨#[c]⟩ ∧ y = .str z ∧ Q (.bl (!decide (c ∈ z.cps.toList))) H
def rInA (K : PySem.W.Frag) : R2 := fun x y H Q => rInSgn x y H Q ∨ rInD K x y H Q ∨ rInT K x y H Q
def rNotInA (K : PySem.W.Frag) : R2 := fun x y H Q => rNotInSgn x y H Q ∨ rNotInD K x y H Q ∨ rNotInT K x y H Q
theorem op_inA {X : Cx} (hu : X.A.units + 65 < cLine) : OpR X (compareOp .In) (rInA X.K) := opr_or op_in_sign (opr_or (op_inD hu) (op_inT hu))
theorem op_notInA {X : Cx} (hu : X.A.units + 65 < cLine) : OpR X (compareOp .NotIn) (rNotInA X.K) := opr_or op_notIn_sign (opr_or (op_notInD hu) (op_notInT hu))
/-- x in y: a sign in a text, a thing in a row of things -/
def inB (x y : D) : Option Bool := match y with
  | .str z => match x with
    | .str w => match w.cps.toList with
      | [c] => some (decide (c ∈ z.cps.toList))
      | _ => none
    | _ => none
  | _ => match seqD y with
    | some l => if cmpb x && cmpb y then some (l.any fun e => deq e x) else none
    | none => none
theorem sgn_of {w : Str} {c : Nat} (h : w.cps.toList = [c]) : w = ⟨#[c]⟩ := by
  obtain ⟨a⟩ := w
  have : a = #[c] := by
    apply Array.ext'
    simpa using h
  rw [this]
theorem any_py {x : D} {q : PyData} (hq : toPy x = some q) : ∀ {l : List D} {p : List PyData}, toPys l = some p → (p.any fun z => PyData.eqv z q) = l.any fun e => deq e x
  | [], p, e => by
    simp only [toPys] at e
    cases e
    rfl
  | d :: l, p, e => by
    simp only [toPys, Option.bind_eq_some_iff, Option.map_eq_some_iff] at e
    obtain ⟨a, a1, r, a2, rfl⟩ := e
    rw [List.any_cons, List.any_cons, deq_py a1 hq, any_py hq a2]
theorem inB_ok {F H : Hp} (s : Sub F H) {x y : V} {dx dy : D} {b : Bool} (hx : RpP K F H dx x) (hy : RpP K F H dy y) (e : inB dx dy = some b) :
    (∃ (c : Nat) (z : Str), x = .str ⟨#[c]⟩ ∧ y = .str z ∧ decide (c ∈ z.cps.toList) = b) ∨ (∃ d ds, Dp K H x d ∧ Dp K H y (.list ds) ∧ SeqAt.shaped d = true ∧ SeqAt.shaped (.list ds) = true ∧ (ds.any fun z => PyData.eqv z d) = b) ∨
    ∃ d ds, Dp K H x d ∧ Dp K H y (.tuple ds) ∧ SeqAt.shaped d = true ∧ SeqAt.shaped (.tuple ds) = true ∧ (ds.any fun z => PyData.eqv z d) = b := by
  have rows : ∀ l, seqD dy = some l → (if cmpb dx && cmpb dy then some (l.any fun e => deq e dx) else none) = some b → (∃ ps, toPy dy = (toPys l).map ps ∧ (ps = .list ∨ ps = .tuple)) →
      ((∃ d ds, Dp K H x d ∧ Dp K H y (.list ds) ∧ SeqAt.shaped d = true ∧ SeqAt.shaped (.list ds) = true ∧ (ds.any fun z => PyData.eqv z d) = b) ∨
    ∃ d ds, Dp K H x d ∧ Dp K H y (.tuple ds) ∧ SeqAt.shaped d = true ∧ SeqAt.shaped (.tuple ds) = true ∧ (ds.any fun z => PyData.eqv z d) = b) := fun l hl e ⟨ps, hp, hk⟩ => by
    split at e
    · rename_i hc
      cases e
      rw [Bool.and_eq_true] at hc
      obtain ⟨p, p1, p2⟩ := cmpb_ok hc.1
      obtain ⟨q, q1, q2⟩ := cmpb_ok hc.2
      have hq := q1
      rw [hp, Option.map_eq_some_iff] at hq
      obtain ⟨ds, d1, d2⟩ := hq
      rcases hk with hk | hk
      · subst hk
        subst d2
        exact .inl ⟨p, ds, dpp_of s hx p1, dpp_of s hy q1, p2, q2, any_py p1 d1⟩
      · subst hk
        subst d2
        exact .inr ⟨p, ds, dpp_of s hx p1, dpp_of s hy q1, p2, q2, any_py p1 d1⟩
    · cases e
  cases dy with
  | str z =>
    left
    cases dx with
    | str w =>
      simp only [inB] at e
      split at e
      · rename_i c hc
        cases e
        cases hx
        cases hy
        exact ⟨c, z, by rw [sgn_of hc], rfl, rfl⟩
      · cases e
    | _ => cases e
  | lst l => exact .inr (rows l rfl e ⟨.list, by simp only [toPy], .inl rfl⟩)
  | rol l => exact .inr (rows l rfl e ⟨.list, by simp only [toPy], .inl rfl⟩)
  | tup l => exact .inr (rows l rfl e ⟨.tuple, by simp only [toPy], .inr rfl⟩)
  | tuk l => exact .inr (rows l rfl e ⟨.tuple, by simp only [toPy], .inr rfl⟩)
  | _ => cases e
def inD (x y : D) : Option Rv := (inB x y).map fun b => .d (.bl b)
def notInD (x y : D) : Option Rv := (inB x y).map fun b => .d (.bl !b)
theorem o2_in : Op2 K (rInA K) inD := by
  intro F H x y dx dy Q s hx hy ho
  unfold inD at ho
  cases e : inB dx dy with
  | none => rw [e] at ho; exact ho.elim
  | some b =>
    rw [e] at ho
    rcases inB_ok s hx hy e with ⟨c, z, h1, h2, h3⟩ | ⟨d, ds, h1, h2, h3, h4, h5⟩ | ⟨d, ds, h1, h2, h3, h4, h5⟩
    · exact .inl ⟨c, z, h1, h2, by rw [h3]; exact outD s ho (.bl _)⟩
    · exact .inr (.inl ⟨d, ds, h1, h2, h3, h4, by rw [h5]; exact outD s ho (.bl _)⟩)
    · exact .inr (.inr ⟨d, ds, h1, h2, h3, h4, by rw [h5]; exact outD s ho (.bl _)⟩)
theorem o2_notIn : Op2 K (rNotInA K) notInD := by
  intro F H x y dx dy Q s hx hy ho
  unfold notInD at ho
  cases e : inB dx dy with
  | none => rw [e] at ho; exact ho.elim
  | some b =>
    rw [e] at ho
    rcases inB_ok s hx hy e with ⟨c, z, h1, h2, h3⟩ | ⟨d, ds, h1, h2, h3, h4, h5⟩ | ⟨d, ds, h1, h2, h3, h4, h5⟩
    · exact .inl ⟨c, z, h1, h2, by rw [h3]; exact outD s ho (.bl _)⟩
    · exact .inr (.inl ⟨d, ds, h1, h2, h3, h4, by rw [h5]; exact outD s ho (.bl _)⟩)
    · exact .inr (.inr ⟨d, ds, h1, h2, h3, h4, by rw [h5]; exact outD s ho (.bl _)⟩)

/-! ## isinstance -/
/-- a value's type, as a name of a built-in one -/
def tyD : D → Option String
  | .non => some "NoneType"
  | .bl _ => some "bool"
  | .int _ => some "int"
  | .str _ => some "str"
  | .tup _ => some "tuple"
  | .tuk _ => some "tuple"
  | .lst _ => some "list"
  | .rol _ => some "list"
  | _ => none
theorem sqT_ty {H : Hp} {a : Addr} {xs : List V} (h : SqT K H a xs) : TyX K H (.ref a) (.type "tuple") := by
  rcases h with (h | ⟨o, h⟩) | ⟨o, its, n, h1, h2, _⟩
  · exact .base (.tup h)
  · exact .fTuple h
  · exact .kTuple h1 h2
theorem sqL_ty {H : Hp} {a : Addr} {xs : List V} (h : SqL K H a xs) : TyX K H (.ref a) (.type "list") := by
  rcases h with (h | ⟨o, h⟩) | ⟨o, its, n, h1, h2, _⟩
  · exact .base (.lst h)
  · exact .base (.frz h)
  · exact .kList h1 h2
theorem tyD_ok {F H : Hp} (s : Sub F H) {d : D} {v : V} {t : String} (h : RpP K F H d v) (e : tyD d = some t) : TyX K H v (.type t) := by
  cases d with
  | non => cases h; cases e; exact .base .non
  | bl b => cases h; cases e; exact .base (.bl b)
  | int b => cases h; cases e; exact .base (.int b)
  | str b => cases h; cases e; exact .base (.str b)
  | tup l =>
    cases h with
    | tup h1 r => cases e; exact sqT_ty (s.t (SqT.of h1))
  | tuk l =>
    cases h with
    | tuk h1 r => cases e; exact sqT_ty (s.t h1)
  | lst l =>
    obtain ⟨a, xs, rfl, h1, r⟩ := h
    cases e
    exact .base (.lst h1)
  | rol l =>
    cases h with
    | rol h1 r => cases e; exact sqL_ty (s.l h1)
  | _ => cases e
/-- own classes whose instances may be asked about, with all they are -/
structure ClsI (K : PySem.W.Frag) (C : Addr) : Prop where
  cl : Cls K C
  all : PySem.W.findIn K (.ref C) "__class__" = some (some (.builtin "object.__class__")) ∧ PySem.W.specialIn K (.builtin "object.__class__") "__get__" = some (some (.builtin "getset_descriptor.__get__")) ∧ PySem.W.takesIn K (.builtin "object.__class__") = some true ∧ PySem.W.mroIn K C (.type "object") = some true
/-- a table of answers: by the type's name | by the class -/
structure IsTab where
  b : List (String × Bool)
  c : List (Addr × Bool)
def IsTab.ok (K : PySem.W.Frag) (T : IsTab) (us : List Value) : Prop := (∀ p ∈ T.b, PySem.W.kitAny K (.type p.1) us = some p.2) ∧ ∀ p ∈ T.c, ClsI K p.1 ∧ PySem.W.kitAny K (.ref p.1) us = some p.2
def isiB (T : IsTab) : D → Option Bool
  | .obj C _ => T.c.lookup C
  | d => (tyD d).bind fun t => T.b.lookup t
theorem lookup_mem {α β : Type} [BEq α] [LawfulBEq α] {a : α} {b : β} : ∀ {l : List (α × β)}, l.lookup a = some b → (a, b) ∈ l
  | [], h => by cases h
  | (x, y) :: l, h => by
    simp only [List.lookup] at h
    cases e : (a == x) with
    | true =>
      rw [e] at h
      cases h
      rw [eq_of_beq e]
      exact List.mem_cons_self
    | false =>
      rw [e] at h
      exact List.mem_cons_of_mem _ (lookup_mem h)
theorem isi_ok {F H : Hp} (s : Sub F H) {T : IsTab} {us : List Value} (hT : T.ok K us) {d : D} {v : V} {b : Bool} (h : RpP K F H d v) (e : isiB T d = some b) : ∃ t, TyX K H v t ∧ PySem.W.kitAny K t us = some b := by
  have flat : (tyD d).bind (fun t => T.b.lookup t) = some b → ∃ t, TyX K H v t ∧ PySem.W.kitAny K t us = some b := fun e => by
    rw [Option.bind_eq_some_iff] at e
    obtain ⟨t, e1, e2⟩ := e
    exact ⟨_, tyD_ok s h e1, hT.1 _ (lookup_mem e2)⟩
  cases d with
  | obj C l =>
    obtain ⟨a, dx, fs, rfl, h1, r⟩ := h
    obtain ⟨c, k⟩ := hT.2 _ (lookup_mem (show T.c.lookup C = some b from e))
    exact ⟨_, .base (.ins h1 c.cl c.all.1 c.all.2.1 c.all.2.2.1 c.all.2.2.2), k⟩
  | _ => exact flat e
def mIsi (T : IsTab) (me : M Rv) : M Rv := mUn (fun d => (isiB T d).map fun b => .d (.bl b)) me
theorem kitAny_one {t u : Value} {b : Bool} (h : PySem.W.kitAny K t [u] = some b) : PySem.W.kitOne K t u = some b := by
  unfold PySem.W.kitAny at h
  cases e : PySem.W.kitOne K t u with
  | none => (rw [e] at h; cases h)
  | some c =>
    rw [e] at h
    cases c with
    | true => cases h; rfl
    | false => exact h
/-- isinstance(x, c) -/
theorem ev_isi1 {W : WX} {T : IsTab} {c : V} {u : Value} {te : TE} {me : M Rv} (hc : ClsV c u) (hT : T.ok K [u]) (h : EvX K W te me) : EvX K W (tCB (rIsi K) (tCons te (tCons (tC c) tNil))) (mIsi T me) := by
  intro F H σ s Q rs w
  refine h.step (Go.refl rs) w fun r1 s1 v1 F1 H1 g1 _ h1 w1 => ?_
  obtain ⟨x, ex, w3⟩ := opt_wn w1
  have ho : OutOk K F1 H1 Q ((isiB T x).map fun b => .d (.bl b)) := out_ok g1 w3
  cases e : isiB T x with
  | none => rw [e] at ho; exact ho.elim
  | some b =>
    rw [e] at ho
    obtain ⟨t, t1, t2⟩ := isi_ok g1.rs.sub hT (pk_ok g1.rs h1 ex) e
    exact ⟨v1, c, t, u, b, rfl, hc, t1, kitAny_one t2, outD g1.rs.sub ho (.bl _)⟩
/-- all of them constants -/
def tCs : List V → TA
  | [] => tNil
  | c :: cs => tCons (tC c) (tCs cs)
theorem tCs_run {σ : L2.St} {H : Hp} : ∀ {cs : List V} {Q : List V → Hp → Prop}, Q cs H → tCs cs σ H Q
  | [], Q, h => h
  | c :: cs, Q, h => tCs_run (cs := cs) (Q := fun vs H1 => Q (c :: vs) H1) h
/-- isinstance(x, (c1, c2, ..)) -/
theorem ev_isiT {W : WX} {T : IsTab} {cs : List V} {us : List Value} {te : TE} {me : M Rv} (hc : Paired ClsV cs us) (hz : cs.length ≤ sizeLine) (hT : T.ok K us) (h : EvX K W te me) : EvX K W (tCB (rIsiT K) (tCons te (tCons (tTup (tCs cs)) tNil))) (mIsi T me) := by
  intro F H σ s Q rs w
  refine h.step (Go.refl rs) w fun r1 s1 v1 F1 H1 g1 _ h1 w1 => ?_
  obtain ⟨x, ex, w3⟩ := opt_wn w1
  refine tCs_run ⟨hz, fun p hp => ?_⟩
  have al := Al.new (ho := .tup cs) g1.rs.sub hp
  have g2 := g1.al al
  have ho : OutOk K (upd F1 p (.tup cs)) (upd H1 p (.tup cs)) Q ((isiB T x).map fun b => .d (.bl b)) := out_ok g2 w3
  cases e : isiB T x with
  | none => rw [e] at ho; exact ho.elim
  | some b =>
    rw [e] at ho
    have hx := pk_ok g2.rs (h1.go ((Go.refl g1.rs).al al)) ex
    obtain ⟨t, t1, t2⟩ := isi_ok g2.rs.sub hT hx e
    exact ⟨v1, p, cs, t, us, b, rfl, upd_same, hc, t1, t2, outD g2.rs.sub ho (.bl _)⟩
end Cz

/-! # CzM -/
namespace Cz
open L2 PyProof.Rows PySem.Spec PySem
variable {K : PySem.W.Frag}

/-! ## to sort -/
section
variable {α : Type} (lt : α → α → Bool)
def insr (x : α) : List α → List α
  | [] => [x]
  | y :: ys => if lt y x then y :: insr x ys else x :: y :: ys
def srt : List α → List α
  | [] => []
  | x :: xs => insr lt x (srt xs)
theorem insr_perm (x : α) : ∀ l : List α, (insr lt x l).Perm (x :: l)
  | [] => List.Perm.refl _
  | y :: ys => by
    unfold insr
    split
    · exact ((insr_perm x ys).cons y).trans (List.Perm.swap x y ys)
    · exact List.Perm.refl _
theorem srt_perm : ∀ l : List α, (srt lt l).Perm l
  | [] => List.Perm.refl _
  | x :: xs => (insr_perm lt x _).trans ((srt_perm xs).cons x)
variable {lt}
theorem insr_srt (tr : ∀ a b c, lt b a = false → lt c b = false → lt c a = false) (as : ∀ a b, lt a b = true → lt b a = false) (x : α) : ∀ {l : List α}, l.Pairwise (fun a b => lt b a = false) → (insr lt x l).Pairwise (fun a b => lt b a = false)
  | [], _ => List.pairwise_singleton _ _
  | y :: ys, h => by
    rw [List.pairwise_cons] at h
    unfold insr
    split
    · rename_i e
      rw [List.pairwise_cons]
      refine ⟨fun z hz => ?_, insr_srt tr as x h.2⟩
      rcases List.mem_cons.mp ((insr_perm lt x ys).mem_iff.mp hz) with rfl | hz
      · exact as _ _ e
      · exact h.1 z hz
    · rename_i e
      have e' : lt y x = false := by simpa using e
      rw [List.pairwise_cons]
      refine ⟨fun z hz => ?_, List.pairwise_cons.mpr h⟩
      (rcases List.mem_cons.mp hz with rfl | hz)
      · exact e'
      · exact tr _ _ _ e' (h.1 z hz)
theorem srt_srt (tr : ∀ a b c, lt b a = false → lt c b = false → lt c a = false) (as : ∀ a b, lt a b = true → lt b a = false) : ∀ l : List α, (srt lt l).Pairwise (fun a b => lt b a = false)
  | [] => .nil
  | x :: xs => insr_srt tr as x (srt_srt tr as xs)
theorem srt_eq (tr : ∀ a b c, lt b a = false → lt c b = false → lt c a = false) (as : ∀ a b, lt a b = true → lt b a = false) (an : ∀ a b, lt a b = false → lt b a = false → a = b) {l m : List α} (p : m.Perm l) (h : m.Pairwise (fun a b => lt b a = false)) : m = srt lt l :=
  List.Perm.eq_of_pairwise (fun a b _ _ h1 h2 => an a b h2 h1) h (srt_srt tr as l) (p.trans (srt_perm lt l).symm)
end
abbrev iLt (a b : Int) : Bool := decide (a < b)
theorem srtI_eq {l m : List Int} (p : m.Perm l) (h : m.Pairwise (· ≤ ·)) : m = srt iLt l :=
  srt_eq (lt := iLt) (fun a b c h1 h2 => by simp at h1 h2 ⊢; omega) (fun a b h => by simp at h ⊢; omega) (fun a b h1 h2 => by simp at h1 h2; omega) p (h.imp fun {a b} q => by simp; omega)
theorem cps_eq {a b : Str} (h : a.cps.toList = b.cps.toList) : a = b := by
  obtain ⟨x⟩ := a
  obtain ⟨y⟩ := b
  congr 1
  exact Array.ext' h
theorem sLt_tr {a b c : Str} (h1 : sLt b a = false) (h2 : sLt c b = false) : sLt c a = false := by
  simp only [sLt, decide_eq_false_iff_not, List.not_lt] at h1 h2 ⊢
  exact List.le_trans h1 h2
theorem sLt_as {a b : Str} (h : sLt a b = true) : sLt b a = false := by
  simp only [sLt, decide_eq_true_eq, decide_eq_false_iff_not] at h ⊢
  exact List.lt_asymm h
theorem sLt_an {a b : Str} (h1 : sLt a b = false) (h2 : sLt b a = false) : a = b := by
  simp only [sLt, decide_eq_false_iff_not, List.not_lt] at h1 h2
  exact cps_eq (List.le_antisymm h2 h1)
theorem rising_pw : ∀ {l : List Str} {p : Str}, risingS p l = true → (p :: l).Pairwise (fun a b => sLt b a = false)
  | [], p, _ => List.pairwise_singleton _ _
  | x :: r, p, h => by
    unfold risingS at h
    rw [Bool.and_eq_true] at h
    have hx : sLt x p = false := by
      have h1 := h.1
      rw [Bool.not_eq_true', ltCps_eq] at h1
      exact h1
    have hr := rising_pw h.2
    refine List.pairwise_cons.mpr ⟨fun z hz => ?_, hr⟩
    (rcases List.mem_cons.mp hz with rfl | hz)
    · exact hx
    · exact sLt_tr hx ((List.pairwise_cons.mp hr).1 z hz)
theorem srtS_eq {l m : List Str} (p : m.Perm l) (h : sortedS m = true) : m = srt sLt l := by
  refine srt_eq (lt := sLt) (fun _ _ _ => sLt_tr) (fun _ _ => sLt_as) (fun _ _ => sLt_an) p ?_
  cases m with
  | nil => exact .nil
  | cons x r => exact rising_pw h

/-! ## rows of intsD, texts, truths -/
def intsD : List D → Option (List Int)
  | [] => some []
  | .int i :: r => (intsD r).map (i :: ·)
  | _ :: _ => none
def strsD : List D → Option (List Str)
  | [] => some []
  | .str i :: r => (strsD r).map (i :: ·)
  | _ :: _ => none
def blsD : List D → Option (List Bool)
  | [] => some []
  | .bl i :: r => (blsD r).map (i :: ·)
  | _ :: _ => none
theorem ints_ok {F : Hp} : ∀ {l : List D} {xs : List V} {ns : List Int}, RpL K F l xs → intsD l = some ns → xs = ns.map V.int ∧ l = ns.map D.int
  | _, _, ns, .nil, e => by cases e; exact ⟨rfl, rfl⟩
  | d :: ds, _, ns, .cons h r, e => by
    cases d with
    | int i =>
      simp only [intsD, Option.map_eq_some_iff] at e
      obtain ⟨m, e1, rfl⟩ := e
      cases h
      obtain ⟨h1, h2⟩ := ints_ok r e1
      rw [h1, h2]
      exact ⟨rfl, rfl⟩
    | _ => cases e
theorem strs_ok {F : Hp} : ∀ {l : List D} {xs : List V} {ns : List Str}, RpL K F l xs → strsD l = some ns → xs = ns.map V.str ∧ l = ns.map D.str
  | _, _, ns, .nil, e => by cases e; exact ⟨rfl, rfl⟩
  | d :: ds, _, ns, .cons h r, e => by
    cases d with
    | str i =>
      simp only [strsD, Option.map_eq_some_iff] at e
      obtain ⟨m, e1, rfl⟩ := e
      cases h
      obtain ⟨h1, h2⟩ := strs_ok r e1
      rw [h1, h2]
      exact ⟨rfl, rfl⟩
    | _ => cases e
theorem bls_ok {F : Hp} : ∀ {l : List D} {xs : List V} {ns : List Bool}, RpL K F l xs → blsD l = some ns → xs = ns.map V.bl
  | _, _, ns, .nil, e => by cases e; rfl
  | d :: ds, _, ns, .cons h r, e => by
    cases d with
    | bl i =>
      simp only [blsD, Option.map_eq_some_iff] at e
      obtain ⟨m, e1, rfl⟩ := e
      cases h
      rw [bls_ok r e1]
      rfl
    | _ => cases e
theorem rpI {F : Hp} : ∀ ns : List Int, RpL K F (ns.map D.int) (ns.map V.int)
  | [] => .nil
  | n :: ns => .cons (.int n) (rpI ns)
theorem rpS {F : Hp} : ∀ ns : List Str, RpL K F (ns.map D.str) (ns.map V.str)
  | [] => .nil
  | n :: ns => .cons (.str n) (rpS ns)
/-- a list, as it stands -/
def lstD : D → Option (List D)
  | .lst l => some l
  | .rol l => some l
  | _ => none
theorem lst_ok {F H : Hp} (s : Sub F H) {d : D} {v : V} {l : List D} (h : RpP K F H d v) (e : lstD d = some l) : ∃ a xs, v = .ref a ∧ SqL K H a xs ∧ RpL K F l xs := by
  cases d with
  | lst m =>
    cases e
    obtain ⟨a, xs, rfl, h1, r⟩ := h
    exact ⟨a, xs, rfl, SqL.of h1, r⟩
  | rol m =>
    cases e
    cases h with
    | rol h1 r => exact ⟨_, _, rfl, s.l h1, r⟩
  | _ => cases e

/-! ## tuple(x), list(x) -/
def tupD : D → Option Rv
  | .lst l => some (.d (.tup l))
  | .rol l => some (.d (.tup l))
  | .tup l => some (.d (.tup l))
  | .tuk l => some (.d (.tuk l))
  | _ => none
def rTupOf (K : PySem.W.Frag) : List V → Hp → VK → Prop := fun xs H Q => ∃ p ys, xs = [.ref p] ∧ ((SqL K H p ys ∧ ∀ l, H l = none → Q (.ref l) (upd H l (.tup ys))) ∨ (SqT K H p ys ∧ Q (.ref p) H))
theorem cr_tupOf {X : Cx} : CallR X (.type "tuple") (rTupOf X.K) := call_tuple_of
theorem c1_tup : Op1 K (fun x H Q => rTupOf K [x] H Q) tupD := by
  intro F H x dx Q s hx ho
  have hx0 := hx
  have seq : ∀ l, lstD dx = some l → OutOk K F H Q (some (.d (.tup l))) → rTupOf K [x] H Q := fun l h1 ho => by
    obtain ⟨a, xs, rfl, h, r⟩ := lst_ok s hx h1
    exact ⟨a, xs, rfl, .inl ⟨h, outN s ho r⟩⟩
  cases dx with
  | lst l => exact seq l rfl ho
  | rol l => exact seq l rfl ho
  | tup l =>
    cases hx with
    | tup h1 r => exact ⟨_, _, rfl, .inr ⟨s.t (SqT.of h1), outD s ho hx0⟩⟩
  | tuk l =>
    cases hx with
    | tuk h1 r => exact ⟨_, _, rfl, .inr ⟨s.t h1, outD s ho hx0⟩⟩
  | _ => exact ho.elim
def listD (d : D) : Option Rv := (seqD d).map fun l => .o (.lst l)
def rLstOf (K : PySem.W.Frag) : List V → Hp → VK → Prop := fun xs H Q => ∃ p ys, xs = [.ref p] ∧ (SqL K H p ys ∨ SqT K H p ys) ∧ ∀ l, H l = none → Q (.ref l) (upd H l (.lst ys))
theorem cr_lstOf {X : Cx} : CallR X (.type "list") (rLstOf X.K) := call_list_of
theorem c1_lst : Op1 K (fun x H Q => rLstOf K [x] H Q) listD := by
  intro F H x dx Q s hx ho
  unfold listD at ho
  cases e : seqD dx with
  | none => rw [e] at ho; exact ho.elim
  | some l =>
    rw [e] at ho
    obtain ⟨a, xs, rfl, r, h⟩ := hx.seq s e
    refine ⟨a, xs, rfl, ?_, outL s ho r⟩
    rcases h with ⟨h, _⟩ | ⟨h, _⟩
    · exact .inl h
    · exact .inr h

/-! ## int(x), abs(x) -/
def rInt1 : List V → Hp → VK → Prop := fun xs H Q => (∃ i, xs = [.int i] ∧ Q (.int i) H) ∨ ∃ k, xs = [.bl k] ∧ Q (.int (if k then 1 else 0)) H
theorem cr_int1 {X : Cx} : CallR X (.type "int") rInt1 := call_int1
def int1D : D → Option Rv
  | .int i => some (.d (.int i))
  | .bl k => some (.d (.int (if k then 1 else 0)))
  | _ => none
theorem c1_int : Op1 K (fun x H Q => rInt1 [x] H Q) int1D := by
  intro F H x dx Q s hx ho
  cases dx with
  | int i => cases hx; exact .inl ⟨i, rfl, outD s ho (.int _)⟩
  | bl i => cases hx; exact .inr ⟨i, rfl, outD s ho (.int _)⟩
  | _ => exact ho.elim
def rAbs1 : List V → Hp → VK → Prop := fun xs H Q => ∃ i, xs = [.int i] ∧ Q (.int (if i < 0 then -i else i)) H
theorem cr_abs1 {X : Cx} : CallR X (.builtin "abs") rAbs1 := call_abs
def absD : D → Option Rv
  | .int i => some (.d (.int (if i < 0 then -i else i)))
  | _ => none
theorem c1_abs : Op1 K (fun x H Q => rAbs1 [x] H Q) absD := by
  intro F H x dx Q s hx ho
  cases dx with
  | int i => cases hx; exact ⟨i, rfl, outD s ho (.int _)⟩
  | _ => exact ho.elim

/-! ## min, max, sum, all, any, sorted -/
def rMin2 : List V → Hp → VK → Prop := fun xs H Q => ∃ i j, xs = [.int i, .int j] ∧ Q (.int (if j < i then j else i)) H
def rMax2 : List V → Hp → VK → Prop := fun vs H Q => ∃ i j, vs = [.int i, .int j] ∧ Q (.int (if j > i then j else i)) H
theorem cr_min2 {X : Cx} (hc : X.calm = true) : CallR X (.builtin "min") rMin2 := call_min2 hc
theorem cr_max2 {X : Cx} (hc : X.calm = true) : CallR X (.builtin "max") rMax2 := call_max2 hc
def min2D : List D → Option Rv
  | [.int i, .int j] => some (.d (.int (if j < i then j else i)))
  | _ => none
def max2D : List D → Option Rv
  | [.int i, .int j] => some (.d (.int (if j > i then j else i)))
  | _ => none
theorem two_ok {F : Hp} {ds : List D} {vs : List V} {i j : Int} (h : RpL K F ds vs) (e : ds = [.int i, .int j]) : vs = [.int i, .int j] := by
  subst e
  cases h with
  | cons a r =>
    cases a
    cases r with
    | cons b r =>
      cases b
      cases r
      rfl
theorem co_min2 : CallOk K rMin2 min2D := by
  intro F H vs ds Q s h ho
  unfold min2D at ho
  split at ho
  · rename_i i j
    exact ⟨i, j, two_ok h rfl, outD s ho (.int _)⟩
  · exact ho.elim
theorem co_max2 : CallOk K rMax2 max2D := by
  intro F H vs ds Q s h ho
  unfold max2D at ho
  split at ho
  · rename_i i j
    exact ⟨i, j, two_ok h rfl, outD s ho (.int _)⟩
  · exact ho.elim
def least (n : Int) : List Int → Int
  | [] => n
  | m :: r => least (if m < n then m else n) r
def most (n : Int) : List Int → Int
  | [] => n
  | m :: r => most (if m > n then m else n) r
theorem least_le : ∀ (l : List Int) (n : Int), (least n l = n ∨ least n l ∈ l) ∧ least n l ≤ n ∧ ∀ y ∈ l, least n l ≤ y
  | [], n => ⟨.inl rfl, Int.le_refl _, fun _ h => by cases h⟩
  | m :: r, n => by
    obtain ⟨h1, h2, h3⟩ := least_le r (if m < n then m else n)
    simp only [least]
    refine ⟨?_, ?_, fun y hy => ?_⟩
    · rcases h1 with h1 | h1
      · rw [h1]
        split
        · exact .inr List.mem_cons_self
        · exact .inl rfl
      · exact .inr (List.mem_cons_of_mem _ h1)
    · have q : (if m < n then m else n) ≤ n := by split <;> omega
      omega
    · (rcases List.mem_cons.mp hy with rfl | hy)
      · have q : (if y < n then y else n) ≤ y := by split <;> omega
        omega
      · exact h3 y hy
theorem most_le : ∀ (l : List Int) (n : Int), (most n l = n ∨ most n l ∈ l) ∧ n ≤ most n l ∧ ∀ y ∈ l, y ≤ most n l
  | [], n => ⟨.inl rfl, Int.le_refl _, fun _ h => by cases h⟩
  | m :: r, n => by
    obtain ⟨h1, h2, h3⟩ := most_le r (if m > n then m else n)
    simp only [most]
    refine ⟨?_, ?_, fun y hy => ?_⟩
    · rcases h1 with h1 | h1
      · rw [h1]
        split
        · exact .inr List.mem_cons_self
        · exact .inl rfl
      · exact .inr (List.mem_cons_of_mem _ h1)
    · have q : n ≤ (if m > n then m else n) := by split <;> omega
      omega
    · (rcases List.mem_cons.mp hy with rfl | hy)
      · have q : y ≤ (if y > n then y else n) := by split <;> omega
        omega
      · exact h3 y hy
def minD (d : D) : Option Rv := (lstD d).bind fun l => (intsD l).bind fun ns => match ns with
  | [] => none
  | n :: r => some (.d (.int (least n r)))
def maxD (d : D) : Option Rv := (lstD d).bind fun l => (intsD l).bind fun ns => match ns with
  | [] => none
  | n :: r => some (.d (.int (most n r)))
theorem c1_min : Op1 K (fun x H Q => rMin K [x] H Q) minD := by
  intro F H x dx Q s hx ho
  unfold minD at ho
  cases e : lstD dx with
  | none => rw [e] at ho; exact ho.elim
  | some l =>
    cases e2 : intsD l with
    | none => rw [e, Option.bind_some, e2] at ho; exact ho.elim
    | some ns =>
      rw [e, Option.bind_some, e2, Option.bind_some] at ho
      obtain ⟨a, xs, rfl, h, r⟩ := lst_ok s hx e
      obtain ⟨rfl, _⟩ := ints_ok r e2
      cases ns with
      | nil => exact ho.elim
      | cons n r' =>
        refine ⟨a, n :: r', rfl, h, Nat.succ_pos _, fun m hm hle => ?_⟩
        obtain ⟨h1, h2, h3⟩ := least_le r' n
        have : m = least n r' := by
          have a1 : m ≤ least n r' := by
            rcases h1 with h1 | h1
            · rw [h1]; exact hle _ List.mem_cons_self
            · exact hle _ (List.mem_cons_of_mem _ h1)
          have a2 : least n r' ≤ m := by
            (rcases List.mem_cons.mp hm with rfl | hm)
            · exact h2
            · exact h3 m hm
          omega
        rw [this]
        exact outD s ho (.int _)
theorem c1_max : Op1 K (fun x H Q => rMax K [x] H Q) maxD := by
  intro F H x dx Q s hx ho
  unfold maxD at ho
  cases e : lstD dx with
  | none => rw [e] at ho; exact ho.elim
  | some l =>
    cases e2 : intsD l with
    | none => rw [e, Option.bind_some, e2] at ho; exact ho.elim
    | some ns =>
      rw [e, Option.bind_some, e2, Option.bind_some] at ho
      obtain ⟨a, xs, rfl, h, r⟩ := lst_ok s hx e
      obtain ⟨rfl, _⟩ := ints_ok r e2
      cases ns with
      | nil => exact ho.elim
      | cons n r' =>
        refine ⟨a, n :: r', rfl, h, Nat.succ_pos _, fun m hm hle => ?_⟩
        obtain ⟨h1, h2, h3⟩ := most_le r' n
        have : m = most n r' := by
          have a1 : most n r' ≤ m := by
            rcases h1 with h1 | h1
            · rw [h1]; exact hle _ List.mem_cons_self
            · exact hle _ (List.mem_cons_of_mem _ h1)
          have a2 : m ≤ most n r' := by
            (rcases List.mem_cons.mp hm with rfl | hm)
            · exact h2
            · exact h3 m hm
          omega
        rw [this]
        exact outD s ho (.int _)
def sumD (d : D) : Option Rv := (lstD d).bind fun l => (intsD l).map fun ns => .d (.int ns.sum)
theorem c1_sum : Op1 K (fun x H Q => rSum K [x] H Q) sumD := by
  intro F H x dx Q s hx ho
  unfold sumD at ho
  cases e : lstD dx with
  | none => rw [e] at ho; exact ho.elim
  | some l =>
    cases e2 : intsD l with
    | none => rw [e, Option.bind_some, e2] at ho; exact ho.elim
    | some ns =>
      rw [e, Option.bind_some, e2] at ho
      obtain ⟨a, xs, rfl, h, r⟩ := lst_ok s hx e
      obtain ⟨rfl, _⟩ := ints_ok r e2
      exact ⟨a, ns, rfl, h, outD s ho (.int _)⟩
def allB (d : D) : Option Rv := (lstD d).bind fun l => (blsD l).map fun ns => .d (.bl (ns.all id))
def anyB (d : D) : Option Rv := (lstD d).bind fun l => (blsD l).map fun ns => .d (.bl (ns.any id))
theorem c1_all : Op1 K (fun x H Q => rAll K [x] H Q) allB := by
  intro F H x dx Q s hx ho
  unfold allB at ho
  cases e : lstD dx with
  | none => rw [e] at ho; exact ho.elim
  | some l =>
    cases e2 : blsD l with
    | none => rw [e, Option.bind_some, e2] at ho; exact ho.elim
    | some ns =>
      rw [e, Option.bind_some, e2] at ho
      obtain ⟨a, xs, rfl, h, r⟩ := lst_ok s hx e
      have hr := bls_ok r e2
      subst hr
      exact ⟨a, ns, rfl, h, outD s ho (.bl _)⟩
theorem c1_any : Op1 K (fun x H Q => rAny K [x] H Q) anyB := by
  intro F H x dx Q s hx ho
  unfold anyB at ho
  cases e : lstD dx with
  | none => rw [e] at ho; exact ho.elim
  | some l =>
    cases e2 : blsD l with
    | none => rw [e, Option.bind_some, e2] at ho; exact ho.elim
    | some ns =>
      rw [e, Option.bind_some, e2] at ho
      obtain ⟨a, xs, rfl, h, r⟩ := lst_ok s hx e
      have hr := bls_ok r e2
      subst hr
      exact ⟨a, ns, rfl, h, outD s ho (.bl _)⟩
/-- sorted of intsD, of fewer than 64 texts -/
def sortD (d : D) : Option Rv := (lstD d).bind fun l => match intsD l with
  | some ns => some (.o (.lst ((srt iLt ns).map .int)))
  | none => (strsD l).bind fun zs => if zs.length < 64 then some (.o (.lst ((srt sLt zs).map .str))) else none
def rSortA (K : PySem.W.Frag) : List V → Hp → VK → Prop := fun vs H Q => rSortedI K vs H Q ∨ rSortedS K vs H Q
theorem cr_sortA {X : Cx} : CallR X (.builtin "sorted") (rSortA X.K) := callr_or cr_sortedI cr_sortedS
theorem c1_sort : Op1 K (fun x H Q => rSortA K [x] H Q) sortD := by
  intro F H x dx Q s hx ho
  unfold sortD at ho
  cases e : lstD dx with
  | none => rw [e] at ho; exact ho.elim
  | some l =>
    rw [e, Option.bind_some] at ho
    obtain ⟨a, xs, rfl, h, r⟩ := lst_ok s hx e
    cases e2 : intsD l with
    | some ns =>
      rw [e2] at ho
      obtain ⟨rfl, _⟩ := ints_ok r e2
      refine .inl ⟨a, ns, rfl, h, fun ns' p h1 h2 hp => ?_⟩
      rw [srtI_eq h1 h2]
      exact outL s ho (rpI _) p hp
    | none =>
      rw [e2] at ho
      cases e3 : strsD l with
      | none => rw [e3] at ho; exact ho.elim
      | some zs =>
        rw [e3] at ho
        obtain ⟨rfl, _⟩ := strs_ok r e3
        have ho' : OutOk K F H Q (if zs.length < 64 then some (.o (.lst ((srt sLt zs).map .str))) else none) := ho
        split at ho'
        · rename_i hz
          refine .inr ⟨a, zs, rfl, h, hz, fun ys p h1 h2 hp => ?_⟩
          rw [srtS_eq h1 h2]
          exact outL s ho' (rpS _) p hp
        · exact ho'.elim

/-! ## sep.join(texts), the separator a constant -/
def joinD (a : Str) (y : D) : Option Rv := (seqD y).bind fun l => (strsD l).bind fun zs => if (zs.map (·.length)).sum + zs.length * a.length ≤ 16777216 then some (.d (.str (Txt.join a zs))) else none
def rJoin (K : PySem.W.Frag) : V → List V → Hp → VK → Prop := fun x xs H Q => ∃ a p, ∃ ys : List Str, x = .str a ∧ xs = [.ref p] ∧ (SqL K H p (ys.map V.str) ∨ SqT K H p (ys.map V.str)) ∧
      (ys.map (·.length)).sum + ys.length * a.length ≤ 16777216 ∧ Q (.str (Txt.join a ys)) H
theorem ev_join {W : WX} {a : Str} {tb : TE} {mb : M Rv} (hb : EvX K W tb mb) : EvX K W (tM1 (rJoin K) (tC (.str a)) tb) (mUn (joinD a) mb) := by
  intro F H σ s Q rs w
  refine ⟨⟨a, rfl⟩, hb.step (Go.refl rs) w fun r1 s1 v1 F1 H1 g1 _ h1 w1 => ?_⟩
  obtain ⟨x, ex, w3⟩ := opt_wn w1
  have ho := out_ok g1 w3
  have hp := pk_ok g1.rs h1 ex
  unfold joinD at ho
  cases e : seqD x with
  | none => rw [e] at ho; exact ho.elim
  | some l =>
    rw [e, Option.bind_some] at ho
    obtain ⟨p, xs, rfl, r, h⟩ := hp.seq g1.rs.sub e
    cases e3 : strsD l with
    | none => rw [e3] at ho; exact ho.elim
    | some zs =>
      rw [e3, Option.bind_some] at ho
      obtain ⟨rfl, _⟩ := strs_ok r e3
      split at ho
      · rename_i hz
        refine ⟨a, p, zs, rfl, rfl, ?_, hz, outD g1.rs.sub ho (.str _)⟩
        rcases h with ⟨h, _⟩ | ⟨h, _⟩
        · exact .inl h
        · exact .inr h
      · exact ho.elim
end Cz

/-! # CzN -/
namespace Cz
open L2 PyProof.Rows PySem.Spec PySem
variable {K : PySem.W.Frag}

/-! ## to write to what a name holds -/
def SV.put : SV → OD → SV
  | .fz d, _ => .fz d
  | .ow _, o => .ow o
  | .br _, o => .br o
theorem SV.put_own {sv : SV} {o o' : OD} (h : SV.own sv = some o) : SV.own (sv.put o') = some o' := by
  cases sv with
  | fz d => cases h
  | ow _ => rfl
  | br _ => rfl
theorem Go.put {F0 H0 F H : Hp} {σ0 σ : L2.St} {s0 s : SS} {i : Nat} {sv : SV} {o o' : OD} {p : Addr} {ho : HO} (g : Go K F0 H0 σ0 s0 F H σ s) (hs : s[i]? = some (some sv)) (hw : SV.own sv = some o) (hσ : σ[i]? = some (some (.ref p))) (r : RpO K F o' ho) :
    Go K F0 H0 σ0 s0 F (upd H p ho) σ (s.set i (some (sv.put o'))) := by
  obtain ⟨p', ho0, b1, b2, b3, _⟩ := g.rs.ow i sv o hs hw
  rw [hσ] at b1
  cases b1
  have si : (s.set i (some (sv.put o')))[i]? = some (some (sv.put o')) := get_set_eq hs
  have own : ∀ (j : Nat) (sj : SV) (oj : OD), (s.set i (some (sv.put o')))[j]? = some (some sj) → SV.own sj = some oj → ∃ sk ok', s[j]? = some (some sk) ∧ SV.own sk = some ok' := fun j sj oj h1 h2 => by
    by_cases nj : j = i
    · subst nj
      exact ⟨_, _, hs, hw⟩
    · rw [get_set_ne (Ne.symm nj)] at h1
      exact ⟨_, _, h1, h2⟩
  refine ⟨⟨fun a u h => ?_, by rw [List.length_set]; exact g.rs.len, fun j d h => ?_, fun j sj oj h1 h2 => ?_, fun j k sj sk oj ok' q h1 h2 h3 h4 h5 h6 => ?_⟩, g.fr, fun a u h n => ?_, g.nw, fun a w => ?_, fun j u h => ?_, fun a h => ?_⟩
  · have na : a ≠ p := fun z => by
      subst z
      rw [b2] at h
      cases h
    rw [upd_ne na]
    exact g.rs.sub _ _ h
  · have nj : j ≠ i := fun z => by
      subst z
      rw [si] at h
      cases sv with
      | fz d => cases hw
      | ow _ => cases h
      | br _ => cases h
    rw [get_set_ne (Ne.symm nj)] at h
    exact g.rs.fz j d h
  · by_cases nj : j = i
    · subst nj
      rw [si] at h1
      cases h1
      rw [SV.put_own hw] at h2
      cases h2
      exact ⟨p, ho, hσ, b2, upd_same, r⟩
    · rw [get_set_ne (Ne.symm nj)] at h1
      obtain ⟨q, hq, c1, c2, c3, c4⟩ := g.rs.ow j sj oj h1 h2
      have nq : q ≠ p := fun z => nj (g.rs.ne j i sj sv oj o p h1 h2 hs hw (by rw [← z]; exact c1) hσ)
      exact ⟨q, hq, c1, c2, by rw [upd_ne nq]; exact c3, c4⟩
  · obtain ⟨_, _, a1, a2⟩ := own j sj oj h1 h2
    obtain ⟨_, _, c1, c2⟩ := own k sk ok' h3 h4
    exact g.rs.ne j k _ _ _ _ q a1 a2 c1 c2 h5 h6
  · have na : a ≠ p := fun z => by
      subst z
      rcases g.ow a ⟨i, sv, o, hs, hw, hσ⟩ with q | q
      · exact n q
      · rw [h] at q; cases q
    rw [upd_ne na]
    exact g.kp a u h n
  · obtain ⟨j, sj, oj, h1, h2, h3⟩ := w
    obtain ⟨sk, ok', a1, a2⟩ := own j sj oj h1 h2
    exact g.ow a ⟨j, sk, ok', a1, a2, h3⟩
  · obtain ⟨e, o2, h2⟩ := g.br j u h
    refine ⟨e, ?_⟩
    by_cases nj : j = i
    · subst nj
      rw [hs] at h2
      cases h2
      exact ⟨o', si⟩
    · exact ⟨o2, by rw [get_set_ne (Ne.symm nj)]; exact h2⟩
  · have na : a ≠ p := fun z => by
      subst z
      rw [upd_same] at h
      cases h
    rw [upd_ne na] at h
    exact g.dm a h
/-- what the i-th name holds of its own, or lent -/
def ownAt (s : SS) (i : Nat) : Option (SV × OD) := match s[i]? with
  | some (some sv) => (SV.own sv).map fun o => (sv, o)
  | _ => none
theorem ownAt_ok {F H : Hp} {σ : L2.St} {s : SS} {i : Nat} {sv : SV} {o : OD} (r : RS K F H σ s) (h : ownAt s i = some (sv, o)) : s[i]? = some (some sv) ∧ SV.own sv = some o ∧ ∃ p ho, σ[i]? = some (some (.ref p)) ∧ F p = none ∧ H p = some ho ∧ RpO K F o ho := by
  unfold ownAt at h
  split at h
  · rename_i sv' e
    rw [Option.map_eq_some_iff] at h
    obtain ⟨o', e1, e2⟩ := h
    cases e2
    exact ⟨e, e1, r.ow i sv o e e1⟩
  · cases h
def lstAt (s : SS) (i : Nat) : Option (SV × List D) := (ownAt s i).bind fun p => match p.2 with
  | .lst l => some (p.1, l)
  | _ => none
theorem lstAt_ok {F H : Hp} {σ : L2.St} {s : SS} {i : Nat} {sv : SV} {l : List D} (r : RS K F H σ s) (h : lstAt s i = some (sv, l)) : s[i]? = some (some sv) ∧ SV.own sv = some (.lst l) ∧ ∃ p xs, σ[i]? = some (some (.ref p)) ∧ F p = none ∧ H p = some (.lst xs) ∧ RpL K F l xs := by
  unfold lstAt at h
  rw [Option.bind_eq_some_iff] at h
  obtain ⟨⟨sv', o⟩, h1, h2⟩ := h
  cases o with
  | lst m =>
    cases h2
    obtain ⟨a1, a2, p, ho, a3, a4, a5, a6⟩ := ownAt_ok r h1
    cases a6 with
    | lst r => exact ⟨a1, a2, p, _, a3, a4, a5, r⟩
  | _ => cases h2

/-! ### x[i] = e, x a name's list -/
def mSetL (i : Nat) (me mi : M Rv) : MS := fun s => (me s).out fun r s1 => (frz r s1).out fun d s2 => optO (ownAt s2 i) fun _ => (mi s2).out fun k s3 => optO ((pk k s3).bind intOf) fun k => optO (lstAt s3 i) fun p => optO (ixN p.2.length k) fun j => .nx (s3.set i (some (p.1.put (.lst (p.2.set j d)))))
theorem EvX.stepS2 {W : WX} {te : TE} {m : M Rv} (h : EvX K W te m) {F0 H0 F H : Hp} {σ : L2.St} {s0 s : SS} {D : Ends} {Q1 : VK} {f : Rv → SS → Out} (g : Go K F0 H0 σ s0 F H σ s) (w : WnS K W D F0 H0 σ s0 ((m s).out f))
    (k : ∀ r s1 v F1 H1, Go K F0 H0 σ s0 F1 H1 σ s1 → Go K F H σ s F1 H1 σ s1 → RpR K H F1 H1 σ s1 r v → WnS K W D F0 H0 σ s0 (f r s1) → Q1 v H1) : te σ H Q1 := by
  refine h F H σ s Q1 g.rs ?_
  cases e : m s with
  | ok r s1 =>
    rw [e] at w
    exact fun v F1 H1 g1 r1 => k r s1 v F1 H1 (g.trans g1) g1 r1 w
  | ex c l s1 =>
    rw [e] at w
    exact fun dd F1 H1 xs g1 => w dd σ F1 H1 xs (g.trans g1)
  | no =>
    rw [e] at w
    exact w
theorem int_ok {H0 F H : Hp} {σ : L2.St} {s : SS} {r : Rv} {v : V} {k : Int} (rs : RS K F H σ s) (h : RpR K H0 F H σ s r v) (e : (pk r s).bind intOf = some k) : v = .int k := by
  rw [Option.bind_eq_some_iff] at e
  obtain ⟨d, e1, e2⟩ := e
  have hp := pk_ok rs h e1
  cases d with
  | int j =>
    cases e2
    cases hp
    rfl
  | _ => cases e2
theorem es_setL {W : WX} {i : Nat} {te ti : TE} {me mi : M Rv} (he : EvX K W te me) (hi : EvX K W ti mi) : EvS K W (tAsg te (gSub (tVar i) ti rSetL)) (mSetL i me mi) := by
  intro F H σ s D rs w
  refine he.stepS2 (Go.refl rs) w fun r s1 v F1 H1 g1 _ h1 w1 => ?_
  obtain ⟨d, s2, e, w2⟩ := frz_out w1
  obtain ⟨F2, g2, _, hd⟩ := frz_ok g1 h1 e
  obtain ⟨⟨sv0, o0⟩, e0, w3⟩ := optO_wn w2
  obtain ⟨_, _, p0, _, hp0, _⟩ := ownAt_ok g2.rs e0
  refine ⟨.ref p0, hp0, hi.stepS2 g2 w3 fun k s3 u F3 H3 g3 g23 h3 w4 => ?_⟩
  obtain ⟨kk, ek, w5⟩ := optO_wn w4
  obtain ⟨⟨sv, l⟩, el, w6⟩ := optO_wn w5
  obtain ⟨j, ej, w7⟩ := optO_wn w6
  obtain ⟨a1, a2, p, xs, a3, a4, a5, a6⟩ := lstAt_ok g3.rs el
  rw [hp0] at a3
  cases a3
  have ej' : ixN xs.length kk = some j := by rw [← a6.length]; exact ej
  refine ⟨p0, xs, kk, j, rfl, int_ok g3.rs h3 ek, a5, ej', ?_⟩
  exact w7 σ F3 _ (g3.put a1 a2 hp0 (RpO.lst (a6.set (hd.mono g23.fr) j)))

/-! ### methods of a name's list -/
/-- f: the arguments and the list, to what is given and the list behind it -/
def LmOk (K : PySem.W.Frag) (r : V → List V → Hp → VK → Prop) (f : List D → List D → Option (D × List D)) : Prop := ∀ F H (p : Addr) (as l : List D) (vs xs : List V) (d : D) (l' : List D) Q, Sub F H → F p = none → H p = some (.lst xs) → RpL K F as vs → RpL K F l xs → f as l = some (d, l') →
  (∀ y ys, Rp K F d y → RpL K F l' ys → Q y (upd H p (.lst ys))) → r (.ref p) vs H Q
def mLm (i : Nat) (f : List D → List D → Option (D × List D)) (ma : M (List Rv)) : M Rv := fun s => opt (lstAt s i) fun _ => (ma s).bind fun rs s1 => opt (allD rs) fun as => opt (lstAt s1 i) fun p => opt (f as p.2) fun q => .ok (.d q.1) (s1.set i (some (p.1.put (.lst q.2))))
theorem ev_lm {W : WX} {i : Nat} {r : V → List V → Hp → VK → Prop} {f : List D → List D → Option (D × List D)} {t : TA} {ma : M (List Rv)} (hr : LmOk K r f) (ha : EvA K W t ma) : EvX K W (tBM K "list" r (tVar i) t) (mLm i f ma) := by
  intro F H σ s Q rs w
  obtain ⟨⟨sv0, l0⟩, e0, w1⟩ := opt_wn w
  obtain ⟨_, _, p0, xs0, hp0, _, hq0, _⟩ := lstAt_ok rs e0
  refine ⟨.ref p0, hp0, .inl ⟨rfl, xs0, SqL.of hq0⟩, ha.step (Go.refl rs) w1 fun rvs s1 vs F1 H1 g1 _ h1 w2 => ?_⟩
  obtain ⟨as, ea, w3⟩ := opt_wn w2
  obtain ⟨⟨sv, l⟩, el, w4⟩ := opt_wn w3
  obtain ⟨⟨d, l'⟩, ef, w5⟩ := opt_wn w4
  obtain ⟨a1, a2, p, xs, a3, a4, a5, a6⟩ := lstAt_ok g1.rs el
  rw [hp0] at a3
  cases a3
  exact hr F1 H1 p0 as l vs xs d l' Q g1.rs.sub a4 a5 (allD_ok h1 ea) a6 ef fun y ys hy hys => w5 y F1 _ (g1.put a1 a2 hp0 (RpO.lst hys)) hy
def appendF : List D → List D → Option (D × List D)
  | [d], l => if l.length < 100000 then some (.non, l ++ [d]) else none
  | _, _ => none
theorem lm_append : LmOk K rAppend appendF := by
  intro F H p as l vs xs d l' Q s hF hH ha hl e q
  unfold appendF at e
  split at e
  · split at e
    · rename_i a hz
      cases e
      cases ha with
      | cons h r =>
        cases r
        refine ⟨p, xs, _, rfl, rfl, hH, ?_, q _ _ .non (hl.append (.cons h .nil))⟩
        rw [← hl.length]
        exact Nat.lt_of_lt_of_le hz (by decide)
    · cases e
  · cases e
def extendF : List D → List D → Option (D × List D)
  | [.lst m], l => if small (l.length + m.length) then some (.non, l ++ m) else none
  | _, _ => none
theorem lm_extend : LmOk K rExtend extendF := by
  intro F H p as l vs xs d l' Q s hF hH ha hl e q
  unfold extendF at e
  split at e
  · split at e
    · rename_i m hz
      cases e
      cases ha with
      | cons h r =>
        cases r
        cases h with
        | lst h1 r1 =>
          refine ⟨p, _, xs, _, rfl, rfl, hH, s _ _ h1, ?_, q _ _ .non (hl.append r1)⟩
          rw [← hl.length, ← r1.length]
          exact small_le hz
    · cases e
  · cases e
theorem RpL.eraseIdx {F : Hp} : ∀ {l : List D} {xs : List V} (i : Nat), RpL K F l xs → RpL K F (l.eraseIdx i) (xs.eraseIdx i)
  | _, _, _, .nil => .nil
  | _, _, 0, .cons _ r => r
  | _, _, i + 1, .cons h r => .cons h (r.eraseIdx i)
theorem RpL.dropLast {F : Hp} : ∀ {l : List D} {xs : List V}, RpL K F l xs → RpL K F l.dropLast xs.dropLast
  | _, _, .nil => .nil
  | _, _, .cons _ .nil => .nil
  | _, _, .cons h (.cons h2 r) => .cons h (RpL.dropLast (.cons h2 r))
def popF : List D → List D → Option (D × List D)
  | [], l => match l.getLast? with
    | some d => some (d, l.dropLast)
    | none => none
  | [.int i], l => if -(2 ^ 63) ≤ i ∧ i < 2 ^ 63 then (seqIndex? i l.length).bind fun k => (l[k]?).map fun d => (d, l.eraseIdx k) else none
  | _, _ => none
def rPopA : V → List V → Hp → VK → Prop := fun x vs H Q => rPop x vs H Q ∨ rPopAt x vs H Q
theorem mt_popA {X : Cx} : MtR X "list.pop" rPopA := MtR.or mt_pop mt_popAt
theorem mt_appendA {X : Cx} : MtR X "list.append" rAppend := mt_append
theorem mt_extendA {X : Cx} : MtR X "list.extend" rExtend := mt_extend
theorem lm_pop : LmOk K rPopA popF := by
  intro F H p as l vs xs d l' Q s hF hH ha hl e q
  unfold popF at e
  split at e
  · cases ha
    split at e
    · rename_i d' hd
      cases e
      left
      rw [List.getLast?_eq_getElem?] at hd
      obtain ⟨v, h1, h2⟩ := hl.get hd
      rw [hl.length] at h1
      exact ⟨p, xs, v, rfl, rfl, hH, h1, q _ _ h2 hl.dropLast⟩
    · cases e
  · rename_i i
    split at e
    · rename_i hb
      rw [Option.bind_eq_some_iff] at e
      obtain ⟨k, e1, e2⟩ := e
      rw [Option.map_eq_some_iff] at e2
      obtain ⟨d', e3, e4⟩ := e2
      cases e4
      cases ha with
      | cons h r =>
        cases r
        cases h
        obtain ⟨v, h1, h2⟩ := hl.get e3
        rw [hl.length] at e1
        exact .inr ⟨p, xs, i, k, v, rfl, rfl, hH, hb.1, hb.2, e1, h1, q _ _ h2 (hl.eraseIdx k)⟩
    · cases e
  · cases e

/-! ### x op= e, ints -/
def mAugI (i : Nat) (f : Int → Int → Int) (me : M Rv) : MS := fun s => match s[i]? with
  | some (some (.fz (.int a))) => (me s).out fun r s1 => optO ((pk r s1).bind intOf) fun b => if free s1 i then .nx (s1.set i (some (.fz (.int (f a b))))) else .no
  | _ => .no
theorem es_augI {W : WX} {i : Nat} {f : Int → Int → Int} {te : TE} {me : M Rv} (h : EvX K W te me) : EvS K W (tAug i te (ipI f)) (mAugI i f me) := by
  intro F H σ s D rs w
  unfold mAugI at w
  split at w
  · rename_i a e
    obtain ⟨v, e1, e2⟩ := rs.fz i _ e
    cases e2
    refine ⟨_, e1, h.stepS rs w fun r s1 u F1 H1 g1 h1 w1 => ?_⟩
    obtain ⟨b, eb, w2⟩ := optO_wn w1
    refine ⟨a, b, rfl, int_ok g1.rs h1 eb, ?_⟩
    split at w2
    · rename_i hf
      exact w2 _ F1 H1 (g1.setD hf (.int _))
    · exact w2.elim
  · exact w.elim
end Cz

/-! # CzO -/
namespace Cz
open L2 PyProof.Rows PySem.Spec PySem
variable {K : PySem.W.Frag}

/-! ## tables of data -/
theorem paired_app {α β : Type} {R : α → β → Prop} {a a' : List α} {b b' : List β} (h : Paired R a b) (h' : Paired R a' b') : Paired R (a ++ a') (b ++ b') := by
  induction h with
  | nil => exact h'
  | cons x t ih => exact .cons x ih
section
variable {κ : Type} [q0 : DecidableEq κ]
def valD (l : List (κ × D)) (k : κ) : Option D := (l.find? fun kv => decide (kv.1 = k)).map (·.2)
def putD (l : List (κ × D)) (k : κ) (d : D) : List (κ × D) :=
  if (l.any fun kv => decide (kv.1 = k)) = true then l.map (fun kv => if kv.1 = k then (kv.1, d) else kv) else l ++ [(k, d)]
/-- keys alike, values told -/
def RpX (K : PySem.W.Frag) (F : Hp) (l : List (κ × D)) (kvs : List (κ × V)) : Prop := Paired (fun (p : κ × D) (q : κ × V) => p.1 = q.1 ∧ Rp K F p.2 q.2) l kvs
theorem RpX.val {F : Hp} {l : List (κ × D)} {kvs : List (κ × V)} (r : RpX K F l kvs) (k : κ) : (valD l k = none ∧ valV kvs k = none) ∨ ∃ d v, valD l k = some d ∧ valV kvs k = some v ∧ Rp K F d v := by
  unfold RpX at r
  induction r with
  | nil => (exact .inl ⟨rfl, rfl⟩)
  | @cons p q ps qs h t ih =>
    obtain ⟨h1, h2⟩ := h
    by_cases e : p.1 = k
    · refine .inr ⟨p.2, q.2, ?_, valV_pos (h1.symm.trans e), h2⟩
      simp [valD, List.find?_cons, e]
    · have e1 : valD (p :: ps) k = valD ps k := by simp [valD, List.find?_cons, e]
      rw [e1, valV_neg (fun z => e (h1.trans z))]
      exact ih
theorem RpX.any {F : Hp} {l : List (κ × D)} {kvs : List (κ × V)} (r : RpX K F l kvs) (k : κ) : (l.any fun kv => decide (kv.1 = k)) = (kvs.any fun kv => decide (kv.1 = k)) := by
  unfold RpX at r
  induction r with
  | nil => rfl
  | @cons p q ps qs h t ih =>
    obtain ⟨h1, h2⟩ := h
    rw [List.any_cons, List.any_cons, ih, h1]
theorem RpX.put {F : Hp} {l : List (κ × D)} {kvs : List (κ × V)} {d : D} {v : V} (r : RpX K F l kvs) (k : κ) (h : Rp K F d v) : RpX K F (putD l k d) (putK kvs k v) := by
  unfold putD putK
  rw [r.any k]
  by_cases e : (kvs.any fun kv => decide (kv.1 = k)) = true
  · rw [if_pos e, if_pos e]
    unfold RpX at r ⊢
    induction r with
    | nil => exact .nil
    | @cons p q ps qs hq t ih =>
      obtain ⟨h1, h2⟩ := hq
      (rw [List.map_cons, List.map_cons])
      have ih' : Paired (fun (p : κ × D) (q : κ × V) => p.1 = q.1 ∧ Rp K F p.2 q.2) (ps.map fun kv => if kv.1 = k then (kv.1, d) else kv) (qs.map fun kv => if kv.1 = k then (kv.1, v) else kv) := by
        clear ih e
        induction t with
        | nil => exact .nil
        | @cons p q ps qs hq t ih =>
          obtain ⟨h1, h2⟩ := hq
          (rw [List.map_cons, List.map_cons])
          refine .cons ?_ ih
          by_cases z : p.1 = k
          · rw [if_pos z, if_pos (h1.symm.trans z)]
            exact ⟨h1, h⟩
          · rw [if_neg z, if_neg (fun y => z (h1.trans y))]
            exact ⟨h1, h2⟩
      refine .cons ?_ ih'
      by_cases z : p.1 = k
      · rw [if_pos z, if_pos (h1.symm.trans z)]
        exact ⟨h1, h⟩
      · rw [if_neg z, if_neg (fun y => z (h1.trans y))]
        exact ⟨h1, h2⟩
  · rw [if_neg e, if_neg e]
    exact paired_app r (.cons ⟨rfl, h⟩ .nil)
end
theorem RpK.x {F : Hp} : ∀ {l : List (Key × D)} {kvs : List (Key × V)}, RpK K F l kvs → RpX K F l kvs
  | _, _, .nil => .nil
  | _, _, .cons h r => .cons ⟨rfl, h⟩ r.x
theorem RpK.of {F : Hp} : ∀ {l : List (Key × D)} {kvs : List (Key × V)}, RpX K F l kvs → RpK K F l kvs
  | _, _, .nil => .nil
  | (_, _) :: _, (_, _) :: _, .cons ⟨rfl, h⟩ r => .cons h (RpK.of r)
theorem RpT.x {F : Hp} : ∀ {l : List (List Key × D)} {kvs : List (List Key × V)}, RpT K F l kvs → RpX K F l kvs
  | _, _, .nil => .nil
  | _, _, .cons h r => .cons ⟨rfl, h⟩ r.x
theorem RpT.of {F : Hp} : ∀ {l : List (List Key × D)} {kvs : List (List Key × V)}, RpX K F l kvs → RpT K F l kvs
  | _, _, .nil => .nil
  | (_, _) :: _, (_, _) :: _, .cons ⟨rfl, h⟩ r => .cons h (RpT.of r)
theorem RpX.length {κ : Type} {F : Hp} {l : List (κ × D)} {kvs : List (κ × V)} (r : RpX K F l kvs) : l.length = kvs.length := Paired.length r

/-! ## keys -/
def keyK : D → Option Key
  | .int i => some (.inl i)
  | .str x => some (.inr x)
  | _ => none
def keysK : List D → Option (List Key)
  | [] => some []
  | d :: ds => (keyK d).bind fun k => (keysK ds).map (k :: ·)
def keyT : D → Option (List Key)
  | .tup l => keysK l
  | _ => none
theorem keyK_ok {F H : Hp} {d : D} {v : V} {k : Key} (h : RpP K F H d v) (e : keyK d = some k) : v = kV k := by
  cases d with
  | int i => cases e; cases h; rfl
  | str i => cases e; cases h; rfl
  | _ => cases e
theorem keyK_rp {F : Hp} {d : D} {v : V} {k : Key} (h : Rp K F d v) (e : keyK d = some k) : v = kV k := by
  cases d with
  | int i => cases e; cases h; rfl
  | str i => cases e; cases h; rfl
  | _ => cases e
theorem keysK_ok {F : Hp} : ∀ {l : List D} {xs : List V} {ks : List Key}, RpL K F l xs → keysK l = some ks → xs = ks.map kV
  | _, _, ks, .nil, e => by cases e; rfl
  | _, _, ks, .cons h r, e => by
    simp only [keysK, Option.bind_eq_some_iff, Option.map_eq_some_iff] at e
    obtain ⟨k, e1, m, e2, rfl⟩ := e
    rw [keyK_rp h e1, keysK_ok r e2]
    rfl
theorem keyT_ok {F H : Hp} (s : Sub F H) {d : D} {v : V} {ks : List Key} (h : RpP K F H d v) (e : keyT d = some ks) : ∃ b, v = .ref b ∧ H b = some (.tup (ks.map kV)) := by
  cases d with
  | tup l =>
    cases h with
    | tup h1 r =>
      have q := keysK_ok r e
      subst q
      exact ⟨_, rfl, s _ _ h1⟩
  | _ => cases e

/-! ## to look things up -/
/-- what the dict x has at y: none: nothing can be told; some none: nothing -/
def dgetD (x y : D) : Option (Option D) := match x with
  | .dk l => (keyK y).map fun k => valD l k
  | .dt l => (keyT y).map fun k => valD l k
  | _ => none
theorem dget_ok {F H : Hp} (s : Sub F H) {x y : V} {dx dy : D} {o : Option D} (hx : RpP K F H dx x) (hy : RpP K F H dy y) (e : dgetD dx dy = some o) : ∃ a ov, x = .ref a ∧ IsD H a ∧ DGet H a y ov ∧ ((o = none ∧ ov = none) ∨ ∃ d v, o = some d ∧ ov = some v ∧ Rp K F d v) := by
  cases dx with
  | dk l =>
    obtain ⟨a, kvs, rfl, h1, r⟩ := hx
    simp only [dgetD, Option.map_eq_some_iff] at e
    obtain ⟨k, e1, e2⟩ := e
    subst e2
    exact ⟨a, valV kvs k, rfl, .inl ⟨_, h1⟩, .inl ⟨kvs, k, h1, keyK_ok hy e1, rfl⟩, r.x.val k⟩
  | dt l =>
    obtain ⟨a, kvs, rfl, h1, r⟩ := hx
    simp only [dgetD, Option.map_eq_some_iff] at e
    obtain ⟨k, e1, e2⟩ := e
    subst e2
    obtain ⟨b, rfl, hb⟩ := keyT_ok s hy e1
    exact ⟨a, valV kvs k, rfl, .inr ⟨_, h1⟩, .inr ⟨kvs, k, b, h1, rfl, hb, rfl⟩, r.x.val k⟩
  | _ => cases e
def rDGet : R2 := fun x y H Q => ∃ a v, x = .ref a ∧ DGet H a y (some v) ∧ Q v H
def ixDk (x y : D) : Option Rv := (dgetD x y).bind fun o => o.map .d
theorem o2_dget : Op2 K rDGet ixDk := by
  intro F H x y dx dy Q s hx hy ho
  unfold ixDk at ho
  cases e : dgetD dx dy with
  | none => rw [e] at ho; exact ho.elim
  | some o =>
    rw [e] at ho
    obtain ⟨a, ov, e1, _, e2, e3⟩ := dget_ok s hx hy e
    rcases e3 with ⟨e4, _⟩ | ⟨d, v, e4, e5, e6⟩
    · subst e4; exact ho.elim
    · subst e4
      subst e5
      exact ⟨a, v, e1, e2, outD s ho e6⟩
theorem ev_dget {W : WX} {ta tb : TE} {ma mb : M Rv} (ha : EvX K W ta ma) (hb : EvX K W tb mb) : EvX K W (tDGet ta tb) (mOp ixDk ma mb) := ev_op (r := rDGet) o2_dget ha hb
def rDIn : R2 := fun y x H Q => ∃ a o, x = .ref a ∧ DGet H a y o ∧ Q (.bl o.isSome) H
def rDNotIn : R2 := fun y x H Q => ∃ a o, x = .ref a ∧ DGet H a y o ∧ Q (.bl (!o.isSome)) H
def dinD (y x : D) : Option Rv := (dgetD x y).map fun o => .d (.bl o.isSome)
def dnotD (y x : D) : Option Rv := (dgetD x y).map fun o => .d (.bl !o.isSome)
theorem some_eq {o : Option D} {ov : Option V} {F : Hp} (h : (o = none ∧ ov = none) ∨ ∃ d v, o = some d ∧ ov = some v ∧ Rp K F d v) : ov.isSome = o.isSome := by
  rcases h with ⟨rfl, rfl⟩ | ⟨d, v, rfl, rfl, _⟩ <;> rfl
theorem o2_din : Op2 K rDIn dinD := by
  intro F H y x dy dx Q s hy hx ho
  unfold dinD at ho
  cases e : dgetD dx dy with
  | none => rw [e] at ho; exact ho.elim
  | some o =>
    rw [e] at ho
    obtain ⟨a, ov, e1, _, e2, e3⟩ := dget_ok s hx hy e
    refine ⟨a, ov, e1, e2, ?_⟩
    rw [some_eq e3]
    exact outD s ho (.bl _)
theorem o2_dnot : Op2 K rDNotIn dnotD := by
  intro F H y x dy dx Q s hy hx ho
  unfold dnotD at ho
  cases e : dgetD dx dy with
  | none => rw [e] at ho; exact ho.elim
  | some o =>
    rw [e] at ho
    obtain ⟨a, ov, e1, _, e2, e3⟩ := dget_ok s hx hy e
    refine ⟨a, ov, e1, e2, ?_⟩
    rw [some_eq e3]
    exact outD s ho (.bl _)
theorem ev_din {W : WX} {ta tb : TE} {ma mb : M Rv} (ha : EvX K W ta ma) (hb : EvX K W tb mb) : EvX K W (tDIn ta tb) (mOp dinD ma mb) := ev_op (r := rDIn) o2_din ha hb
theorem ev_dnot {W : WX} {ta tb : TE} {ma mb : M Rv} (ha : EvX K W ta ma) (hb : EvX K W tb mb) : EvX K W (tDNotIn ta tb) (mOp dnotD ma mb) := ev_op (r := rDNotIn) o2_dnot ha hb
/-- d.get(k), d.get(k, x) -/
def isDD : D → Bool
  | .dk _ => true
  | .dt _ => true
  | _ => false
def mGet1 (ma mb : M Rv) : M Rv := fun s => (ma s).bind fun r1 s1 => opt (pk r1 s1) fun x0 => if isDD x0 then (mb s1).bind fun r2 s2 => opt (pk (nrm r1) s2) fun x => opt (pk r2 s2) fun y => opt (dgetD x y) fun o => .ok (.d (o.getD .non)) s2 else .no
def mGet2 (ma mb mc : M Rv) : M Rv := fun s => (ma s).bind fun r1 s1 => opt (pk r1 s1) fun x0 => if isDD x0 then (mb s1).bind fun r2 s2 => (mc s2).bind fun r3 s3 => (frz r3 s3).bind fun z s4 => opt (pk (nrm r1) s4) fun x => opt (pk (nrm r2) s4) fun y => opt (dgetD x y) fun o => .ok (.d (o.getD z)) s4 else .no
theorem isDD_ok {F H : Hp} {d : D} {v : V} (h : RpP K F H d v) (e : isDD d = true) : ∃ a, v = .ref a ∧ IsD H a := by
  cases d with
  | dk l => obtain ⟨a, kvs, rfl, h1, _⟩ := h; exact ⟨a, rfl, .inl ⟨_, h1⟩⟩
  | dt l => obtain ⟨a, kvs, rfl, h1, _⟩ := h; exact ⟨a, rfl, .inr ⟨_, h1⟩⟩
  | _ => cases e
theorem ev_get1 {W : WX} {ta tb : TE} {ma mb : M Rv} (ha : EvX K W ta ma) (hb : EvX K W tb mb) : EvX K W (tDGet1 ta tb) (mGet1 ma mb) := by
  intro F H σ s Q rs w
  refine ha.step (Go.refl rs) w fun r1 s1 v1 F1 H1 g1 _ h1 w1 => ?_
  obtain ⟨x0, e0, w2⟩ := opt_wn w1
  split at w2
  · rename_i hd
    obtain ⟨a, rfl, ia⟩ := isDD_ok (pk_ok g1.rs h1 e0) hd
    obtain ⟨F1', g1', sb1, h1'⟩ := nrm_ok g1 h1
    refine ⟨a, rfl, ia, hb.step g1' w2 fun r2 s2 v2 F2 H2 g2 g12 h2 w3 => ?_⟩
    obtain ⟨x, ex, w4⟩ := opt_wn w3
    obtain ⟨y, ey, w5⟩ := opt_wn w4
    obtain ⟨o, eo, w6⟩ := opt_wn w5
    obtain ⟨a', ov, e1, _, e2, e3⟩ := dget_ok g2.rs.sub (pk_ok g2.rs (h1'.go g12) ex) (pk_ok g2.rs h2 ey) eo
    cases e1
    refine ⟨ov, e2, ?_⟩
    rcases e3 with ⟨rfl, rfl⟩ | ⟨d, v, rfl, rfl, h⟩
    · exact w6 _ F2 H2 g2 .non
    · exact w6 _ F2 H2 g2 h
  · exact w2.elim
theorem ev_get2 {W : WX} {ta tb tc : TE} {ma mb mc : M Rv} (ha : EvX K W ta ma) (hb : EvX K W tb mb) (hc : EvX K W tc mc) : EvX K W (tDGet2 ta tb tc) (mGet2 ma mb mc) := by
  intro F H σ s Q rs w
  refine ha.step (Go.refl rs) w fun r1 s1 v1 F1 H1 g1 _ h1 w1 => ?_
  obtain ⟨x0, e0, w2⟩ := opt_wn w1
  split at w2
  · rename_i hd
    obtain ⟨a, rfl, ia⟩ := isDD_ok (pk_ok g1.rs h1 e0) hd
    obtain ⟨F1', g1', sb1, h1'⟩ := nrm_ok g1 h1
    refine ⟨a, rfl, ia, hb.step g1' w2 fun r2 s2 v2 F2 H2 g2 g12 h2 w3 => ?_⟩
    obtain ⟨F2', g12', sb2, h2'⟩ := nrm_ok g12 h2
    have g2' := g1'.trans g12'
    refine hc.step g2' w3 fun r3 s3 v3 F3 H3 g3 g23 h3 w4 => ?_
    obtain ⟨z, s4, ez, w5⟩ := frz_wn w4
    obtain ⟨F4, g24, sb4, hz⟩ := frz_ok g23 h3 ez
    have g4 := g2'.trans g24
    obtain ⟨x, ex, w6⟩ := opt_wn w5
    obtain ⟨y, ey, w7⟩ := opt_wn w6
    obtain ⟨o, eo, w8⟩ := opt_wn w7
    obtain ⟨a', ov, e1, _, e2, e3⟩ := dget_ok g4.rs.sub (pk_ok g4.rs ((h1'.go g12').go g24) ex) (pk_ok g4.rs (h2'.go g24) ey) eo
    cases e1
    refine ⟨ov, e2, ?_⟩
    rcases e3 with ⟨rfl, rfl⟩ | ⟨d, v, rfl, rfl, h⟩
    · exact w8 _ F4 H3 g4 hz
    · exact w8 _ F4 H3 g4 h
  · exact w2.elim

/-! ## d[k] = v, d a name's dict -/
/-- the dict behind it -/
def oputD : OD → D → D → Option OD
  | .dk false l, y, d => if l.length < 100000 then (keyK y).map fun k => .dk false (putD l k d) else none
  | .dt false l, y, d => if l.length < 100000 then (keyT y).map fun k => .dt false (putD l k d) else none
  | _, _, _ => none
theorem lt_size {n : Nat} (h : n < 100000) : n < sizeLine := Nat.lt_of_lt_of_le h (by decide)
theorem oput_ok {F H : Hp} (s : Sub F H) {p : Addr} {ho : HO} {y v : V} {o o' : OD} {dy d : D} (hp : H p = some ho) (r : RpO K F o ho) (hy : RpP K F H dy y) (hd : Rp K F d v) (e : oputD o dy d = some o') : ∃ ho', DPut H p y v (upd H p ho') ∧ RpO K F o' ho' := by
  cases r with
  | dk r =>
    rename_i l kvs
    simp only [oputD] at e
    split at e
    · rename_i hl
      rw [Option.map_eq_some_iff] at e
      obtain ⟨k, e1, rfl⟩ := e
      exact ⟨_, .inl ⟨kvs, k, hp, keyK_ok hy e1, by rw [← r.x.length]; exact lt_size hl, rfl⟩, .dk (RpK.of (r.x.put k hd))⟩
    · cases e
  | dt r =>
    rename_i l kvs
    simp only [oputD] at e
    split at e
    · rename_i hl
      rw [Option.map_eq_some_iff] at e
      obtain ⟨k, e1, rfl⟩ := e
      obtain ⟨b, rfl, hb⟩ := keyT_ok s hy e1
      exact ⟨_, .inr ⟨kvs, k, b, hp, rfl, hb, by rw [← r.x.length]; exact lt_size hl, rfl⟩, .dt (RpT.of (r.x.put k hd))⟩
    · cases e
  | lst r => cases e
  | obj r => cases e
  | dkl r => cases e
  | dtl r => cases e
def mDPut (i : Nat) (mk me : M Rv) : MS := fun s => (me s).out fun r s1 => (frz r s1).out fun d s2 => optO (ownAt s2 i) fun _ => (mk s2).out fun k s3 => optO (pk k s3) fun y => optO (ownAt s3 i) fun p => optO (oputD p.2 y d) fun o => .nx (s3.set i (some (p.1.put o)))
theorem es_dput {W : WX} {i : Nat} {te tk : TE} {me mk : M Rv} (he : EvX K W te me) (hk : EvX K W tk mk) : EvS K W (sDPut (tVar i) tk te) (mDPut i mk me) := by
  intro F H σ s D rs w
  refine he.stepS2 (Go.refl rs) w fun r s1 v F1 H1 g1 _ h1 w1 => ?_
  obtain ⟨d, s2, e, w2⟩ := frz_out w1
  obtain ⟨F2, g2, _, hd⟩ := frz_ok g1 h1 e
  obtain ⟨⟨sv0, o0⟩, e0, w3⟩ := optO_wn w2
  obtain ⟨_, _, p0, _, hp0, _⟩ := ownAt_ok g2.rs e0
  refine ⟨.ref p0, hp0, hk.stepS2 g2 w3 fun k s3 u F3 H3 g3 g23 h3 w4 => ?_⟩
  obtain ⟨y, ey, w5⟩ := optO_wn w4
  obtain ⟨⟨sv, o⟩, el, w6⟩ := optO_wn w5
  obtain ⟨o', ej, w7⟩ := optO_wn w6
  obtain ⟨a1, a2, p, ho, a3, a4, a5, a6⟩ := ownAt_ok g3.rs el
  rw [hp0] at a3
  cases a3
  obtain ⟨ho', b1, b2⟩ := oput_ok g3.rs.sub a5 a6 (pk_ok g3.rs h3 ey) (hd.mono g23.fr) ej
  exact ⟨p0, _, rfl, b1, w7 σ F3 _ (g3.put a1 a2 hp0 b2)⟩

/-! ## new dicts -/
def mDNewK : M Rv := fun s => .ok (.o (.dk false [])) s
def mDNewT : M Rv := fun s => .ok (.o (.dt false [])) s
theorem ev_dnewK {W : WX} : EvX K W tDNewK mDNewK := fun F H σ s Q rs w p hp => by
  obtain ⟨a, b⟩ := (Go.refl rs).fresh hp (RpO.dk (K := K) (F := F) .nil)
  exact w _ _ _ a b
theorem ev_dnewT {W : WX} : EvX K W tDNewT mDNewT := fun F H σ s Q rs w p hp => by
  obtain ⟨a, b⟩ := (Go.refl rs).fresh hp (RpO.dt (K := K) (F := F) .nil)
  exact w _ _ _ a b
def mPairs : List (Key × M Rv) → M (List (Key × D))
  | [], s => .ok [] s
  | (k, m) :: r, s => (m s).bind fun v s1 => (frz v s1).bind fun d s2 => (mPairs r s2).bind fun ps s3 => .ok ((k, d) :: ps) s3
def mergeD (l more : List (Key × D)) : List (Key × D) := more.foldl (fun acc kv => putD acc kv.1 kv.2) l
def mDisp (ps : List (Key × M Rv)) : M Rv := fun s => if ps.length ≤ 15 then (mPairs ps s).bind fun l s1 => .ok (.o (.dk false (mergeD [] l))) s1 else .no
theorem RpX.merge {F : Hp} {more : List (Key × D)} {rs : List (Key × V)} (h : RpX K F more rs) : ∀ {l : List (Key × D)} {kvs : List (Key × V)}, RpX K F l kvs → RpX K F (mergeD l more) (mergeK kvs rs) := by
  unfold RpX at h
  induction h with
  | nil => exact fun q => q
  | @cons p q ps qs h t ih =>
    intro l kvs r
    obtain ⟨h1, h2⟩ := h
    have e : RpX K F (putD l p.1 p.2) (putK kvs q.1 q.2) := by
      rw [← h1]
      exact r.put _ h2
    exact ih e
/-- the readings of the pairs -/
inductive EvP (K : PySem.W.Frag) (W : WX) : List (TE × TE) → List (Key × M Rv) → Prop
  | nil : EvP K W [] []
  | cons {k : Key} {te : TE} {m : M Rv} {ts : List (TE × TE)} {ps : List (Key × M Rv)} : EvX K W te m → EvP K W ts ps → EvP K W ((tC (kV k), te) :: ts) ((k, m) :: ps)
theorem EvP.run {W : WX} : ∀ {ts : List (TE × TE)} {ps : List (Key × M Rv)}, EvP K W ts ps → ∀ {F0 H0 F H : Hp} {σ : L2.St} {s0 s : SS} {Q : VK} {Q1 : List (V × V) → Hp → Prop} {f : List (Key × D) → SS → R Rv}, Go K F0 H0 σ s0 F H σ s → Wn K W Q F0 H0 σ s0 ((mPairs ps s).bind f) →
    (∀ l s1 kvs F1 H1, Go K F0 H0 σ s0 F1 H1 σ s1 → Go K F H σ s F1 H1 σ s1 → RpX K F1 l kvs → l.length = ps.length → Wn K W Q F0 H0 σ s0 (f l s1) → Q1 (kvs.map fun kv => (kV kv.1, kv.2)) H1) → tPairs ts σ H Q1
  | _, _, .nil, F0, H0, F, H, σ, s0, s, Q, Q1, f, g, w, k => k [] s [] F H g (Go.refl g.rs) .nil rfl w
  | _, _, .cons (k := key) (ps := ps) (m := m) he hr, F0, H0, F, H, σ, s0, s, Q, Q1, f, g, w, k => by
    have w0 : Wn K W Q F0 H0 σ s0 ((m s).bind fun v s1 => ((frz v s1).bind fun d s2 => (mPairs ps s2).bind fun ps s3 => .ok ((key, d) :: ps) s3).bind f) := by
      have w' : Wn K W Q F0 H0 σ s0 (((m s).bind fun v s1 => (frz v s1).bind fun d s2 => (mPairs ps s2).bind fun ps s3 => .ok ((key, d) :: ps) s3).bind f) := w
      cases e : m s with
      | ok r s1 => rw [e] at w'; exact w'
      | ex c l s1 => rw [e] at w'; exact w'
      | no => rw [e] at w'; exact w'
    refine he.step g w0 fun r s1 v F1 H1 g1 g01 h1 w1 => ?_
    cases ez : frz r s1 with
    | ex c l s2 => exact absurd ez frz_ex
    | no => rw [ez] at w1; exact w1.elim
    | ok d s2 =>
      rw [ez] at w1
      obtain ⟨F2, g02, sb, hd⟩ := frz_ok g01 h1 ez
      have w2 : Wn K W Q F0 H0 σ s0 ((mPairs ps s2).bind fun ps s3 => f ((key, d) :: ps) s3) := by
        have w' : Wn K W Q F0 H0 σ s0 (((mPairs ps s2).bind fun ps s3 => .ok ((key, d) :: ps) s3).bind f) := w1
        cases e : mPairs ps s2 with
        | ok r s1 => rw [e] at w'; exact w'
        | ex c l s1 => rw [e] at w'; exact w'
        | no => rw [e] at w'; exact w'
      refine EvP.run hr (g.trans g02) w2 fun l s3 kvs F3 H3 g3 g23 h3 hl w3 => ?_
      exact k ((key, d) :: l) s3 ((key, v) :: kvs) F3 H3 g3 (g02.trans g23) (.cons ⟨rfl, hd.mono g23.fr⟩ h3) (by rw [List.length_cons, List.length_cons, hl]) w3
theorem ev_disp {W : WX} {ts : List (TE × TE)} {ps : List (Key × M Rv)} (h : EvP K W ts ps) : EvX K W (tDisp ts) (mDisp ps) := by
  intro F H σ s Q rs w p hp
  unfold mDisp at w
  split at w
  · rename_i h15
    have hF : F p = none := rs.sub.free hp
    have hO : ¬ Ow σ s p := fun z => by
      obtain ⟨_, u, q⟩ := rs.owF z
      rw [hp] at q; cases q
    have gp := (Go.refl rs).pend (.dK []) hp hF hO
    refine h.run gp w fun l s1 kvs F1 H1 g1 g01 h1 hl w1 => ?_
    obtain ⟨b1, b2, b3⟩ := g01.still hF upd_same hO (fun ⟨_, z⟩ => by rw [upd_same] at z; cases z)
    refine ⟨b2, kvs, rfl, by rw [← h1.length, hl]; exact h15, ?_⟩
    have g2 := g1.pend (.dK (mergeK [] kvs)) hp b1 b3
    exact w1 _ F1 _ g2 ⟨p, _, rfl, b1, upd_same, .dk (RpK.of (h1.merge .nil)), hp, b3⟩
  · exact w.elim

/-! ## tuples that stand in the heap -/
open Classical in
/-- the data with all tuples that stand there -/
noncomputable def adopt (F H : Hp) : Hp := fun a => match F a with
  | some o => some o
  | none => if Tu H a then H a else none
theorem Al.adopt {F H : Hp} (s : Sub F H) : Al F H (adopt F H) H := by
  have e1 : ∀ a o, F a = some o → Cz.adopt F H a = some o := fun a o h => by unfold Cz.adopt; rw [h]
  refine ⟨e1, Sub.refl, fun a o h => ?_, fun a h => ?_⟩
  · unfold Cz.adopt at h
    split at h
    · rename_i u e
      cases h
      exact s _ _ e
    · split at h
      · exact h
      · cases h
  · unfold Cz.adopt at h
    split at h
    · rename_i u e
      exact .inl (by rw [e]; exact fun z => nomatch z)
    · split at h
      · rename_i q
        exact .inr (.inr q)
      · exact absurd rfl h
theorem adopt_at {F H : Hp} (s : Sub F H) {a : Addr} {xs : List V} (h : H a = some (.tup xs)) : Cz.adopt F H a = some (.tup xs) := by
  unfold Cz.adopt
  split
  · rename_i u e
    rw [s _ _ e] at h
    exact h
  · rw [if_pos ⟨xs, h⟩]
    exact h
def kDs (k : List Key) : D := .tup (k.map kD)
theorem rp_key {F : Hp} : ∀ k : Key, Rp K F (kD k) (kV k)
  | .inl i => .int i
  | .inr x => .str x
theorem rp_keys {F : Hp} : ∀ ks : List Key, RpL K F (ks.map kD) (ks.map kV)
  | [] => .nil
  | k :: ks => .cons (rp_key k) (rp_keys ks)
theorem adopt_key {F H : Hp} (s : Sub F H) {a : Addr} {ks : List Key} (h : H a = some (.tup (ks.map kV))) : Rp K (Cz.adopt F H) (kDs ks) (.ref a) := .tup (adopt_at s h) (rp_keys ks)

/-! ## list(d) -/
def rListDA : List V → Hp → VK → Prop := fun xs H Q => (∃ (a : Addr) (kvs : List (Key × V)), xs = [.ref a] ∧ Rd H a (.dK kvs) ∧ ∀ p, H p = none → Q (.ref p) (upd H p (.lst (kvs.map fun kv => kV kv.1)))) ∨
  ∃ d kvs, xs = [V.ref d] ∧ Rd H d (.dT kvs) ∧ ∀ p bs, H p = none → IsKeys H kvs bs → Q (.ref p) (upd H p (.lst (bs.map V.ref)))
theorem cr_listDA {X : Cx} (hc : X.calm = true) : CallR X (.type "list") rListDA := callr_or (call_listD hc) (call_list_dT hc)
def listDD : D → Option Rv
  | .dk l => some (.o (.lst (l.map fun p => kD p.1)))
  | .dt l => some (.o (.lst (l.map fun p => kDs p.1)))
  | _ => none
theorem rpx_keys {F : Hp} {l : List (Key × D)} {kvs : List (Key × V)} (r : RpX K F l kvs) : RpL K F (l.map fun p => kD p.1) (kvs.map fun kv => kV kv.1) := by
  unfold RpX at r
  induction r with
  | nil => exact .nil
  | @cons p q ps qs h t ih =>
    obtain ⟨e, _⟩ := h
    rw [List.map_cons, List.map_cons, e]
    exact .cons (rp_key _) ih
theorem rpt_keys {F H : Hp} (s : Sub F H) {l : List (List Key × D)} {kvs : List (List Key × V)} (r : RpX K F l kvs) : ∀ {bs : List Addr}, IsKeys H kvs bs → RpL K (Cz.adopt F H) (l.map fun p => kDs p.1) (bs.map V.ref) := by
  unfold RpX at r
  unfold IsKeys
  induction r with
  | nil =>
    intro bs h
    cases h
    exact .nil
  | @cons p q ps qs h t ih =>
    intro bs k
    obtain ⟨e, _⟩ := h
    cases k with
    | cons hb k =>
      rw [List.map_cons, List.map_cons, e]
      exact .cons (adopt_key s hb) (ih k)
theorem c1_listD : Op1 K (fun x H Q => rListDA [x] H Q) listDD := by
  intro F H x dx Q s hx ho
  cases dx with
  | dk l =>
    obtain ⟨a, kvs, rfl, h1, r⟩ := hx
    exact .inl ⟨a, kvs, rfl, h1, fun p hp => ho F p _ (Al.refl s) hp (.lst (rpx_keys r.x))⟩
  | dt l =>
    obtain ⟨a, kvs, rfl, h1, r⟩ := hx
    exact .inr ⟨a, kvs, rfl, h1, fun p bs hp hb => ho _ p _ (Al.adopt s) hp (.lst (rpt_keys s r.x hb))⟩
  | _ => exact ho.elim
end Cz

/-! # CzQ -/
namespace Cz
open L2 PyProof.Rows PySem.Spec PySem

/-! ## the code and its mirror together -/
structure CE (X : Cx) (K : PySem.W.Frag) (W : WX) (e : Expr) (t : TE) (m : M Rv) : Prop where
  p : PE X e t
  v : EvX K W t m
structure CT (X : Cx) (K : PySem.W.Frag) (W : WX) (e : Expr) (t : TT) (m : M Bool) : Prop where
  p : PT X e t
  v : EvT K W t m
structure CW (X : Cx) (K : PySem.W.Frag) (W : WX) (e : Expr) (t : TT) (m : M Bool) : Prop where
  p : PW X e t
  v : EvT K W t m
structure CTs (X : Cx) (K : PySem.W.Frag) (W : WX) (es : List Expr) (t : TT) (m : M Bool) : Prop where
  p : PTs X es t
  v : EvT K W t m
structure CA (X : Cx) (K : PySem.W.Frag) (W : WX) (es : List Expr) (t : TA) (m : M (List Rv)) : Prop where
  p : PA X es t
  v : EvA K W t m
structure CO (X : Cx) (K : PySem.W.Frag) (W : WX) (e : Option Expr) (t : TO) (m : M (Option Int)) : Prop where
  p : PO X e t
  v : EvO K W t m
structure CI (X : Cx) (K : PySem.W.Frag) (W : WX) (tg e : Expr) (t : TI) (m : M (List D)) : Prop where
  p : PI X tg e t
  v : EvI K W t m
structure CG (X : Cx) (K : PySem.W.Frag) (e : Expr) (t : TG) (m : MG) (tv : List Nat) : Prop where
  p : PG X e t
  v : EvG K t m tv
structure CGs (X : Cx) (K : PySem.W.Frag) (es : List Expr) (t : TGs) (m : MGs) (tv : List Nat) : Prop where
  p : PGs X es t
  v : EvGs K t m tv
structure CS (X : Cx) (K : PySem.W.Frag) (W : WX) (st : Stmt) (t : TS) (m : MS) : Prop where
  p : PS X st t
  v : EvS K W t m
structure CSs (X : Cx) (K : PySem.W.Frag) (W : WX) (st : List Stmt) (t : TS) (m : MS) : Prop where
  p : PSs X st t
  v : EvS K W t m

section
variable {X : Cx} {K : PySem.W.Frag} {W : WX} {a b c e : Expr} {es : List Expr} {pos p1 p2 p3 : Pos} {ta tb tc te : TE} {ma mb mc me : M Rv} {t : TA} {m : M (List Rv)} {k n : Nat}
theorem hu65 {A : Around} (r : Room k A) : A.units + 65 < cLine := by have := r.un; omega
theorem hu64 {A : Around} (r : Room k A) : A.units + 64 < cLine := r.units
theorem hu1 {A : Around} (r : Room k A) : A.units + 1 < cLine := by have := r.un; omega

/-! ### expressions -/
theorem c_v (i : Nat) {x : Str} {pos : Pos} (hN : X.N[i]? = some x := by rfl) (hv : Vis X.env.scope x := by first | exact Or.inl rfl | exact Or.inr (Or.inl rfl) | exact Or.inr (Or.inr rfl)) (hd : (x == ("__debug__" : Str)) = false := by decide)
    (hcd : (x == ("__classdict__" : Str)) = false := by decide) : CE X K W (.Name x pos) (tVar i) (mVar i) := ⟨pv i hN hv hd hcd, ev_var⟩
theorem c_i {i : Int} {j : Nat} : CE X K W (.Constant (.int i) j pos) (tC (.int i)) (mC (.int i)) := ⟨pe_int, ev_c fun F => .int i⟩
theorem c_b {i : Bool} {j : Nat} : CE X K W (.Constant (.bool i) j pos) (tC (.bl i)) (mC (.bl i)) := ⟨pe_bl, ev_c fun F => .bl i⟩
theorem c_n {j : Nat} : CE X K W (.Constant .none j pos) (tC .non) (mC .non) := ⟨pe_non, ev_c fun F => .non⟩
theorem c_s {i : Str} {j : Nat} : CE X K W (.Constant (.str i) j pos) (tC (.str i)) (mC (.str i)) := ⟨pe_str, ev_c fun F => .str i⟩
theorem c_op {op : Operator} {r : R2} {f : D → D → Option Rv} (ho : OpR X (binaryOp op) r) (hf : Op2 K r f) (ha : CE X K W a ta ma) (hb : CE X K W b tb mb) : CE X K W (.BinOp a op b pos) (tOp r ta tb) (mOp f ma mb) := ⟨pe_op ho ha.p hb.p, ev_op hf ha.v hb.v⟩
theorem c_add (hK : X.K = K := by rfl) (ha : CE X K W a ta ma) (hb : CE X K W b tb mb) : CE X K W (.BinOp a .Add b pos) (tOp (rAddA K) ta tb) (mOp addD ma mb) := by subst hK; exact c_op op_addA o2_add ha hb
theorem c_sub (ha : CE X K W a ta ma) (hb : CE X K W b tb mb) : CE X K W (.BinOp a .Sub b pos) (tOp (rI0 fun i j => .int (i - j)) ta tb) (mOp subD ma mb) := c_op op_sub o2_sub ha hb
theorem c_mul (ha : CE X K W a ta ma) (hb : CE X K W b tb mb) : CE X K W (.BinOp a .Mult b pos) (tOp (rI CMul fun i j => .int (i * j)) ta tb) (mOp mulD ma mb) := c_op op_mul o2_mul ha hb
theorem c_fdiv (ha : CE X K W a ta ma) (hb : CE X K W b tb mb) : CE X K W (.BinOp a .FloorDiv b pos) (tOp (rI CDiv fun i j => .int (i / j)) ta tb) (mOp fdivD ma mb) := c_op op_fdiv o2_fdiv ha hb
theorem c_mod (ha : CE X K W a ta ma) (hb : CE X K W b tb mb) : CE X K W (.BinOp a .Mod b pos) (tOp (rI (fun _ j => 0 < j) fun i j => .int (i % j)) ta tb) (mOp modD ma mb) := c_op op_mod o2_mod ha hb
theorem c_pow (ha : CE X K W a ta ma) (hb : CE X K W b tb mb) : CE X K W (.BinOp a .Pow b pos) (tOp (rI CPow fun i j => .int (i ^ j.toNat)) ta tb) (mOp powD ma mb) := c_op op_pow o2_pow ha hb
theorem c_neg (ha : CE X K W a ta ma) : CE X K W (.UnaryOp .USub a pos) (tUn (rU fun i => .int (-i)) ta) (mUn negD ma) := ⟨pe_un un_neg ha.p, ev_un o1_neg ha.v⟩
theorem c_cmp {op : CmpOp} {r : R2} {f : D → D → Option Rv} (ho : OpR X (compareOp op) r) (hf : Op2 K r f) (hm : behindInMarks op b = false) (ha : CE X K W a ta ma) (hb : CE X K W b tb mb) : CE X K W (.Compare a [op] [b] pos) (tOp r ta tb) (mOp f ma mb) := ⟨pe_cmpR ho ha.p hb.p hm, ev_op hf ha.v hb.v⟩
theorem c_lt (ha : CE X K W a ta ma) (hb : CE X K W b tb mb) : CE X K W (.Compare a [.Lt] [b] pos) (tOp (rCmpA (fun i j => decide (i < j)) sLt) ta tb) (mOp ltD ma mb) := c_cmp op_ltA o2_cmp (nomark _) ha hb
theorem c_le (ha : CE X K W a ta ma) (hb : CE X K W b tb mb) : CE X K W (.Compare a [.LtE] [b] pos) (tOp (rCmpA (fun i j => decide (i ≤ j)) (fun i j => !sLt j i)) ta tb) (mOp leD ma mb) := c_cmp op_leA o2_cmp (nomark _) ha hb
theorem c_gt (ha : CE X K W a ta ma) (hb : CE X K W b tb mb) : CE X K W (.Compare a [.Gt] [b] pos) (tOp (rCmpA (fun i j => decide (j < i)) (fun i j => sLt j i)) ta tb) (mOp gtD ma mb) := c_cmp op_gtA o2_cmp (nomark _) ha hb
theorem c_ge (ha : CE X K W a ta ma) (hb : CE X K W b tb mb) : CE X K W (.Compare a [.GtE] [b] pos) (tOp (rCmpA (fun i j => decide (j ≤ i)) (fun i j => !sLt i j)) ta tb) (mOp geD ma mb) := c_cmp op_geA o2_cmp (nomark _) ha hb
theorem c_eq (hr : Room k X.A) (hK : X.K = K := by rfl) (ha : CE X K W a ta ma) (hb : CE X K W b tb mb) : CE X K W (.Compare a [.Eq] [b] pos) (tOp (rEqA K) ta tb) (mOp eqD ma mb) := by subst hK; exact c_cmp (op_eqA (hu64 hr)) o2_eq (nomark _) ha hb
theorem c_ne (hr : Room k X.A) (hK : X.K = K := by rfl) (ha : CE X K W a ta ma) (hb : CE X K W b tb mb) : CE X K W (.Compare a [.NotEq] [b] pos) (tOp (rNeA K) ta tb) (mOp neD ma mb) := by subst hK; exact c_cmp (op_neA (hu64 hr)) o2_ne (nomark _) ha hb
theorem c_in (hr : Room k X.A) (hm : behindInMarks .In b = false) (hK : X.K = K := by rfl) (ha : CE X K W a ta ma) (hb : CE X K W b tb mb) : CE X K W (.Compare a [.In] [b] pos) (tOp (rInA K) ta tb) (mOp inD ma mb) := by subst hK; exact c_cmp (op_inA (hu65 hr)) o2_in hm ha hb
theorem c_notIn (hr : Room k X.A) (hm : behindInMarks .NotIn b = false) (hK : X.K = K := by rfl) (ha : CE X K W a ta ma) (hb : CE X K W b tb mb) : CE X K W (.Compare a [.NotIn] [b] pos) (tOp (rNotInA K) ta tb) (mOp notInD ma mb) := by subst hK; exact c_cmp (op_notInA (hu65 hr)) o2_notIn hm ha hb
theorem c_is (ha : CE X K W a ta ma) (hb : CE X K W b tb mb) : CE X K W (.Compare a [.Is] [b] pos) (tOp rIsA2 ta tb) (mOp isD ma mb) := c_cmp op_isA o2_is (nomark _) ha hb
theorem c_isNot (ha : CE X K W a ta ma) (hb : CE X K W b tb mb) : CE X K W (.Compare a [.IsNot] [b] pos) (tOp rNotA2 ta tb) (mOp isNotD ma mb) := c_cmp op_isNotA o2_isNot (nomark _) ha hb
theorem c_dget (hr : Room k X.A) (hs : NoSl b) (ha : CE X K W a ta ma) (hb : CE X K W b tb mb) : CE X K W (.Subscript a b pos) (tDGet ta tb) (mOp ixDk ma mb) := ⟨pe_dget (hu1 hr) ha.p hb.p hs, ev_dget ha.v hb.v⟩
theorem c_din (hr : Room k X.A) (hm : behindInMarks .In b = false) (ha : CE X K W a ta ma) (hb : CE X K W b tb mb) : CE X K W (.Compare a [.In] [b] pos) (tDIn ta tb) (mOp dinD ma mb) := ⟨pe_cmp (pc_din (hu1 hr) ha.p hb.p) hm, ev_din ha.v hb.v⟩
theorem c_dnot (hr : Room k X.A) (hm : behindInMarks .NotIn b = false) (ha : CE X K W a ta ma) (hb : CE X K W b tb mb) : CE X K W (.Compare a [.NotIn] [b] pos) (tDNotIn ta tb) (mOp dnotD ma mb) := ⟨pe_cmp (pc_dnotin (hu1 hr) ha.p hb.p) hm, ev_dnot ha.v hb.v⟩
theorem c_ix (hs : PlainIx b) (hK : X.K = K := by rfl) (ha : CE X K W a ta ma) (hb : CE X K W b tb mb) : CE X K W (.Subscript a b pos) (tOp (rIx K) ta tb) (mOp ixD ma mb) := by subst hK; exact ⟨pe_ix ix_seq ha.p hb.p hs, ev_op o2_ix ha.v hb.v⟩
theorem c_o0 : CO X K W none tNoPart mNoPart := ⟨po_none, eo_none⟩
theorem c_o1 (ha : CE X K W a ta ma) : CO X K W (some a) (tPart ta) (mPart ma) := ⟨po_some ha.p, eo_some ha.v⟩
theorem c_sl {lo hi : Option Expr} {tl th : TO} {ml mh : M (Option Int)} (hK : X.K = K := by rfl) (ha : CE X K W a ta ma) (hl : CO X K W lo tl ml) (hh : CO X K W hi th mh) : CE X K W (.Subscript a (.Slice lo hi none p2) pos) (tSl (rSlAll K) ta tl th) (mSl ma ml mh) := by subst hK; exact ⟨pe_slice sl_all ha.p hl.p hh.p, ev_sl ha.v hl.v hh.v⟩
theorem c_if {t : TT} {mt : M Bool} (hc : CT X K W c t mt) (ha : CE X K W a ta ma) (hb : CE X K W b tb mb) : CE X K W (.IfExp c a b pos) (tIf t ta tb) (mIf mt ma mb) := ⟨pe_ifExp hc.p ha.p hb.p, ev_if hc.v ha.v hb.v⟩
theorem c_one {op : BoolOp} (ha : CE X K W a ta ma) : CE X K W (.BoolOp op [a] pos) ta ma := ⟨pe_one ha.p, ha.v⟩
theorem c_and {rest : List Expr} (ha : CE X K W a ta ma) (hb : CE X K W (.BoolOp .And (b :: rest) pos) tb mb) : CE X K W (.BoolOp .And (a :: b :: rest) pos) (tAndV ta tb) (mAndV ma mb) := ⟨pe_and ha.p hb.p, ev_andV ha.v hb.v⟩
theorem c_or {rest : List Expr} (ha : CE X K W a ta ma) (hb : CE X K W (.BoolOp .Or (b :: rest) pos) tb mb) : CE X K W (.BoolOp .Or (a :: b :: rest) pos) (tOrV ta tb) (mOrV ma mb) := ⟨pe_or ha.p hb.p, ev_orV ha.v hb.v⟩
theorem c_not (ha : CE X K W a ta ma) : CE X K W (.UnaryOp .Not a pos) (tNotV ta) (mNotV ma) := ⟨pe_not ha.p, ev_notV ha.v⟩
/-- a op b op c, the middle one looked at twice -/
def mChain (f g : D → D → Option Rv) (ma mb mc : M Rv) : M Rv := fun s => (ma s).bind fun r1 s1 => (mb s1).bind fun r2 s2 => opt (pk (nrm r1) s2) fun x => opt (pk (nrm r2) s2) fun y => match f x y with
  | some (.d (.bl true)) => (mc s2).bind fun r3 s3 => opt (pk (nrm r2) s3) fun y => opt (pk r3 s3) fun z => outR (g y z) s3
  | some (.d (.bl false)) => .ok (.d (.bl false)) s2
  | _ => .no
theorem ev_chain {r r' : R2} {f g : D → D → Option Rv} (hf : Op2 K r f) (hg : Op2 K r' g) (ha : EvX K W ta ma) (hb : EvX K W tb mb) (hc : EvX K W tc mc) : EvX K W (tChain r r' ta tb tc) (mChain f g ma mb mc) := by
  intro F H σ s Q rs w
  refine ha.step (Go.refl rs) w fun r1 s1 v1 F1 H1 g1 _ h1 w1 => ?_
  obtain ⟨F1', g1', sb1, h1'⟩ := nrm_ok g1 h1
  refine hb.step g1' w1 fun r2 s2 v2 F2 H2 g2 g12 h2 w2 => ?_
  obtain ⟨F2', g12', sb2, h2'⟩ := nrm_ok g12 h2
  have g2' := g1'.trans g12'
  obtain ⟨x, ex, w3⟩ := opt_wn w2
  obtain ⟨y, ey, w4⟩ := opt_wn w3
  refine hf F2' H2 v1 v2 x y _ g2'.rs.sub (pk_ok g2'.rs (h1'.go g12') ex) (pk_ok g2'.rs h2' ey) ?_
  split at w4
  · rename_i e
    rw [e]
    intro z F' H' al hz
    cases hz
    refine ⟨true, rfl, ?_⟩
    rw [if_pos rfl]
    have g3 := g2'.al al
    have g3' := (Go.refl g2'.rs).al al
    refine hc.step g3 w4 fun r3 s3 v3 F3 H3 g4 g34 h3 w5 => ?_
    obtain ⟨y2, ey2, w6⟩ := opt_wn w5
    obtain ⟨z2, ez2, w7⟩ := opt_wn w6
    exact hg F3 H3 v2 v3 y2 z2 Q g4.rs.sub (pk_ok g4.rs ((h2'.go g3').go g34) ey2) (pk_ok g4.rs h3 ez2) (out_ok g4 w7)
  · rename_i e
    rw [e]
    intro z F' H' al hz
    cases hz
    refine ⟨false, rfl, ?_⟩
    rw [if_neg (by decide)]
    exact w4 _ F' H' (g2'.al al) (.bl false)
  · exact w4.elim
theorem c_chain {op op' : CmpOp} {r r' : R2} {f g : D → D → Option Rv} (ho : OpR X (compareOp op) r) (ho' : OpR X (compareOp op') r') (hf : Op2 K r f) (hg : Op2 K r' g) (ha : CE X K W a ta ma) (hb : CE X K W b tb mb) (hc : CE X K W c tc mc)
    (hm : lastMarks [op, op'] [b, c] = false := by with_unfolding_all rfl) : CE X K W (.Compare a [op, op'] [b, c] pos) (tChain r r' ta tb tc) (mChain f g ma mb mc) := ⟨pe_chain ho ho' ha.p hb.p hc.p hm, ev_chain hf hg ha.v hb.v hc.v⟩
theorem c_lele (ha : CE X K W a ta ma) (hb : CE X K W b tb mb) (hc : CE X K W c tc mc) (hm : lastMarks [.LtE, .LtE] [b, c] = false := by with_unfolding_all rfl) :
    CE X K W (.Compare a [.LtE, .LtE] [b, c] pos) (tChain (rCmpA (fun i j => decide (i ≤ j)) (fun i j => !sLt j i)) (rCmpA (fun i j => decide (i ≤ j)) (fun i j => !sLt j i)) ta tb tc) (mChain leD leD ma mb mc) := c_chain op_leA op_leA o2_cmp o2_cmp ha hb hc hm

/-! ### tests -/
theorem t_val (ha : CE X K W e te me) (he : ∀ whole, isTrue e X.env whole = (do let v ← whole; standAt e.pos; holding [v] (truthy v)) := by intro _; rfl) : CT X K W e (tB te) (mTr blD me) := ⟨pt_val ha.p he, et_B ha.v⟩
theorem t_tru (hK : X.K = K := by rfl) (ha : CE X K W e te me) (he : ∀ whole, isTrue e X.env whole = (do let v ← whole; standAt e.pos; holding [v] (truthy v)) := by intro _; rfl) : CT X K W e (fun σ H Q => te σ H fun x H' => ∃ k, TruV K x H' k ∧ Q k H') (mTr trD me) := by subst hK; exact ⟨pt_truth ha.p he, et_tru ha.v⟩
theorem t_cmp {op : CmpOp} {r : R2} {f : D → D → Option Rv} (ho : OpR X (compareOp op) r) (hf : Op2 K r f) (hm : behindInMarks op b = false) (ha : CE X K W a ta ma) (hb : CE X K W b tb mb) : CT X K W (.Compare a [op] [b] pos) (tTest (tOp r ta tb)) (mTr blD (mOp f ma mb)) := ⟨pt_cmpR ho ha.p hb.p hm, et_test (ev_op hf ha.v hb.v)⟩
theorem t_lt (ha : CE X K W a ta ma) (hb : CE X K W b tb mb) : CT X K W (.Compare a [.Lt] [b] pos) (tTest (tOp (rCmpA (fun i j => decide (i < j)) sLt) ta tb)) (mTr blD (mOp ltD ma mb)) := t_cmp op_ltA o2_cmp (nomark _) ha hb
theorem t_le (ha : CE X K W a ta ma) (hb : CE X K W b tb mb) : CT X K W (.Compare a [.LtE] [b] pos) (tTest (tOp (rCmpA (fun i j => decide (i ≤ j)) (fun i j => !sLt j i)) ta tb)) (mTr blD (mOp leD ma mb)) := t_cmp op_leA o2_cmp (nomark _) ha hb
theorem t_gt (ha : CE X K W a ta ma) (hb : CE X K W b tb mb) : CT X K W (.Compare a [.Gt] [b] pos) (tTest (tOp (rCmpA (fun i j => decide (j < i)) (fun i j => sLt j i)) ta tb)) (mTr blD (mOp gtD ma mb)) := t_cmp op_gtA o2_cmp (nomark _) ha hb
theorem t_ge (ha : CE X K W a ta ma) (hb : CE X K W b tb mb) : CT X K W (.Compare a [.GtE] [b] pos) (tTest (tOp (rCmpA (fun i j => decide (j ≤ i)) (fun i j => !sLt i j)) ta tb)) (mTr blD (mOp geD ma mb)) := t_cmp op_geA o2_cmp (nomark _) ha hb
theorem t_eq (hr : Room k X.A) (hK : X.K = K := by rfl) (ha : CE X K W a ta ma) (hb : CE X K W b tb mb) : CT X K W (.Compare a [.Eq] [b] pos) (tTest (tOp (rEqA K) ta tb)) (mTr blD (mOp eqD ma mb)) := by subst hK; exact t_cmp (op_eqA (hu64 hr)) o2_eq (nomark _) ha hb
theorem t_ne (hr : Room k X.A) (hK : X.K = K := by rfl) (ha : CE X K W a ta ma) (hb : CE X K W b tb mb) : CT X K W (.Compare a [.NotEq] [b] pos) (tTest (tOp (rNeA K) ta tb)) (mTr blD (mOp neD ma mb)) := by subst hK; exact t_cmp (op_neA (hu64 hr)) o2_ne (nomark _) ha hb
theorem t_in (hr : Room k X.A) (hm : behindInMarks .In b = false) (hK : X.K = K := by rfl) (ha : CE X K W a ta ma) (hb : CE X K W b tb mb) : CT X K W (.Compare a [.In] [b] pos) (tTest (tOp (rInA K) ta tb)) (mTr blD (mOp inD ma mb)) := by subst hK; exact t_cmp (op_inA (hu65 hr)) o2_in hm ha hb
theorem t_notIn (hr : Room k X.A) (hm : behindInMarks .NotIn b = false) (hK : X.K = K := by rfl) (ha : CE X K W a ta ma) (hb : CE X K W b tb mb) : CT X K W (.Compare a [.NotIn] [b] pos) (tTest (tOp (rNotInA K) ta tb)) (mTr blD (mOp notInD ma mb)) := by subst hK; exact t_cmp (op_notInA (hu65 hr)) o2_notIn hm ha hb
theorem t_is (ha : CE X K W a ta ma) (hb : CE X K W b tb mb) : CT X K W (.Compare a [.Is] [b] pos) (tTest (tOp rIsA2 ta tb)) (mTr blD (mOp isD ma mb)) := t_cmp op_isA o2_is (nomark _) ha hb
theorem t_isNot (ha : CE X K W a ta ma) (hb : CE X K W b tb mb) : CT X K W (.Compare a [.IsNot] [b] pos) (tTest (tOp rNotA2 ta tb)) (mTr blD (mOp isNotD ma mb)) := t_cmp op_isNotA o2_isNot (nomark _) ha hb
theorem t_din (hr : Room k X.A) (hm : behindInMarks .In b = false) (ha : CE X K W a ta ma) (hb : CE X K W b tb mb) : CT X K W (.Compare a [.In] [b] pos) (tB (tDIn ta tb)) (mTr blD (mOp dinD ma mb)) := ⟨pt_cmp (pc_din (hu1 hr) ha.p hb.p) hm, et_B (ev_din ha.v hb.v)⟩
theorem t_dnot (hr : Room k X.A) (hm : behindInMarks .NotIn b = false) (ha : CE X K W a ta ma) (hb : CE X K W b tb mb) : CT X K W (.Compare a [.NotIn] [b] pos) (tB (tDNotIn ta tb)) (mTr blD (mOp dnotD ma mb)) := ⟨pt_cmp (pc_dnotin (hu1 hr) ha.p hb.p) hm, et_B (ev_dnot ha.v hb.v)⟩
theorem t_chain {op op' : CmpOp} {r r' : R2} {f g : D → D → Option Rv} (ho : OpR X (compareOp op) r) (ho' : OpR X (compareOp op') r') (hf : Op2 K r f) (hg : Op2 K r' g) (ha : CE X K W a ta ma) (hb : CE X K W b tb mb) (hc : CE X K W c tc mc)
    (hm : lastMarks [op, op'] [b, c] = false := by with_unfolding_all rfl) : CT X K W (.Compare a [op, op'] [b, c] pos) (tTest (tChain r r' ta tb tc)) (mTr blD (mChain f g ma mb mc)) := ⟨pt_chain ho ho' ha.p hb.p hc.p hm, et_test (ev_chain hf hg ha.v hb.v hc.v)⟩
theorem t_lele (ha : CE X K W a ta ma) (hb : CE X K W b tb mb) (hc : CE X K W c tc mc) (hm : lastMarks [.LtE, .LtE] [b, c] = false := by with_unfolding_all rfl) :
    CT X K W (.Compare a [.LtE, .LtE] [b, c] pos) (tTest (tChain (rCmpA (fun i j => decide (i ≤ j)) (fun i j => !sLt j i)) (rCmpA (fun i j => decide (i ≤ j)) (fun i j => !sLt j i)) ta tb tc)) (mTr blD (mChain leD leD ma mb mc)) := t_chain op_leA op_leA o2_cmp o2_cmp ha hb hc hm
variable {u v : TT} {mu mv : M Bool}
theorem t_not (ha : CT X K W a u mu) : CT X K W (.UnaryOp .Not a pos) (tNot u) (mNot mu) := ⟨pt_not ha.p, et_not ha.v⟩
theorem w_and1 (ha : CT X K W a u mu) : CW X K W (.BoolOp .And [a] pos) u mu := ⟨pw_and1 ha.p, ha.v⟩
theorem w_or1 (ha : CT X K W a u mu) : CW X K W (.BoolOp .Or [a] pos) u mu := ⟨pw_or1 ha.p, ha.v⟩
theorem w_and {rest : List Expr} (ha : CT X K W a u mu) (hb : CW X K W (.BoolOp .And (b :: rest) pos) v mv) : CW X K W (.BoolOp .And (a :: b :: rest) pos) (tAnd u v) (mAnd mu mv) := ⟨pw_and ha.p hb.p, et_and ha.v hb.v⟩
theorem w_or {rest : List Expr} (ha : CT X K W a u mu) (hb : CW X K W (.BoolOp .Or (b :: rest) pos) v mv) : CW X K W (.BoolOp .Or (a :: b :: rest) pos) (tOr u v) (mOr mu mv) := ⟨pw_or ha.p hb.p, et_or ha.v hb.v⟩
theorem t_w (h : CW X K W a u mu) : CT X K W a u mu := ⟨h.p.pt, h.v⟩
theorem ts_nil : CTs X K W [] tYes mYes := ⟨pts_nil, tYes_ev⟩
theorem ts_one (h : CT X K W a u mu) : CTs X K W [a] u mu := ⟨pts_one h.p, h.v⟩

/-! ### arguments, displays, calls -/
theorem a_nil : CA X K W [] tNil mANil := ⟨pa_nil, ea_nil⟩
theorem a_cons (ha : CE X K W e te me) (hr : CA X K W es t m) (hs : starEach (e :: es) X.env = (false, eval e X.env) :: starEach es X.env := by rfl) : CA X K W (e :: es) (tCons te t) (mACons me m) := ⟨pa_cons ha.p hr.p hs, ea_cons ha.v hr.v⟩
theorem a_ref (i : Nat) {x : Str} (hr : CA X K W es t m) (hN : X.N[i]? = some x := by rfl) (hv : Vis X.env.scope x := by first | exact Or.inl rfl | exact Or.inr (Or.inl rfl) | exact Or.inr (Or.inr rfl)) (hd : (x == ("__debug__" : Str)) = false := by decide)
    (hcd : (x == ("__classdict__" : Str)) = false := by decide) (hs : starEach (.Name x pos :: es) X.env = (false, eval (.Name x pos) X.env) :: starEach es X.env := by rfl) : CA X K W (.Name x pos :: es) (tCons (tVar i) t) (mARef i m) := ⟨pa_cons (pv i hN hv hd hcd) hr.p hs, ea_ref hr.v⟩
theorem c_tup {n : Nat} (ha : CA X K W es t m) : CE X K W (.Tuple es n pos) (tTup t) (mTup m) := ⟨pe_tup ha.p, ev_tup ha.v⟩
theorem c_lst (ha : CA X K W es t m) : CE X K W (.List es pos) (tLst t) (mLst m) := ⟨pe_lst ha.p, ev_lst ha.v⟩
theorem c_cb1 {x : Str} {id : String} {r : List V → Hp → VK → Prop} {f : D → Option Rv} (hc : CallR X (.builtin id) r) (hf : Op1 K (fun x H Q => r [x] H Q) f) (hg : Gl X x) (hm : X.mg x = none) (hv : bootBuiltins x = some (.builtin id)) (ha : CE X K W e te me) (hn : x ≠ "__name__" := by decide) (hdb : (x == ("__debug__" : Str)) = false := by decide)
    (he : starEach (e :: []) X.env = (false, eval e X.env) :: starEach [] X.env := by rfl) (hpl : (backTo pos (starEach [] X.env)).any (·.1) = false := by rfl) : CE X K W (.Call (.Name x p1) [e] [] pos) (tCB r (tCons te tNil)) (mCB1 f me) := ⟨pe_callB hc hg hm hv (pa_cons ha.p pa_nil he) hn hdb he hpl, ev_cb1 hf ha.v⟩
theorem c_ct1 {x : Str} {id : String} {r : List V → Hp → VK → Prop} {f : D → Option Rv} (hc : CallR X (.type id) r) (hf : Op1 K (fun x H Q => r [x] H Q) f) (hg : Gl X x) (hm : X.mg x = none) (hv : bootBuiltins x = some (.type id)) (ha : CE X K W e te me) (hn : x ≠ "__name__" := by decide) (hdb : (x == ("__debug__" : Str)) = false := by decide)
    (he : starEach (e :: []) X.env = (false, eval e X.env) :: starEach [] X.env := by rfl) (hpl : (backTo pos (starEach [] X.env)).any (·.1) = false := by rfl) : CE X K W (.Call (.Name x p1) [e] [] pos) (tCB r (tCons te tNil)) (mCB1 f me) := ⟨pe_callTy hc hg hm hv (pa_cons ha.p pa_nil he) hn hdb he hpl, ev_cb1 hf ha.v⟩
theorem c_cb {x : Str} {id : String} {r : List V → Hp → VK → Prop} {f : List D → Option Rv} (hc : CallR X (.builtin id) r) (hf : CallOk K r f) (hg : Gl X x) (hm : X.mg x = none) (hv : bootBuiltins x = some (.builtin id)) (ha : CA X K W (e :: es) t m) (hn : x ≠ "__name__" := by decide) (hdb : (x == ("__debug__" : Str)) = false := by decide)
    (he : starEach (e :: es) X.env = (false, eval e X.env) :: starEach es X.env := by rfl) (hpl : (backTo pos (starEach es X.env)).any (·.1) = false := by rfl) : CE X K W (.Call (.Name x p1) (e :: es) [] pos) (tCB r t) (mCB f m) := ⟨pe_callB hc hg hm hv ha.p hn hdb he hpl, ev_cb hf ha.v⟩
theorem c_len (hg : Gl X "len") (hm : X.mg "len" = none) (hK : X.K = K := by rfl) (ha : CE X K W e te me) (he : starEach (e :: []) X.env = (false, eval e X.env) :: starEach [] X.env := by rfl) (hpl : (backTo pos (starEach [] X.env)).any (·.1) = false := by rfl) :
    CE X K W (.Call (.Name "len" p1) [e] [] pos) (tCB (fun xs H Q => ∃ x n, xs = [x] ∧ LenV K x H n ∧ Q (.int n) H) (tCons te tNil)) (mCB1 lenD me) := by subst hK; exact c_cb1 call_len c1_len hg hm PySem.boot_len ha (by decide) (by decide) he hpl
end
end Cz

/-! # CzR -/
namespace Cz
open L2 PyProof.Rows PySem.Spec PySem
section
variable {X : Cx} {K : PySem.W.Frag} {W : WX} {a b c e o : Expr} {es : List Expr} {pos p1 p2 p3 : Pos} {ta tb tc te : TE} {ma mb mc me : M Rv} {t : TA} {m : M (List Rv)} {k n : Nat}

/-! ### calls of what is built in -/
theorem c_abs (hg : Gl X "abs") (hm : X.mg "abs" = none) (ha : CE X K W e te me) (he : starEach (e :: []) X.env = (false, eval e X.env) :: starEach [] X.env := by rfl) (hpl : (backTo pos (starEach [] X.env)).any (·.1) = false := by rfl) :
    CE X K W (.Call (.Name "abs" p1) [e] [] pos) (tCB rAbs1 (tCons te tNil)) (mCB1 absD me) := c_cb1 cr_abs1 c1_abs hg hm boot_abs ha (by decide) (by decide) he hpl
theorem c_int (hg : Gl X "int") (hm : X.mg "int" = none) (ha : CE X K W e te me) (he : starEach (e :: []) X.env = (false, eval e X.env) :: starEach [] X.env := by rfl) (hpl : (backTo pos (starEach [] X.env)).any (·.1) = false := by rfl) :
    CE X K W (.Call (.Name "int" p1) [e] [] pos) (tCB rInt1 (tCons te tNil)) (mCB1 int1D me) := c_ct1 cr_int1 c1_int hg hm boot_int ha (by decide) (by decide) he hpl
theorem c_tupOf (hg : Gl X "tuple") (hm : X.mg "tuple" = none) (hK : X.K = K := by rfl) (ha : CE X K W e te me) (he : starEach (e :: []) X.env = (false, eval e X.env) :: starEach [] X.env := by rfl) (hpl : (backTo pos (starEach [] X.env)).any (·.1) = false := by rfl) :
    CE X K W (.Call (.Name "tuple" p1) [e] [] pos) (tCB (rTupOf K) (tCons te tNil)) (mCB1 tupD me) := by subst hK; exact c_ct1 cr_tupOf c1_tup hg hm boot_tuple ha (by decide) (by decide) he hpl
theorem c_lstOf (hg : Gl X "list") (hm : X.mg "list" = none) (hK : X.K = K := by rfl) (ha : CE X K W e te me) (he : starEach (e :: []) X.env = (false, eval e X.env) :: starEach [] X.env := by rfl) (hpl : (backTo pos (starEach [] X.env)).any (·.1) = false := by rfl) :
    CE X K W (.Call (.Name "list" p1) [e] [] pos) (tCB (rLstOf K) (tCons te tNil)) (mCB1 listD me) := by subst hK; exact c_ct1 cr_lstOf c1_lst hg hm boot_list ha (by decide) (by decide) he hpl
theorem c_listD (hc : X.calm = true) (hg : Gl X "list") (hm : X.mg "list" = none) (ha : CE X K W e te me) (he : starEach (e :: []) X.env = (false, eval e X.env) :: starEach [] X.env := by rfl) (hpl : (backTo pos (starEach [] X.env)).any (·.1) = false := by rfl) :
    CE X K W (.Call (.Name "list" p1) [e] [] pos) (tCB rListDA (tCons te tNil)) (mCB1 listDD me) := c_ct1 (cr_listDA hc) c1_listD hg hm boot_list ha (by decide) (by decide) he hpl
theorem c_min2 (hc : X.calm = true) (hg : Gl X "min") (hm : X.mg "min" = none) (ha : CA X K W (e :: es) t m) (he : starEach (e :: es) X.env = (false, eval e X.env) :: starEach es X.env := by rfl) (hpl : (backTo pos (starEach es X.env)).any (·.1) = false := by rfl) :
    CE X K W (.Call (.Name "min" p1) (e :: es) [] pos) (tCB rMin2 t) (mCB min2D m) := c_cb (cr_min2 hc) co_min2 hg hm boot_min ha (by decide) (by decide) he hpl
theorem c_max2 (hc : X.calm = true) (hg : Gl X "max") (hm : X.mg "max" = none) (ha : CA X K W (e :: es) t m) (he : starEach (e :: es) X.env = (false, eval e X.env) :: starEach es X.env := by rfl) (hpl : (backTo pos (starEach es X.env)).any (·.1) = false := by rfl) :
    CE X K W (.Call (.Name "max" p1) (e :: es) [] pos) (tCB rMax2 t) (mCB max2D m) := c_cb (cr_max2 hc) co_max2 hg hm boot_max ha (by decide) (by decide) he hpl
theorem c_min (hc : X.calm = true) (hg : Gl X "min") (hm : X.mg "min" = none) (hK : X.K = K := by rfl) (ha : CE X K W e te me) (he : starEach (e :: []) X.env = (false, eval e X.env) :: starEach [] X.env := by rfl) (hpl : (backTo pos (starEach [] X.env)).any (·.1) = false := by rfl) :
    CE X K W (.Call (.Name "min" p1) [e] [] pos) (tCB (rMin K) (tCons te tNil)) (mCB1 minD me) := by subst hK; exact c_cb1 (cr_min hc) c1_min hg hm boot_min ha (by decide) (by decide) he hpl
theorem c_max (hc : X.calm = true) (hg : Gl X "max") (hm : X.mg "max" = none) (hK : X.K = K := by rfl) (ha : CE X K W e te me) (he : starEach (e :: []) X.env = (false, eval e X.env) :: starEach [] X.env := by rfl) (hpl : (backTo pos (starEach [] X.env)).any (·.1) = false := by rfl) :
    CE X K W (.Call (.Name "max" p1) [e] [] pos) (tCB (rMax K) (tCons te tNil)) (mCB1 maxD me) := by subst hK; exact c_cb1 (cr_max hc) c1_max hg hm boot_max ha (by decide) (by decide) he hpl
theorem c_sum (hc : X.calm = true) (hg : Gl X "sum") (hm : X.mg "sum" = none) (hK : X.K = K := by rfl) (ha : CE X K W e te me) (he : starEach (e :: []) X.env = (false, eval e X.env) :: starEach [] X.env := by rfl) (hpl : (backTo pos (starEach [] X.env)).any (·.1) = false := by rfl) :
    CE X K W (.Call (.Name "sum" p1) [e] [] pos) (tCB (rSum K) (tCons te tNil)) (mCB1 sumD me) := by subst hK; exact c_cb1 (cr_sum hc) c1_sum hg hm boot_sum ha (by decide) (by decide) he hpl
theorem c_all (hc : X.calm = true) (hg : Gl X "all") (hm : X.mg "all" = none) (hK : X.K = K := by rfl) (ha : CE X K W e te me) (he : starEach (e :: []) X.env = (false, eval e X.env) :: starEach [] X.env := by rfl) (hpl : (backTo pos (starEach [] X.env)).any (·.1) = false := by rfl) :
    CE X K W (.Call (.Name "all" p1) [e] [] pos) (tCB (rAll K) (tCons te tNil)) (mCB1 allB me) := by subst hK; exact c_cb1 (cr_all hc) c1_all hg hm boot_all ha (by decide) (by decide) he hpl
theorem c_any (hc : X.calm = true) (hg : Gl X "any") (hm : X.mg "any" = none) (hK : X.K = K := by rfl) (ha : CE X K W e te me) (he : starEach (e :: []) X.env = (false, eval e X.env) :: starEach [] X.env := by rfl) (hpl : (backTo pos (starEach [] X.env)).any (·.1) = false := by rfl) :
    CE X K W (.Call (.Name "any" p1) [e] [] pos) (tCB (rAny K) (tCons te tNil)) (mCB1 anyB me) := by subst hK; exact c_cb1 (cr_any hc) c1_any hg hm boot_any ha (by decide) (by decide) he hpl
theorem c_sorted (hg : Gl X "sorted") (hm : X.mg "sorted" = none) (hK : X.K = K := by rfl) (ha : CE X K W e te me) (he : starEach (e :: []) X.env = (false, eval e X.env) :: starEach [] X.env := by rfl) (hpl : (backTo pos (starEach [] X.env)).any (·.1) = false := by rfl) :
    CE X K W (.Call (.Name "sorted" p1) [e] [] pos) (tCB (rSortA K) (tCons te tNil)) (mCB1 sortD me) := by subst hK; exact c_cb1 cr_sortA c1_sort hg hm boot_sorted ha (by decide) (by decide) he hpl
/-- isinstance(x, c); the class: a constant's reading -/
theorem c_isi1 {T : IsTab} {cv : V} {u : Value} (hc : ClsV cv u) (hT : T.ok K [u]) (hg : Gl X "isinstance") (hm : X.mg "isinstance" = none) (pc : PE X c (tC cv)) (hK : X.K = K := by rfl) (ha : CE X K W e te me)
    (he : starEach (e :: [c]) X.env = (false, eval e X.env) :: starEach [c] X.env := by rfl) (hs2 : starEach (c :: []) X.env = (false, eval c X.env) :: starEach [] X.env := by rfl) (hpl : (backTo pos (starEach [c] X.env)).any (·.1) = false := by rfl) :
    CE X K W (.Call (.Name "isinstance" p1) [e, c] [] pos) (tCB (rIsi K) (tCons te (tCons (tC cv) tNil))) (mIsi T me) := by subst hK; exact ⟨pe_callB call_isi hg hm boot_isinstance (pa_cons ha.p (pa_cons pc pa_nil hs2) he) (by decide) (by decide) he hpl, ev_isi1 hc hT ha.v⟩
theorem c_isiT {T : IsTab} {cs : List V} {us : List Value} {nn : Nat} (hc : Paired ClsV cs us) (hz : cs.length ≤ sizeLine) (hT : T.ok K us) (hg : Gl X "isinstance") (hm : X.mg "isinstance" = none) (pc : PA X es (tCs cs)) (hK : X.K = K := by rfl) (ha : CE X K W e te me)
    (he : starEach (e :: [.Tuple es nn p2]) X.env = (false, eval e X.env) :: starEach [.Tuple es nn p2] X.env := by rfl) (hs2 : starEach (.Tuple es nn p2 :: []) X.env = (false, eval (.Tuple es nn p2) X.env) :: starEach [] X.env := by rfl) (hpl : (backTo pos (starEach [.Tuple es nn p2] X.env)).any (·.1) = false := by rfl) :
    CE X K W (.Call (.Name "isinstance" p1) [e, .Tuple es nn p2] [] pos) (tCB (rIsiT K) (tCons te (tCons (tTup (tCs cs)) tNil))) (mIsi T me) := by subst hK; exact ⟨pe_callB call_isiT hg hm boot_isinstance (pa_cons ha.p (pa_cons (pe_tup pc) pa_nil hs2) he) (by decide) (by decide) he hpl, ev_isiT hc hz hT ha.v⟩
theorem c_join {x : Str} {j : Nat} (hK : X.K = K := by rfl) (ha : CE X K W e te me) (hs : starEach [e] X.env = [(false, eval e X.env)] := by rfl) (hbase : attributeBase (.Constant (.str x) j p2) "join" X.env (eval (.Constant (.str x) j p2) X.env) = eval (.Constant (.str x) j p2) X.env := by rfl) (hline : (p1.endLine == pos.line) = true := by rfl) :
    CE X K W (.Call (.Attribute (.Constant (.str x) j p2) "join" p1) [e] [] pos) (tM1 (rJoin K) (tC (.str x)) te) (mUn (joinD x) me) := by subst hK; exact ⟨pe_join pe_str ha.p hs hbase hline, ev_join ha.v⟩

/-! ### calls of defs -/
theorem c_call {kk : Nat} {x : Str} {g : Addr} {fd : FuncData} {ps : List Str} {f : MF} {dvs : List V} {ds : List Value} {dd : List D} (F : FnOk X.prog X.w X.K X.mg X.base CX0 kk g fd ps (spM K f)) (hr : Room kk X.A) (hg : Gl X x) (hm : X.mg x = some (.ref g)) (hk : PySem.W.keepIn X.K (.ref g) = true) (hb : Binds X.K fd ps ds) (hv : Vals dvs ds) (hd : ∀ F, RpL K F dd dvs)
    (ha : CA X K W (e :: es) t m) (hdb : (x == ("__debug__" : Str)) = false := by decide) (he : starEach (e :: es) X.env = (false, eval e X.env) :: starEach es X.env := by rfl) (hpl : (backTo pos (starEach es X.env)).any (·.1) = false := by rfl) :
    CE X K W (.Call (.Name x p1) (e :: es) [] pos) (tCall (spM K f) dvs (fun _ _ _ => False) t) (mCall f dd m) := ⟨pe_call F hr hg hm hk hb hv (fun _ _ _ _ _ _ _ h => h.elim) ha.p hdb he hpl, ev_call hd ha.v⟩

/-! ### comprehensions -/
theorem c_lc {tg iter elt : Expr} {ifs : List Expr} {scope : Scope} {own : List (Str × Nat)} {wi : TI} {g : TG} {tt : TT} {mi : M (List D)} {f : MG} {tv : List Nat} {mt : M Bool} (hc : X.calm = true) (hN : X.N.Nodup) (ok : BlkOk X.N X.env.scope scope own) (ht : ∀ j ∈ tv, j ∈ own.map (·.2)) (hi : CI X K W tg iter wi mi)
    (hg : ∀ (s : Shared) (H : Hp) (C : Addr) (cl : List (Str × Addr)) (fp : List Addr), CG (X.blk s H scope (compEnvC scope cl C X.env) fp) K tg g f tv) (hts : ∀ (s : Shared) (H : Hp) (C : Addr) (cl : List (Str × Addr)) (fp : List Addr), CTs (X.blk s H scope (compEnvC scope cl C X.env) fp) K W0 ifs tt mt)
    (he : ∀ (s : Shared) (H : Hp) (C : Addr) (cl : List (Str × Addr)) (fp : List Addr), CE (X.blk s H scope (compEnvC scope cl C X.env) fp) K W0 elt te me) (hs : ∀ x, foldedSetIterable iter X.env x = pure x := by intro _; rfl) (s0 : Shared) (H0 : Hp) :
    CE X K W (.ListComp elt [⟨tg, iter, ifs, 0⟩] scope pos) (tLc wi g tt te (own.map (·.2))) (mLc mi f mt me (own.map (·.2))) :=
  ⟨pe_lc hc hN hi.p ok (fun s H C cl fp => (hg s H C cl fp).p) (fun s H C cl fp => (hts s H C cl fp).p) (fun s H C cl fp => (he s H C cl fp).p) hs, ev_lc hi.v (hg s0 H0 0 [] []).v ht (hts s0 H0 0 [] []).v (he s0 H0 0 [] []).v⟩

/-! ### sources, targets -/
theorem i_seq {tg : Expr} (hK : X.K = K := by rfl) (ha : CE X K W e te me) : CI X K W tg e (iSeq K te) (mItems me) := by subst hK; exact ⟨pi_seq ha.p, ei_seq ha.v⟩
theorem i_r1 {tg : Expr} (hg : Gl X "range") (hm : X.mg "range" = none) (ha : CA X K W [a] t m) (hs : starEach [a] X.env = [(false, eval a X.env)] := by rfl) : CI X K W tg (.Call (.Name "range" p1) [a] [] pos) (iRng1 t) (mRng rng1D m) := ⟨pi_range1 hg hm ha.p hs, ei_range1 ha.v⟩
theorem i_r2 {tg : Expr} (hg : Gl X "range") (hm : X.mg "range" = none) (ha : CA X K W [a, b] t m) (hs : starEach [a, b] X.env = [(false, eval a X.env), (false, eval b X.env)] := by rfl) (hs2 : starEach [b] X.env = [(false, eval b X.env)] := by rfl) : CI X K W tg (.Call (.Name "range" p1) [a, b] [] pos) (iRng2 t) (mRng rng2D m) := ⟨pi_range2 hg hm ha.p hs hs2, ei_range2 ha.v⟩
theorem i_enum {elts : List Expr} {kk : Nat} (hg : Gl X "enumerate") (hm : X.mg "enumerate" = none) (hK : X.K = K := by rfl) (ha : CA X K W [e] t m) (hs : starEach [e] X.env = [(false, eval e X.env)] := by rfl) : CI X K W (.Tuple elts kk p2) (.Call (.Name "enumerate" p1) [e] [] pos) (iEnum K t) (mRng enumD m) := by subst hK; exact ⟨pi_enum hg hm ha.p hs, ei_enum ha.v⟩
theorem g_n (i : Nat) {x : Str} (hN : X.N.Nodup) (hi : X.N[i]? = some x) (hx : Loc X.env.scope x) (hf : X.fn x = true ∨ X.env.scope.names.lookup x = some .local := by first | exact .inl rfl | exact .inr rfl | assumption) : CG X K (.Name x pos) (gName i) (mgName i) [i] := ⟨pg_name hN hi hx hf, eg_name⟩
theorem g_nil : CGs X K [] gNil mgNil [] := ⟨pgs_nil, eg_nil⟩
theorem g_cons {g : TG} {gs : TGs} {f : MG} {fs : MGs} {tv us : List Nat} (h1 : CG X K e g f tv) (h2 : CGs X K es gs fs us) (hs : (assignEach (e :: es) X.env).map (·.2) = assign e X.env :: (assignEach es X.env).map (·.2) := by rfl) : CGs X K (e :: es) (gCons g gs) (mgCons f fs) (tv ++ us) := ⟨pgs_cons h1.p h2.p hs, eg_cons h1.v h2.v⟩
theorem g_tup {kk n : Nat} {gs : TGs} {fs : MGs} {tv : List Nat} (hc : X.calm = true) (hK : X.K = K := by rfl) (h : CGs X K es gs fs tv) (hn : (assignEach es X.env).length = n := by rfl) (hst : (assignEach es X.env).findIdx? (·.1) = none := by rfl) : CG X K (.Tuple es kk pos) (gTup K n gs) (mgTup n fs) tv := by subst hK; exact ⟨pg_tup hc h.p hn hst, eg_tup h.v⟩

/-! ### statements -/
variable {st : Stmt} {rest body els : List Stmt} {u v : TS} {mu mv : MS}
theorem s_nil : CSs X K W [] tNext mNext := ⟨pss_nil, es_next⟩
theorem s_cons (h1 : CS X K W st u mu) (h2 : CSs X K W rest v mv) : CSs X K W (st :: rest) (tSeq u v) (mSeq mu mv) := ⟨pss_cons h1.p h2.p, es_seq h1.v h2.v⟩
theorem s_one (h1 : CS X K W st u mu) : CSs X K W [st] u mu := ⟨pss_one h1.p, h1.v⟩
theorem s_pass : CS X K W (.Pass pos) tNext mNext := ⟨ps_pass, es_next⟩
theorem s_break : CS X K W (.Break pos) tBreak mBreak := ⟨ps_break, es_break⟩
theorem s_cont : CS X K W (.Continue pos) tCont mCont := ⟨ps_continue, es_cont⟩
theorem s_ret (ha : CE X K W e te me) : CS X K W (.Return (some e) pos) (tRet te) (mRet me) := ⟨ps_ret ha.p, es_ret ha.v⟩
theorem s_retN : CS X K W (.Return none pos) tRetN mRetN := ⟨ps_retN, es_retN⟩
theorem s_expr (ha : CE X K W e te me) (hs : swapsWith e none pos.line X.env = pure false := by rfl) : CS X K W (.Expr e pos) (tDrop te) (mDrop me) := ⟨ps_expr ha.p hs, es_drop ha.v⟩
theorem s_if {tt : TT} {mt : M Bool} (hc : CT X K W c tt mt) (ha : CSs X K W body u mu) (hb : CSs X K W els v mv) : CS X K W (.If c body els pos) (tIfS tt u v) (mIfS mt mu mv) := ⟨ps_if hc.p ha.p hb.p, es_if hc.v ha.v hb.v⟩
theorem s_set (i : Nat) {x : Str} (hN : X.N.Nodup) (hi : X.N[i]? = some x) (hx : Loc X.env.scope x) (he : CE X K W e te me) (hs : swapsWith e (some (.Name x p1)) pos.line X.env = pure false := by rfl) (hf : X.fn x = true ∨ X.env.scope.names.lookup x = some .local := by first | exact .inl rfl | exact .inr rfl | assumption) :
    CS X K W (.Assign [.Name x p1] e pos) (tAsg te (gName i)) (mAsg i me) := ⟨ps_set hN hi hx he.p hs hf, es_asg he.v⟩
theorem s_setG {tg : Expr} {g : TG} {f : MG} {tv : List Nat} (he : CE X K W e te me) (hg : CG X K tg g f tv) (hs : swapsWithSole [tg] e pos.line X.env = pure false := by rfl) (hw : swappedStores [tg] e X.env = pure none := by rfl) (h1 : (assignEach [tg] X.env).map (·.2) = [assign tg X.env] := by rfl) :
    CS X K W (.Assign [tg] e pos) (tAsg te g) (mAsgG f me) := ⟨ps_asg he.p hg.p hs hw h1, es_asgG hg.v he.v⟩
theorem s_setL (i : Nat) {x : Str} {ti : TE} {mi : M Rv} (hN : X.N[i]? = some x) (hv : Vis X.env.scope x) (he : CE X K W e te me) (hi : CE X K W a ti mi)
    (ha : ∀ v, assign (.Subscript (.Name x p1) a p2) X.env v = (do
      let ov ← holding [v] (eval (.Name x p1) X.env)
      let iv ← holding [v, ov] (eval a X.env)
      standAt p2; holding [v, ov, iv] (setItem ov iv v)
      release [v, ov, iv] []) := by intro _; rfl) (hs : swapsWithSole [.Subscript (.Name x p1) a p2] e pos.line X.env = pure false := by rfl) (hw : swappedStores [.Subscript (.Name x p1) a p2] e X.env = pure none := by rfl)
    (h1 : (assignEach [.Subscript (.Name x p1) a p2] X.env).map (·.2) = [assign (.Subscript (.Name x p1) a p2) X.env] := by rfl) (hd : (x == ("__debug__" : Str)) = false := by decide) (hcd : (x == ("__classdict__" : Str)) = false := by decide) :
    CS X K W (.Assign [.Subscript (.Name x p1) a p2] e pos) (tAsg te (gSub (tVar i) ti rSetL)) (mSetL i me mi) := ⟨ps_asg he.p (pg_sub (pe_var hN hv hd hcd) hi.p set_list ha) hs hw h1, es_setL he.v hi.v⟩
theorem s_dput (i : Nat) {x : Str} {tk : TE} {mk : M Rv} (hr : Room k X.A) (hN : X.N[i]? = some x) (hv : Vis X.env.scope x) (he : CE X K W e te me) (hk : CE X K W a tk mk) (hs : swapsWith e (some (.Subscript (.Name x p1) a p2)) pos.line X.env = pure false := by rfl) (hd : (x == ("__debug__" : Str)) = false := by decide) (hcd : (x == ("__classdict__" : Str)) = false := by decide) :
    CS X K W (.Assign [.Subscript (.Name x p1) a p2] e pos) (sDPut (tVar i) tk te) (mDPut i mk me) := ⟨ps_dput (hu1 hr) (pe_var hN hv hd hcd) hk.p he.p hs, es_dput he.v hk.v⟩
theorem s_aug (i : Nat) {x : Str} {op : Operator} {f : Int → Int → Int} (hN : X.N.Nodup) (hi : X.N[i]? = some x) (hx : Loc X.env.scope x) (ho : PIp X op (ipI f)) (he : CE X K W e te me) (hf : X.fn x = true ∨ X.env.scope.names.lookup x = some .local := by first | exact .inl rfl | exact .inr rfl | assumption) :
    CS X K W (.AugAssign (.Name x p1) op e pos) (tAug i te (ipI f)) (mAugI i f me) := ⟨ps_aug hN hi hx he.p ho hf, es_augI he.v⟩
theorem s_for {tg iter : Expr} {wi : TI} {mi : M (List D)} {g : TG} {f : MG} {tv : List Nat} (hp : PassesOwn (model X.prog X.w) X.A X.env X.xe) (hc : X.calm = true) (hi : CI X K W tg iter wi mi) (hg : CG X K tg g f tv) (hb : CSs X K W body u mu) (hs : ∀ x, foldedSetIterable iter X.env x = pure x := by intro _; rfl) :
    CS X K W (.For tg iter body [] pos) (tFor wi g u) (mFor mi f mu) := ⟨ps_for hp hc hi.p hg.p hb.p hs, es_for hi.v hg.v hb.v⟩
theorem s_while (n : Nat) {tt : TT} {mt : M Bool} (hp : PassesOwn (model X.prog X.w) X.A X.env X.xe) (hc : CT X K W c tt mt) (hb : CSs X K W body u mu) : CS X K W (.While c body [] pos) (tWhile tt u) (mWhile n mt mu) := ⟨ps_while hp hc.p hb.p, es_while n hc.v hb.v⟩
theorem s_never : CS X K W st tNever mNever := ⟨ps_never, es_never⟩
/-- x = [..] on one line -/
theorem s_setLc (i : Nat) {y : Str} {tg iter elt : Expr} {ifs : List Expr} {scope : Scope} {own : List (Str × Nat)} {wi : TI} {g : TG} {tt : TT} {mi : M (List D)} {f : MG} {tv : List Nat} {mt : M Bool} (hc : X.calm = true) (hN : X.N.Nodup) (hy : X.N[i]? = some y) (hyl : X.env.scope.names.lookup y = some .local)
    (hsw : swapsWith (.ListComp elt [⟨tg, iter, ifs, 0⟩] scope p2) (some (.Name y p1)) pos.line X.env = pure true) (ok : BlkOk X.N X.env.scope scope own) (ht : ∀ j ∈ tv, j ∈ own.map (·.2)) (hi : CI X K W tg iter wi mi)
    (hg : ∀ (s : Shared) (H : Hp) (C : Addr) (cl : List (Str × Addr)) (fp : List Addr), CG (X.blk s H scope (compEnvC scope cl C X.env) fp) K tg g f tv) (hts : ∀ (s : Shared) (H : Hp) (C : Addr) (cl : List (Str × Addr)) (fp : List Addr), CTs (X.blk s H scope (compEnvC scope cl C X.env) fp) K W0 ifs tt mt)
    (he : ∀ (s : Shared) (H : Hp) (C : Addr) (cl : List (Str × Addr)) (fp : List Addr), CE (X.blk s H scope (compEnvC scope cl C X.env) fp) K W0 elt te me) (hs : ∀ x, foldedSetIterable iter X.env x = pure x := by intro _; rfl) (s0 : Shared) (H0 : Hp) :
    CS X K W (.Assign [.Name y p1] (.ListComp elt [⟨tg, iter, ifs, 0⟩] scope p2) pos) (tAsg (tLc wi g tt te (own.map (·.2))) (gName i)) (mAsg i (mLc mi f mt me (own.map (·.2)))) :=
  ⟨ps_setLc hc hN hy hyl hsw hi.p ok (fun s H C cl fp => (hg s H C cl fp).p) (fun s H C cl fp => (hts s H C cl fp).p) (fun s H C cl fp => (he s H C cl fp).p) hs, es_asg (ev_lc hi.v (hg s0 H0 0 [] []).v ht (hts s0 H0 0 [] []).v (he s0 H0 0 [] []).v)⟩
/-- x.append(..) and the like, x a name's list -/
theorem c_lm (i : Nat) {x name : Str} {id : String} {r : V → List V → Hp → VK → Prop} {f : List D → List D → Option (D × List D)} (slot : Slot "list" name id) (hty : typeOf (.builtin id) = pure (.type "method_descriptor")) (hm : MtR X id r) (hr : LmOk K r f) (hN : X.N[i]? = some x) (hv : Vis X.env.scope x) (hK : X.K = K := by rfl) (ha : CA X K W (e :: es) t m)
    (hbase : attributeBase (.Name x p2) name X.env (eval (.Name x p2) X.env) = eval (.Name x p2) X.env := by rfl)
    (hfew : ((backTo pos (starEach (e :: es) X.env)).all (fun x => !x.1) && (backToKw pos (keywordEach [] X.env)).all (fun x => x.1.isSome) && decide ((e :: es).length + ([] : List Keyword).length + (if ([] : List Keyword).isEmpty then 0 else 1) < 30)) = true := by rfl)
    (hline : (p1.endLine == pos.line) = true := by rfl) (hs : starEach (e :: es) X.env = (false, eval e X.env) :: starEach es X.env := by rfl) (hplain : (backTo pos (starEach es X.env)).any (·.1) = false := by rfl) (hd : (x == ("__debug__" : Str)) = false := by decide) (hcd : (x == ("__classdict__" : Str)) = false := by decide) :
    CE X K W (.Call (.Attribute (.Name x p2) name p1) (e :: es) [] pos) (tBM K "list" r (tVar i) t) (mLm i f m) := by subst hK; exact ⟨pe_bm PySem.F.plainAttrs_list slot hty hm (pe_var hN hv hd hcd) ha.p hbase hfew hline hs hplain, ev_lm hr ha.v⟩
end
end Cz

/-! # CzV -/
namespace Cz
open L2 PyProof.Rows PySem.Spec PySem
variable {K : PySem.W.Frag}

/-! ## objects: made, stored to -/
/-- one more slot at the head, for an object just made -/
theorem RS.cons {F H : Hp} {σ : L2.St} {s : SS} {x dx : Addr} {u ho : HO} {o : OD} (r : RS K F H σ s) (h1 : H x = none) (h2 : H dx = none) (hn : dx ≠ x) (ro : RpO K F o ho) : RS K F (upd (upd H dx u) x ho) (some (.ref x) :: σ) (some (.br o) :: s) := by
  have keep : ∀ a z, H a = some z → (upd (upd H dx u) x ho) a = some z := fun a z h => by
    rw [upd_ne (ne_of_none h h1), upd_ne (ne_of_none h h2)]
    exact h
  refine ⟨fun a z h => keep a z (r.sub _ _ h), by rw [List.length_cons, List.length_cons, r.len], fun i d h => ?_, fun i sv o' e1 e2 => ?_, fun i j si sj oi oj p e1 e2 e3 e4 e5 e6 => ?_⟩
  · cases i with
    | zero => cases h
    | succ i => exact r.fz i d h
  · cases i with
    | zero =>
      cases e1
      cases e2
      exact ⟨x, ho, rfl, r.sub.free h1, upd_same, ro⟩
    | succ i =>
      obtain ⟨p, hp, a1, a2, a3, a4⟩ := r.ow i sv o' e1 e2
      exact ⟨p, hp, a1, a2, keep _ _ a3, a4⟩
  · have no : ∀ (k : Nat) (sk : SV) (ok' : OD), s[k]? = some (some sk) → SV.own sk = some ok' → σ[k]? ≠ some (some (.ref x)) := fun k sk ok' q1 q2 q3 => by
      obtain ⟨p, hp, a1, a2, a3, a4⟩ := r.ow k sk ok' q1 q2
      rw [q3] at a1
      cases a1
      rw [h1] at a3
      cases a3
    cases i with
    | zero =>
      cases e5
      cases j with
      | zero => rfl
      | succ j => exact absurd e6 (no j sj oj e3 e4)
    | succ i =>
      cases j with
      | zero =>
        cases e6
        exact absurd e5 (no i si oi e1 e2)
      | succ j => exact congrArg (· + 1) (r.ne i j si sj oi oj p e1 e2 e3 e4 e5 e6)
theorem Go.tail {F H F' H' : Hp} {σ : L2.St} {s s' : SS} {x dx : Addr} {u ho : HO} {o o' : OD} (h1 : H x = none) (h2 : H dx = none) (hn : dx ≠ x) (g : Go K F (upd (upd H dx u) x ho) (some (.ref x) :: σ) (some (.br o) :: s) F' H' (some (.ref x) :: σ) (some (.br o') :: s')) :
    Go K F H σ s F' H' σ s' ∧ F' x = none ∧ (∃ ho', H' x = some ho' ∧ RpO K F' o' ho') ∧ ¬ Ow σ s' x := by
  have up : ∀ a z, H a = some z → (upd (upd H dx u) x ho) a = some z := fun a z h => by
    rw [upd_ne (ne_of_none h h1), upd_ne (ne_of_none h h2)]
    exact h
  have dn : ∀ a, (upd (upd H dx u) x ho) a = none → H a = none := fun a h => by
    cases e : H a with
    | none => rfl
    | some z => rw [up a z e] at h; cases h
  have ow1 : ∀ a, Ow (some (.ref x) :: σ) (some (.br o) :: s) a → a = x ∨ Ow σ s a := fun a ⟨i, sv, o2, e1, e2, e3⟩ => by
    cases i with
    | zero => cases e3; exact .inl rfl
    | succ i => exact .inr ⟨i, sv, o2, e1, e2, e3⟩
  have ow2 : ∀ a, Ow σ s' a → Ow (some (.ref x) :: σ) (some (.br o') :: s') a := fun a ⟨i, sv, o2, e1, e2, e3⟩ => ⟨i + 1, sv, o2, e1, e2, e3⟩
  obtain ⟨p, ho', a1, a2, a3, a4⟩ := g.rs.ow 0 (.br o') o' rfl rfl
  cases a1
  have nox : ¬ Ow σ s' x := fun ⟨i, sv, o2, e1, e2, e3⟩ => by
    have q := g.rs.ne 0 (i + 1) (.br o') sv o' o2 x rfl rfl e1 e2 rfl e3
    cases q
  refine ⟨⟨⟨g.rs.sub, ?_, fun i d h => g.rs.fz (i + 1) d h, fun i sv o2 e1 e2 => g.rs.ow (i + 1) sv o2 e1 e2, fun i j si sj oi oj q e1 e2 e3 e4 e5 e6 => ?_⟩, g.fr, fun a z h n => ?_, fun a h => ?_, fun a w => ?_, fun i o2 h => ?_, fun a h => dn a (g.dm a h)⟩, a2, ⟨ho', a3, a4⟩, nox⟩
  · have q := g.rs.len
    rw [List.length_cons, List.length_cons] at q
    omega
  · have q := g.rs.ne (i + 1) (j + 1) si sj oi oj q e1 e2 e3 e4 e5 e6
    omega
  · refine g.kp a z (up a z h) fun w => ?_
    rcases ow1 a w with q | q
    · subst q
      rw [h1] at h
      cases h
    · exact n q
  · rcases g.nw a h with q | q | q | ⟨xs, q⟩
    · exact .inl q
    · exact .inr (.inl (dn a q))
    · rcases ow1 a q with q | q
      · subst q
        exact .inr (.inl h1)
      · exact .inr (.inr (.inl q))
    · by_cases e1 : a = x
      · subst e1
        exact .inr (.inl h1)
      · by_cases e2 : a = dx
        · subst e2
          exact .inr (.inl h2)
        · rw [upd_ne e1, upd_ne e2] at q
          exact .inr (.inr (.inr ⟨xs, q⟩))
  · rcases g.ow a (ow2 a w) with q | q
    · rcases ow1 a q with q | q
      · subst q
        exact .inr h1
      · exact .inl q
    · exact .inr (dn a q)
  · obtain ⟨e, o3, q⟩ := g.br (i + 1) o2 h
    exact ⟨e, o3, q⟩
def makeS (C : Addr) (f : MF) (rs : List Rv) (s1 : SS) : R Rv := opt (argS s1 rs) fun as => if (refs rs).Nodup then
  match f (.br (.obj C []) :: as) with
  | .ok (.d .non) s2 => opt (svs s2) fun as' => match as' with
    | .br o :: as2 => opt (backS s1 rs as2) fun s3 => .ok (.o o) s3
    | _ => .no
  | .ok _ _ => .no
  | .ex _ _ _ => .no
  | .no => .no else .no
def mMake (C : Addr) (f : MF) (ds : List D) (ma : M (List Rv)) : M Rv := fun s => (ma s).bind fun rs s1 => makeS C f (rs ++ ds.map .d) s1
theorem ev_make {W : WX} {C : Addr} {f : MF} {ds : List D} {dvs : List V} {t : TA} {ma : M (List Rv)} (hd : ∀ F, RpL K F ds dvs) (ha : EvA K W t ma) : EvX K W (tMake C (spM K f) dvs (fun _ _ _ => False) t) (mMake C f ds ma) := by
  intro F H σ s Q rs w
  refine ha.step (Go.refl rs) w fun rvs s1 vs F1 H1 g1 _ h1 w1 => ?_
  intro x dx hx hdx hn
  have ra := h1.append (hd F1)
  obtain ⟨as, ea, w2⟩ := opt_wn w1
  split at w2
  · rename_i nd
    have r0 := g1.rs.lend ra ea nd
    have r1 := r0.cons (o := .obj C []) (u := .own x) hx hdx hn (RpO.obj (dx := dx) .nil)
    refine ⟨F1, .br (.obj C []) :: as, r1, ?_⟩
    cases e : f (.br (.obj C []) :: as) with
    | no => rw [e] at w2; exact w2.elim
    | ex c l s2 => rw [e] at w2; exact w2.elim
    | ok r s2 =>
      rw [e] at w2
      cases r with
      | b i => exact w2.elim
      | o o => exact w2.elim
      | d d =>
        cases d with
        | non =>
          obtain ⟨as', e1, w3⟩ := opt_wn w2
          have e2 := svs_eq e1
          subst e2
          refine ⟨as', rfl, fun v F' H' g h nb => ?_⟩
          cases as' with
          | nil => exact w3.elim
          | cons a as2 =>
            cases a with
            | fz d => exact w3.elim
            | ow d => exact w3.elim
            | br o' =>
              obtain ⟨s3, e3, w4⟩ := opt_wn w3
              have hv : v = .non := by cases h; rfl
              refine ⟨hv, ?_⟩
              obtain ⟨gt, b1, ⟨ho', b2, b3⟩, b4⟩ := Go.tail hx hdx hn g
              obtain ⟨gc, own⟩ := Go.call g1.rs ra ea nd gt e3
              exact w4 _ F' H' (g1.trans gc) ⟨x, ho', rfl, b1, b2, b3, g1.dm x hx, fun z => by
                obtain ⟨_, u2, q⟩ := g1.rs.owF (own x z)
                rw [hx] at q
                cases q⟩
        | _ => exact w2.elim
  · exact w2.elim
/-! ### an attribute stored -/
def putA (f : Str) (d : D) : List (Str × D) → List (Str × D)
  | [] => [(f, d)]
  | (g, x) :: r => if g = f then (g, d) :: r else (g, x) :: putA f d r
theorem RpF.put {F : Hp} {f : Str} {d : D} {v : V} (h : Rp K F d v) : ∀ {l : List (Str × D)} {fs : List (Str × V)}, RpF K F l fs → RpF K F (putA f d l) (putF f v fs)
  | _, _, .nil => .cons h .nil
  | _, _, .cons (f := g) q r => by
    unfold putA putF
    split
    · exact .cons h r
    · exact .cons q (RpF.put h r)
theorem RpF.length {F : Hp} : ∀ {l : List (Str × D)} {fs : List (Str × V)}, RpF K F l fs → l.length = fs.length
  | _, _, .nil => rfl
  | _, _, .cons _ r => congrArg (· + 1) (RpF.length r)
def mSetA (Cs : List Addr) (i : Nat) (f : Str) (me : M Rv) : MS := fun s => (me s).out fun r s1 => (frz r s1).out fun d s2 => optO (ownAt s2 i) fun p => match p.2 with
  | .obj C l => if C ∈ Cs ∧ l.length < 1000 then .nx (s2.set i (some (p.1.put (.obj C (putA f d l))))) else .no
  | _ => .no
theorem es_setA {W : WX} {Cs : List Addr} {i : Nat} {f : Str} {te : TE} {me : M Rv} (hc : ∀ C ∈ Cs, Cls K C ∧ NoAttr K C f) (he : EvX K W te me) : EvS K W (sFld K (tVar i) te f) (mSetA Cs i f me) := by
  intro F H σ s D rs w
  refine he.stepS2 (Go.refl rs) w fun r s1 v F1 H1 g1 _ h1 w1 => ?_
  obtain ⟨d, s2, e, w2⟩ := frz_out w1
  obtain ⟨F2, g2, _, hd⟩ := frz_ok g1 h1 e
  obtain ⟨⟨sv, o⟩, e0, w3⟩ := optO_wn w2
  obtain ⟨a1, a2, p, ho, a3, a4, a5, a6⟩ := ownAt_ok g2.rs e0
  cases o with
  | obj C l =>
    simp only at w3
    split at w3
    · rename_i hm
      cases a6 with
      | obj rf =>
        rename_i dx fs
        exact ⟨.ref p, a3, p, C, dx, fs, rfl, a5, (hc C hm.1).1, (hc C hm.1).2, by rw [← rf.length]; exact hm.2, w3 σ F2 _ (g2.put a1 a2 a3 (RpO.obj (rf.put hd)))⟩
    · exact w3.elim
  | _ => exact w3.elim

section
variable {X : Cx} {W : WX} {a b c e o : Expr} {es : List Expr} {pos p1 p2 p3 : Pos} {ta tb tc te : TE} {ma mb mc me : M Rv} {t : TA} {m : M (List Rv)} {k n : Nat}
theorem c_fld {Cs : List Addr} {f : Str} (hc : ∀ C ∈ Cs, Cls K C ∧ NoAttr K C f) (hK : X.K = K := by rfl) (he : CE X K W e te me) (hb : attributeBase e f X.env (eval e X.env) = eval e X.env := by rfl) : CE X K W (.Attribute e f pos) (tFld K te f) (mFld Cs f me) := by subst hK; exact ⟨pe_fld he.p hb, ev_fld hc he.v⟩
theorem s_setA {Cs : List Addr} {f : Str} (i : Nat) {x : Str} (hc : ∀ C ∈ Cs, Cls K C ∧ NoAttr K C f) (hN : X.N[i]? = some x) (hv : Vis X.env.scope x) (hK : X.K = K := by rfl) (he : CE X K W e te me) (hs : swapsWith e (some (.Attribute (.Name x p1) f p2)) pos.line X.env = pure false := by rfl) (hd : (x == ("__debug__" : Str)) = false := by decide) (hcd : (x == ("__classdict__" : Str)) = false := by decide) :
    CS X K W (.Assign [.Attribute (.Name x p1) f p2] e pos) (sFld K (tVar i) te f) (mSetA Cs i f me) := by subst hK; exact ⟨ps_fld (pe_var hN hv hd hcd) he.p hs, es_setA hc he.v⟩
theorem c_make {kk : Nat} {x : Str} {C g : Addr} {fd : FuncData} {ps : List Str} {f : MF} {dvs : List V} {ds : List Value} {dd : List D} (Mm : Mk X.K C g) (F : FnOk X.prog X.w X.K X.mg X.base CX0 kk g fd ps (spM K f)) (hr : Room (kk + 1) X.A) (hg : Gl X x) (hm : X.mg x = some (.ref C)) (hb : Binds X.K fd ps ds) (hv : Vals dvs ds) (hd : ∀ F, RpL K F dd dvs)
    (ha : CA X K W (e :: es) t m) (hdb : (x == ("__debug__" : Str)) = false := by decide) (he : starEach (e :: es) X.env = (false, eval e X.env) :: starEach es X.env := by rfl) (hpl : (backTo pos (starEach es X.env)).any (·.1) = false := by rfl) :
    CE X K W (.Call (.Name x p1) (e :: es) [] pos) (tMake C (spM K f) dvs (fun _ _ _ => False) t) (mMake C f dd m) := ⟨pe_make Mm F hr hg hm hb hv (fun _ _ _ _ _ _ _ h => h.elim) ha.p hdb he hpl, ev_make hd ha.v⟩
theorem c_make0 {kk : Nat} {x : Str} {C g : Addr} {fd : FuncData} {ps : List Str} {f : MF} {dvs : List V} {ds : List Value} {dd : List D} (Mm : Mk X.K C g) (F : FnOk X.prog X.w X.K X.mg X.base CX0 kk g fd ps (spM K f)) (hr : Room (kk + 1) X.A) (hg : Gl X x) (hm : X.mg x = some (.ref C)) (hb : Binds X.K fd ps ds) (hv : Vals dvs ds) (hd : ∀ F, RpL K F dd dvs)
    (hdb : (x == ("__debug__" : Str)) = false := by decide) : CE X K W (.Call (.Name x p1) [] [] pos) (tMake C (spM K f) dvs (fun _ _ _ => False) tNil) (mMake C f dd mANil) := ⟨pe_make0 Mm F hr hg hm hb hv (fun _ _ _ _ _ _ _ h => h.elim) hdb, ev_make hd ea_nil⟩
end
end Cz

/-! # CzW -/
namespace Cz
open L2 PyProof.Rows PySem.Spec PySem
variable {K : PySem.W.Frag}

/-! ## a dict that is walked: locked, and not any more -/
/-- all that data ask of a heap goes over -/
structure Ext (K : PySem.W.Frag) (F F' : Hp) : Prop where
  t : ∀ x xs, F x = some (.tup xs) → F' x = some (.tup xs)
  l : ∀ x xs, F x = some (.lst xs) → F' x = some (.lst xs)
  i : ∀ x C dx fs, F x = some (.ins C dx fs) → F' x = some (.ins C dx fs)
  tk : ∀ x xs, SqT K F x xs → SqT K F' x xs
  lk : ∀ x xs, SqL K F x xs → SqL K F' x xs
  k : ∀ x kvs, Rd F x (.dK kvs) → Rd F' x (.dK kvs)
  d : ∀ x kvs, Rd F x (.dT kvs) → Rd F' x (.dT kvs)
section
variable {F F' : Hp}
mutual
theorem Rp.ext (s : Ext K F F') : ∀ {d : D} {v : V}, Rp K F d v → Rp K F' d v
  | _, _, .non => .non
  | _, _, .bl b => .bl b
  | _, _, .int i => .int i
  | _, _, .str x => .str x
  | _, _, .ref a => .ref a
  | _, _, .ty t => .ty t
  | _, _, .tup h r => .tup (s.t _ _ h) (r.ext s)
  | _, _, .tuk h r => .tuk (s.tk _ _ h) (r.ext s)
  | _, _, .lst h r => .lst (s.l _ _ h) (r.ext s)
  | _, _, .rol h r => .rol (s.lk _ _ h) (r.ext s)
  | _, _, .dk h r => .dk (s.k _ _ h) (r.ext s)
  | _, _, .dt h r => .dt (s.d _ _ h) (r.ext s)
  | _, _, .obj h r => .obj (s.i _ _ _ _ h) (r.ext s)
theorem RpL.ext (s : Ext K F F') : ∀ {d : List D} {v : List V}, RpL K F d v → RpL K F' d v
  | _, _, .nil => .nil
  | _, _, .cons h r => .cons (h.ext s) (r.ext s)
theorem RpF.ext (s : Ext K F F') : ∀ {d : List (Str × D)} {v : List (Str × V)}, RpF K F d v → RpF K F' d v
  | _, _, .nil => .nil
  | _, _, .cons h r => .cons (h.ext s) (r.ext s)
theorem RpK.ext (s : Ext K F F') : ∀ {d : List (Key × D)} {v : List (Key × V)}, RpK K F d v → RpK K F' d v
  | _, _, .nil => .nil
  | _, _, .cons h r => .cons (h.ext s) (r.ext s)
theorem RpT.ext (s : Ext K F F') : ∀ {d : List (List Key × D)} {v : List (List Key × V)}, RpT K F d v → RpT K F' d v
  | _, _, .nil => .nil
  | _, _, .cons h r => .cons (h.ext s) (r.ext s)
end
theorem RpO.ext (s : Ext K F F') {o : OD} {h : HO} : RpO K F o h → RpO K F' o h
  | .lst r => .lst (r.ext s)
  | .dk r => .dk (r.ext s)
  | .dt r => .dt (r.ext s)
  | .dkl r => .dkl (r.ext s)
  | .dtl r => .dtl (r.ext s)
  | .obj r => .obj (r.ext s)
end
/-- a dict -/
def IsDo (u : HO) : Prop := (∃ kvs, u = .dK kvs) ∨ ∃ kvs, u = .dT kvs
theorem IsDo.mut {u : HO} (h : IsDo u) : Mut (some u) := by
  rcases h with ⟨_, rfl⟩ | ⟨_, rfl⟩ <;> exact True.intro
theorem ext_lock {F : Hp} {a : Addr} {u : HO} {od : Obj} (hu : IsDo u) (ha : F a = some u) : Ext K F (upd F a (.frz od u)) := by
  have ne : ∀ x o, F x = some o → ¬ IsDo o → x ≠ a := fun x o h n z => by
    subst z
    rw [ha] at h
    cases h
    exact n hu
  have rd : ∀ x o, Rd F x o → (x = a → IsDo o) → Rd (upd F a (.frz od u)) x o := fun x o h n => by
    by_cases z : x = a
    · subst z
      rcases h with h | ⟨o', h⟩
      · rw [ha] at h
        cases h
        exact .inr ⟨od, upd_same⟩
      · rw [ha] at h
        cases h
        rcases hu with ⟨_, z⟩ | ⟨_, z⟩ <;> cases z
    · rcases h with h | ⟨o', h⟩
      · exact .inl (by rw [upd_ne z]; exact h)
      · exact .inr ⟨o', by rw [upd_ne z]; exact h⟩
  have nt : ∀ xs, ¬ IsDo (.tup xs) := fun xs h => by rcases h with ⟨_, z⟩ | ⟨_, z⟩ <;> cases z
  have nl : ∀ xs, ¬ IsDo (.lst xs) := fun xs h => by rcases h with ⟨_, z⟩ | ⟨_, z⟩ <;> cases z
  have ni : ∀ C dx fs, ¬ IsDo (.ins C dx fs) := fun C dx fs h => by rcases h with ⟨_, z⟩ | ⟨_, z⟩ <;> cases z
  have rdn : ∀ x o, Rd F x o → ¬ IsDo o → x ≠ a := fun x o h n z => by
    subst z
    rcases h with h | ⟨o', h⟩
    · exact ne _ _ h n rfl
    · rw [ha] at h
      cases h
      rcases hu with ⟨_, z⟩ | ⟨_, z⟩ <;> cases z
  refine ⟨fun x xs h => by rw [upd_ne (ne _ _ h (nt xs))]; exact h, fun x xs h => by rw [upd_ne (ne _ _ h (nl xs))]; exact h, fun x C dx fs h => by rw [upd_ne (ne _ _ h (ni C dx fs))]; exact h, fun x xs h => ?_, fun x xs h => ?_,
    fun x kvs h => rd x _ h fun _ => .inl ⟨_, rfl⟩, fun x kvs h => rd x _ h fun _ => .inr ⟨_, rfl⟩⟩
  · rcases h with h | h
    · exact .inl (rd x _ h fun z => absurd z (rdn x _ h (nt xs)))
    · exact .inr h
  · rcases h with h | h
    · exact .inl (rd x _ h fun z => absurd z (rdn x _ h (nl xs)))
    · exact .inr h
theorem ext_unlock {F : Hp} {a : Addr} {u : HO} {od : Obj} (hu : IsDo u) (ha : F a = some (.frz od u)) : Ext K F (upd F a u) := by
  have ne : ∀ x o, F x = some o → (∀ od' v, o ≠ .frz od' v) → x ≠ a := fun x o h n z => by
    subst z
    rw [ha] at h
    cases h
    exact n _ _ rfl
  have rd : ∀ x o, Rd F x o → (x = a → o = u) → Rd (upd F a u) x o := fun x o h n => by
    by_cases z : x = a
    · have q := n z
      subst q
      subst z
      exact .inl upd_same
    · rcases h with h | ⟨o', h⟩
      · exact .inl (by rw [upd_ne z]; exact h)
      · exact .inr ⟨o', by rw [upd_ne z]; exact h⟩
  have at' : ∀ x o, Rd F x o → (∀ od' v, o ≠ .frz od' v) → x = a → o = u := fun x o h n z => by
    subst z
    rcases h with h | ⟨o', h⟩
    · rw [ha] at h
      cases h
      exact absurd rfl (n _ _)
    · rw [ha] at h
      cases h
      rfl
  have nt : ∀ xs (u' : HO), IsDo u' → HO.tup xs ≠ u' := fun xs u' h z => by subst z; rcases h with ⟨_, z⟩ | ⟨_, z⟩ <;> cases z
  refine ⟨fun x xs h => by rw [upd_ne (ne _ _ h (fun _ _ z => by cases z))]; exact h, fun x xs h => by rw [upd_ne (ne _ _ h (fun _ _ z => by cases z))]; exact h, fun x C dx fs h => by rw [upd_ne (ne _ _ h (fun _ _ z => by cases z))]; exact h, fun x xs h => ?_, fun x xs h => ?_,
    fun x kvs h => rd x _ h (at' x _ h fun _ _ z => by cases z), fun x kvs h => rd x _ h (at' x _ h fun _ _ z => by cases z)⟩
  · rcases h with h | h
    · exact .inl (rd x _ h (at' x _ h fun _ _ z => by cases z))
    · exact .inr h
  · rcases h with h | h
    · exact .inl (rd x _ h (at' x _ h fun _ _ z => by cases z))
    · exact .inr h
theorem RS.lock {F H : Hp} {σ : L2.St} {s : SS} {a : Addr} {u : HO} {od : Obj} (r : RS K F H σ s) (hu : IsDo u) (ha : F a = some u) : RS K (upd F a (.frz od u)) (upd H a (.frz od u)) σ s := by
  have e := ext_lock (K := K) (od := od) hu ha
  refine ⟨fun x o h => ?_, r.len, fun i d h => ?_, fun i sv o h1 h2 => ?_, r.ne⟩
  · by_cases z : x = a
    · subst z
      rw [upd_same] at h ⊢
      exact h
    · rw [upd_ne z] at h ⊢
      exact r.sub _ _ h
  · obtain ⟨v, h1, h2⟩ := r.fz i d h
    exact ⟨v, h1, h2.ext e⟩
  · obtain ⟨p, ho, a1, a2, a3, a4⟩ := r.ow i sv o h1 h2
    have np : p ≠ a := fun z => by
      subst z
      rw [ha] at a2
      cases a2
    exact ⟨p, ho, a1, by rw [upd_ne np]; exact a2, by rw [upd_ne np]; exact a3, a4.ext e⟩
theorem Go.unlock {F H F' H' : Hp} {σ σ' : L2.St} {s s' : SS} {a : Addr} {u : HO} {od : Obj} (hu : IsDo u) (ha : F a = some u) (hs : Sub F H) (g : Go K (upd F a (.frz od u)) (upd H a (.frz od u)) σ s F' H' σ' s') :
    Go K F H σ s (upd F' a u) (upd H' a u) σ' s' ∧ F' a = some (.frz od u) ∧ H' a = some (.frz od u) ∧ Ext K F' (upd F' a u) := by
  have fa : F' a = some (.frz od u) := g.fr _ _ upd_same
  have ha' : H' a = some (.frz od u) := g.rs.sub _ _ fa
  have e := ext_unlock (K := K) hu fa
  refine ⟨⟨⟨fun x o h => ?_, g.rs.len, fun i d h => ?_, fun i sv o h1 h2 => ?_, g.rs.ne⟩, fun x o h => ?_, fun x o h n => ?_, fun x h => ?_, fun x w => ?_, g.br, fun x h => ?_⟩, fa, ha', e⟩
  · by_cases z : x = a
    · subst z
      rw [upd_same] at h ⊢
      exact h
    · rw [upd_ne z] at h ⊢
      exact g.rs.sub _ _ h
  · obtain ⟨v, h1, h2⟩ := g.rs.fz i d h
    exact ⟨v, h1, h2.ext e⟩
  · obtain ⟨p, ho, a1, a2, a3, a4⟩ := g.rs.ow i sv o h1 h2
    have np : p ≠ a := fun z => by
      subst z
      rw [fa] at a2
      cases a2
    exact ⟨p, ho, a1, by rw [upd_ne np]; exact a2, by rw [upd_ne np]; exact a3, a4.ext e⟩
  · by_cases z : x = a
    · subst z
      rw [ha] at h
      rw [upd_same]
      exact h
    · rw [upd_ne z]
      exact g.fr x o (by rw [upd_ne z]; exact h)
  · by_cases z : x = a
    · subst z
      rw [hs _ _ ha] at h
      rw [upd_same]
      exact h
    · rw [upd_ne z]
      exact g.kp x o (by rw [upd_ne z]; exact h) n
  · by_cases z : x = a
    · subst z
      exact .inl (by rw [ha]; exact fun q => nomatch q)
    · rw [upd_ne z] at h
      rcases g.nw x h with q | q | q | ⟨xs, q⟩
      · rw [upd_ne z] at q
        exact .inl q
      · rw [upd_ne z] at q
        exact .inr (.inl q)
      · exact .inr (.inr (.inl q))
      · rw [upd_ne z] at q
        exact .inr (.inr (.inr ⟨xs, q⟩))
  · rcases g.ow x w with q | q
    · exact .inl q
    · by_cases z : x = a
      · subst z
        rw [upd_same] at q
        cases q
      · rw [upd_ne z] at q
        exact .inr q
  · have z : x ≠ a := fun z => by
      subst z
      rw [upd_same] at h
      cases h
    rw [upd_ne z] at h
    have q := g.dm x h
    rw [upd_ne z] at q
    exact q
/-- locked, or locked already -/
def tMay (t : TS) : TS := fun D σ H => t D σ H ∨ tLock t D σ H
theorem ps_may {X : Cx} {st : Stmt} {t : TS} (h : PS X st t) : PS X st (tMay t) := by
  refine ⟨fun pins s σ H D I w => ?_⟩
  rcases w with w | w
  · exact h.run pins s σ H D I w
  · exact (ps_lock h).run pins s σ H D I w
/-- the keys of a dict, as data -/
def keysD : D → Option (List D)
  | .dk l => some (l.map fun p => kD p.1)
  | .dt l => some (l.map fun p => kDs p.1)
  | _ => none
def noE : Out → Out
  | .ex _ _ _ => .no
  | o => o
def mForD (i : Nat) (f : MG) (b : MS) : MS := fun s => (frz (.b i) s).out fun d s1 => match s1[i]? with
  | some (some (.fz _)) => optO (keysD d) fun ks => noE (loop f b ks s1)
  | _ => .no
def mKs (ks : List D) : M (List D) := fun s => .ok ks s
theorem noE_wn {W W' : WX} {D : Ends} {F H : Hp} {σ : L2.St} {s : SS} {o : Out} (w : WnS K W D F H σ s (noE o)) : WnS K W' D F H σ s o := by
  cases o with
  | ex c l s => exact w.elim
  | no => exact w.elim
  | nx s => exact w
  | rt r s => exact w
  | bk s => exact w
  | ct s => exact w
/-- the walk over a locked dict -/
theorem walk_ok {g : TG} {tb : TS} {f : MG} {tv : List Nat} {b : MS} (hg : EvG K g f tv) (hb : EvS K W0 tb b) {F H : Hp} {σ : L2.St} {s : SS} {D : Ends} {i : Nat} {a : Addr} {u : HO} {od : Obj} {ks : List Cz.D} (rs : RS K F H σ s) (hσ : σ[i]? = some (some (.ref a))) (fa : F a = some (.frz od u))
    (hk : (∃ l kvs, u = .dK kvs ∧ RpK K F l kvs ∧ ks = l.map fun p => kD p.1) ∨ ∃ l kvs, u = .dT kvs ∧ RpT K F l kvs ∧ ks = l.map fun p => kDs p.1) (w : WnS K W0 D F H σ s (loop f b ks s)) : tFor (iKeys (tVar i)) g tb D σ H := by
  refine es_forAt (W := W0) (mi := mKs ks) (fun Q w => ?_) hg hb w
  refine ⟨.ref a, hσ, a, od, rfl, ?_⟩
  rcases hk with ⟨l, kvs, rfl, r, rfl⟩ | ⟨l, kvs, rfl, r, rfl⟩
  · refine .inl ⟨kvs, rs.sub _ _ fa, w _ F H _ _ (Go.refl rs) (by rw [List.length_map, r.x.length]; exact walk_keys) (fun F2 H2 σ2 s2 r2 sb => r2.sub _ _ (sb _ _ fa)) ?_⟩
    rintro j Hc x Hx F2 σ2 s2 hj ⟨rfl, k, v, e1, rfl⟩ r2 sb
    refine ⟨F2, kD k, Al.refl r2.sub, ?_, rp_key k⟩
    have hj' : j < l.length := by simpa using hj
    rw [List.getElem?_map, List.getElem?_eq_getElem hj']
    have q := r.x
    have e : (l[j]).1 = k := by
      have z : ∀ {l : List (Key × Cz.D)} {kvs : List (Key × V)} {j : Nat} (h : j < l.length), RpX K F l kvs → kvs[j]? = some (k, v) → (l[j]).1 = k := by
        intro l kvs j h r e
        unfold RpX at r
        induction r generalizing j with
        | nil => exact absurd h (Nat.not_lt_zero _)
        | @cons p q ps qs hp t ih =>
          cases j with
          | zero =>
            have e' : q = (k, v) := Option.some.inj e
            show p.1 = k
            rw [hp.1, e']
          | succ j => exact ih (Nat.lt_of_succ_lt_succ h) e
      exact z hj' q e1
    show some (kD (l[j]).1) = _
    rw [e]
  · refine .inr ⟨kvs, rs.sub _ _ fa, w _ F H _ _ (Go.refl rs) (by rw [List.length_map, r.x.length]; exact walk_keysT) (fun F2 H2 σ2 s2 r2 sb => r2.sub _ _ (sb _ _ fa)) ?_⟩
    rintro j Hc x Hx F2 σ2 s2 hj ⟨rfl, k, v, q, e1, rfl, hq⟩ r2 sb
    refine ⟨_, kDs k, Al.adopt r2.sub, ?_, adopt_key r2.sub hq⟩
    have hj' : j < l.length := by simpa using hj
    rw [List.getElem?_map, List.getElem?_eq_getElem hj']
    have e : (l[j]).1 = k := by
      have z : ∀ {l : List (List Key × Cz.D)} {kvs : List (List Key × V)} {j : Nat} (h : j < l.length), RpX K F l kvs → kvs[j]? = some (k, v) → (l[j]).1 = k := by
        intro l kvs j h r e
        unfold RpX at r
        induction r generalizing j with
        | nil => exact absurd h (Nat.not_lt_zero _)
        | @cons p q ps qs hp t ih =>
          cases j with
          | zero =>
            have e' : q = (k, v) := Option.some.inj e
            show p.1 = k
            rw [hp.1, e']
          | succ j => exact ih (Nat.lt_of_succ_lt_succ h) e
      exact z hj' r.x e1
    show some (kDs (l[j]).1) = _
    rw [e]
theorem slot_val {F H : Hp} {σ : L2.St} {s s1 : SS} {i : Nat} {d : D} (rs : RS K F H σ s) (e : frz (.b i) s = .ok d s1) : ∃ v, σ[i]? = some (some v) := by
  simp only [frz] at e
  cases q : s[i]? with
  | none => (rw [q] at e; cases e)
  | some x =>
    cases x with
    | none => (rw [q] at e; cases e)
    | some sv =>
      cases sv with
      | fz d' =>
        obtain ⟨u, a1, a2⟩ := rs.fz i _ q
        exact ⟨u, a1⟩
      | ow o =>
        obtain ⟨p, ho, a1, _⟩ := rs.ow i _ o q rfl
        exact ⟨_, a1⟩
      | br o => rw [q] at e; cases e
/-- from the locked walk's end back -/
theorem wn_unlock {F H : Hp} {σ : L2.St} {s : SS} {D : Ends} {a : Addr} {u : HO} {od : Obj} {o : Out} (hu : IsDo u) (ha : F a = some u) (hs : Sub F H) (w : WnS K W0 D F H σ s o) :
    WnS K W0 ⟨fun σ' H' => H' a = some (.frz od u) ∧ D.nx σ' (upd H' a u), fun v H' => H' a = some (.frz od u) ∧ D.rt v (upd H' a u), fun σ' H' => H' a = some (.frz od u) ∧ D.bk σ' (upd H' a u), fun σ' H' => H' a = some (.frz od u) ∧ D.ct σ' (upd H' a u)⟩ (upd F a (.frz od u)) (upd H a (.frz od u)) σ s o := by
  cases o with
  | nx s' =>
    intro σ' F' H' g
    obtain ⟨g', _, h2, _⟩ := Go.unlock hu ha hs g
    exact ⟨h2, w σ' _ _ g'⟩
  | bk s' =>
    intro σ' F' H' g
    obtain ⟨g', _, h2, _⟩ := Go.unlock hu ha hs g
    exact ⟨h2, w σ' _ _ g'⟩
  | ct s' =>
    intro σ' F' H' g
    obtain ⟨g', _, h2, _⟩ := Go.unlock hu ha hs g
    exact ⟨h2, w σ' _ _ g'⟩
  | no => exact w
  | ex c l s' =>
    intro dd σ' F' H' xs g h1 h2
    obtain ⟨g', h3, h4, e⟩ := Go.unlock hu ha hs g
    have n : dd ≠ a := fun z => by
      subst z
      rw [h4] at h1
      cases h1
    have z : False := w dd σ' (upd F' a u) (upd H' a u) xs g' (by rw [upd_ne n]; exact h1) (h2.ext e)
    exact z.elim
  | rt r s' =>
    intro v σ' F' H' g h
    obtain ⟨g', h3, h4, e⟩ := Go.unlock hu ha hs g
    refine ⟨h4, w v σ' _ _ g' ?_⟩
    cases r with
    | d d => exact Rp.ext e h
    | b i => exact h
    | o o =>
      obtain ⟨p, ho, rfl, e1, e2, e3, e4, e5⟩ := h
      have n : p ≠ a := fun z => by
        subst z
        rw [h3] at e1
        cases e1
      refine ⟨p, ho, rfl, by rw [upd_ne n]; exact e1, by rw [upd_ne n]; exact e2, e3.ext e, ?_, e5⟩
      rcases e4 with e4 | e4
      · rw [upd_ne n] at e4
        exact .inl e4
      · exact .inr e4
theorem es_forD {g : TG} {tb : TS} {i : Nat} {f : MG} {tv : List Nat} {b : MS} (hg : EvG K g f tv) (hb : EvS K W0 tb b) : EvS K W0 (tMay (tFor (iKeys (tVar i)) g tb)) (mForD i f b) := by
  intro F H σ s D rs w
  obtain ⟨d, s1, ed, w1⟩ := frz_out w
  obtain ⟨v, hv⟩ := slot_val rs ed
  obtain ⟨F1, g1, _, hd⟩ := frz_ok (Go.refl rs) (r := .b i) (v := v) hv ed
  split at w1
  · obtain ⟨ks, ek, w2⟩ := optO_wn w1
    have w3 : WnS K W0 D F H σ s (loop f b ks s1) := noE_wn w2
    have w4 : WnS K W0 D F1 H σ s1 (loop f b ks s1) := w3.at g1
    have fin : ∀ (a : Addr) (u : HO), v = .ref a → IsDo u → Rd F1 a u → ((∃ l kvs, u = .dK kvs ∧ RpK K F1 l kvs ∧ ks = l.map fun p => kD p.1) ∨ ∃ l kvs, u = .dT kvs ∧ RpT K F1 l kvs ∧ ks = l.map fun p => kDs p.1) → tMay (tFor (iKeys (tVar i)) g tb) D σ H := fun a u ev hu rd hk => by
      subst ev
      rcases rd with fa | ⟨od, fa⟩
      · refine .inr ⟨a, u, g1.rs.sub _ _ fa, hu.mut, fun od => ?_⟩
        have e := ext_lock (K := K) (od := od) hu fa
        refine walk_ok (od := od) (u := u) hg hb (g1.rs.lock hu fa) hv upd_same ?_ (wn_unlock hu fa g1.rs.sub w4)
        rcases hk with ⟨l, kvs, h1, h2, h3⟩ | ⟨l, kvs, h1, h2, h3⟩
        · exact .inl ⟨l, kvs, h1, h2.ext e, h3⟩
        · exact .inr ⟨l, kvs, h1, h2.ext e, h3⟩
      · exact .inl (walk_ok hg hb g1.rs hv fa hk w4)
    cases hd with
    | dk h r => cases ek; exact fin _ _ rfl (.inl ⟨_, rfl⟩) h (.inl ⟨_, _, rfl, r, rfl⟩)
    | dt h r => cases ek; exact fin _ _ rfl (.inr ⟨_, rfl⟩) h (.inr ⟨_, _, rfl, r, rfl⟩)
    | _ => cases ek
  · exact w1.elim

section
variable {X : Cx} {a b c e o : Expr} {es : List Expr} {pos p1 p2 p3 : Pos} {ta tb tc te : TE} {ma mb mc me : M Rv} {t : TA} {m : M (List Rv)} {k n : Nat} {W : WX} {body : List Stmt} {u : TS} {mu : MS}
theorem s_forD {x : Str} {tg : Expr} {g : TG} {f : MG} {tv : List Nat} (i : Nat) (hp : PassesOwn (model X.prog X.w) X.A X.env X.xe) (hc : X.calm = true) (hN : X.N[i]? = some x) (hv : Vis X.env.scope x) (hg : CG X K tg g f tv) (hb : CSs X K W0 body u mu) (hs : ∀ z, foldedSetIterable (.Name x p1) X.env z = pure z := by intro _; rfl) (hd : (x == ("__debug__" : Str)) = false := by decide) (hcd : (x == ("__classdict__" : Str)) = false := by decide) :
    CS X K W0 (.For tg (.Name x p1) body [] pos) (tMay (tFor (iKeys (tVar i)) g u)) (mForD i f mu) := ⟨ps_may (ps_for hp hc (pi_keys (pe_var hN hv hd hcd)) hg.p hb.p hs), es_forD hg.v hb.v⟩
theorem c_get1 {apos : Pos} (hr : Room k X.A) (mm : M1 X o "get" apos e pos) (ha : CE X K W o ta ma) (hb : CE X K W e tb mb) : CE X K W (.Call (.Attribute o "get" apos) [e] [] pos) (tDGet1 ta tb) (mGet1 ma mb) := ⟨pe_dget1 (hu1 hr) ha.p hb.p mm, ev_get1 ha.v hb.v⟩
theorem c_get2 {apos : Pos} {f : Expr} (hr : Room k X.A) (mm : M2 X o "get" apos e f pos) (ha : CE X K W o ta ma) (hb : CE X K W e tb mb) (hc : CE X K W f tc mc) : CE X K W (.Call (.Attribute o "get" apos) [e, f] [] pos) (tDGet2 ta tb tc) (mGet2 ma mb mc) := ⟨pe_dget2 (hu1 hr) ha.p hb.p hc.p mm, ev_get2 ha.v hb.v hc.v⟩
theorem c_dnK : CE X K W (.Dict [] [] pos) tDNewK mDNewK := ⟨pe_dnewK, ev_dnewK⟩
theorem c_dnT : CE X K W (.Dict [] [] pos) tDNewT mDNewT := ⟨pe_dnewT, ev_dnewT⟩
theorem c_meth {pl : Sem Bool} {kk : Nat} {mn : Str} {C g : Addr} {fd : FuncData} {ps : List Str} {f : MF} {dvs : List V} {ds : List Value} {dd : List D} {apos : Pos} (cl : Cls X.K C) (hm : Meth X.K C mn g) (F : FnOk X.prog X.w X.K X.mg X.base CX0 kk g fd ps (spM K f)) (hr : Room kk X.A) (hb : Binds X.K fd ps ds) (hv : Vals dvs ds) (hd : ∀ F, RpL K F dd dvs)
    (ho : CE X K W o te me) (ha : CA X K W (e :: es) t m) (hst : starEach (e :: es) X.env = (false, eval e X.env) :: starEach es X.env := by rfl) (hpl : (backTo pos (starEach es X.env)).any (·.1) = false := by rfl)
    (ht : eval (.Call (.Attribute o mn apos) (e :: es) [] pos) X.env = (do
      let ov ← eval o X.env
      standAt apos.atName
      let (f, first) ← holding [ov] (getMethod ov mn pl); callWith pos f first (backTo pos (starEach (e :: es) X.env)) (backToKw pos (keywordEach [] X.env))) := by rfl) :
    CE X K W (.Call (.Attribute o mn apos) (e :: es) [] pos) (tMeth C mn (spM K f) dvs (fun _ _ _ => False) te t) (mMeth C mn f dd me m) := ⟨pe_meth ho.p cl hm F hr hb hv (fun _ _ _ _ _ _ _ h => h.elim) ha.p hst hpl ht, ev_meth hd ho.v ha.v⟩
end
end Cz

/-! # CzX -/
namespace Cz
open L2 PyProof.Rows PySem.Spec PySem
variable {K : PySem.W.Frag}

/-! ## l.index(x) -/
def findI (y : D) : List D → Option Nat
  | [] => none
  | d :: ds => if deq d y then some 0 else (findI y ds).map (· + 1)
theorem findI_ok {y : D} {q : PyData} (hq : toPy y = some q) : ∀ {l : List D} {ps : List PyData} {j : Nat}, toPys l = some ps → findI y l = some j → ∃ z, ps[j]? = some z ∧ PyData.eqv z q = true ∧ ∀ (m : Nat) (z' : PyData), m < j → ps[m]? = some z' → PyData.eqv z' q = false
  | [], ps, j, _, e => by cases e
  | d :: l, ps, j, h, e => by
    simp only [toPys, Option.bind_eq_some_iff, Option.map_eq_some_iff] at h
    obtain ⟨p, h1, r, h2, rfl⟩ := h
    unfold findI at e
    split at e
    · rename_i hd
      cases e
      exact ⟨p, rfl, by rw [deq_py h1 hq]; exact hd, fun m z' hm => absurd hm (Nat.not_lt_zero _)⟩
    · rename_i hd
      rw [Option.map_eq_some_iff] at e
      obtain ⟨i, e1, rfl⟩ := e
      obtain ⟨z, a1, a2, a3⟩ := findI_ok hq h2 e1
      refine ⟨z, a1, a2, fun m z' hm hz => ?_⟩
      cases m with
      | zero =>
        have hz' : p = z' := Option.some.inj hz
        rw [← hz', deq_py h1 hq]
        simpa using hd
      | succ m => exact a3 m z' (Nat.lt_of_succ_lt_succ hm) hz
def indexD (x y : D) : Option Rv := (lstD x).bind fun l => if cmpb y && cmpb x then (findI y l).map fun j => .d (.int (j : Nat)) else none
def mIndex (mo me : M Rv) : M Rv := fun s => (mo s).bind fun r1 s1 => opt ((pk (nrm r1) s1).bind lstD) fun _ => (me s1).bind fun r2 s2 => opt (pk (nrm r1) s2) fun x => opt (pk r2 s2) fun y => outR (indexD x y) s2
theorem ev_index {W : WX} {to te : TE} {mo me : M Rv} (ho : EvX K W to mo) (he : EvX K W te me) : EvX K W (tBM K "list" (rIndexD K) to (tCons te tNil)) (mIndex mo me) := by
  intro F H σ s Q rs w
  refine ho.step (Go.refl rs) w fun r1 s1 v1 F1 H1 g1 _ h1 w1 => ?_
  obtain ⟨F1', g1', sb1, h1'⟩ := nrm_ok g1 h1
  obtain ⟨l0, e0, w2⟩ := opt_wn w1
  rw [Option.bind_eq_some_iff] at e0
  obtain ⟨d0, e1, e2⟩ := e0
  obtain ⟨a, xs, rfl, hs, _⟩ := lst_ok g1'.rs.sub (pk_ok g1'.rs h1' e1) e2
  refine ⟨.inl ⟨rfl, xs, hs⟩, he.step g1' w2 fun r2 s2 v2 F2 H2 g2 g12 h2 w3 => ?_⟩
  obtain ⟨x, ex, w4⟩ := opt_wn w3
  obtain ⟨y, ey, w5⟩ := opt_wn w4
  have ho := out_ok g2 w5
  have hx := pk_ok g2.rs (h1'.go g12) ex
  have hy := pk_ok g2.rs h2 ey
  unfold indexD at ho
  cases el : lstD x with
  | none => rw [el] at ho; exact ho.elim
  | some l =>
    rw [el, Option.bind_some] at ho
    split at ho
    · rename_i hc
      rw [Bool.and_eq_true] at hc
      obtain ⟨q, q1, q2⟩ := cmpb_ok hc.1
      obtain ⟨p, p1, p2⟩ := cmpb_ok hc.2
      have hp : ∃ ps, toPys l = some ps ∧ p = .list ps := by
        cases x with
        | lst m =>
          cases el
          simp only [toPy, Option.map_eq_some_iff] at p1
          obtain ⟨ps, z1, z2⟩ := p1
          exact ⟨ps, z1, z2.symm⟩
        | rol m =>
          cases el
          simp only [toPy, Option.map_eq_some_iff] at p1
          obtain ⟨ps, z1, z2⟩ := p1
          exact ⟨ps, z1, z2.symm⟩
        | _ => cases el
      obtain ⟨ps, hps, rfl⟩ := hp
      cases ej : findI y l with
      | none => rw [ej] at ho; exact ho.elim
      | some j =>
        rw [ej] at ho
        obtain ⟨z, z1, z2, z3⟩ := findI_ok q1 hps ej
        exact ⟨a, v2, q, ps, j, z, rfl, rfl, dpp_of g2.rs.sub hx p1, dpp_of g2.rs.sub hy q1, p2, q2, z1, z2, z3, outD g2.rs.sub ho (.int _)⟩
    · exact ho.elim
/-! ## *x among the arguments of a display -/
def mAStar (me : M Rv) (mr : M (List Rv)) : M (List Rv) := fun s => (me s).bind fun r s1 => (frz r s1).bind fun d s2 => opt (seqD d) fun l => (mr s2).bind fun rs s3 => .ok (l.map .d ++ rs) s3
theorem opt_wnA {α : Type} {F H : Hp} {σ : L2.St} {s : SS} {W : WX} {Q : List V → Hp → Prop} {o : Option α} {f : α → R (List Rv)} (w : WnA K W Q F H σ s (opt o f)) : ∃ a, o = some a ∧ WnA K W Q F H σ s (f a) := by
  cases o with
  | none => exact w.elim
  | some a => exact ⟨a, rfl, w⟩
theorem RpL.app {F : Hp} {σ : L2.St} {s : SS} : ∀ {ds : List D} {us : List V} {rs : List Rv} {vs : List V}, RpL K F ds us → RpA K F σ s rs vs → RpA K F σ s (ds.map .d ++ rs) (us ++ vs)
  | _, _, _, _, .nil, h => h
  | _, _, _, _, .cons a r, h => .d a (r.app h)
theorem RpL.toP {F H : Hp} (s : Sub F H) {d : D} {v : V} {l : List D} (h : Rp K F d v) (e : seqD d = some l) : ∃ a xs, v = .ref a ∧ RpL K F l xs ∧ (SqL K H a xs ∨ SqT K H a xs) := by
  obtain ⟨a, xs, h1, h2, h3⟩ := (h.look s).seq s e
  refine ⟨a, xs, h1, h2, ?_⟩
  rcases h3 with ⟨h3, _⟩ | ⟨h3, _⟩
  · exact .inl h3
  · exact .inr h3
theorem ea_star {W : WX} {te : TE} {t : TA} {me : M Rv} {mr : M (List Rv)} (ha : EvX K W te me) (hr : EvA K W t mr) : EvA K W (StX.tStar K te t) (mAStar me mr) := by
  intro F H σ s Q rs w
  refine ha.stepA (Go.refl rs) w fun r s1 v F1 H1 g1 _ h1 w1 => ?_
  obtain ⟨d, s2, ed, w2⟩ := frz_wnA w1
  obtain ⟨F2, g2, sb, hd⟩ := frz_ok g1 h1 ed
  obtain ⟨l, el, w3⟩ := opt_wnA w2
  obtain ⟨a, xs, rfl, hl, hq⟩ := RpL.toP g2.rs.sub hd el
  refine ⟨a, xs, rfl, hq.symm, hr.stepA g2 w3 fun rs s3 vs F3 H3 g3 g23 h3 w4 => ?_⟩
  exact w4 (xs ++ vs) F3 H3 g3 ((hl.mono g23.fr).app h3)
section
variable {X : Cx} {W : WX} {a b c e o : Expr} {es : List Expr} {pos p1 p2 p3 : Pos} {ta tb tc te to : TE} {ma mb mc me mo : M Rv} {t : TA} {m : M (List Rv)} {k n : Nat}
theorem c_index {apos : Pos} (hr : Room k X.A) (hK : X.K = K := by rfl) (ho : CE X K W o to mo) (he : CE X K W e te me)
    (hbase : attributeBase o "index" X.env (eval o X.env) = eval o X.env := by rfl)
    (hfew : ((backTo pos (starEach [e] X.env)).all (fun x => !x.1) && (backToKw pos (keywordEach [] X.env)).all (fun x => x.1.isSome) && decide (([e] : List Expr).length + ([] : List Keyword).length + (if ([] : List Keyword).isEmpty then 0 else 1) < 30)) = true := by rfl)
    (hline : (apos.endLine == pos.line) = true := by rfl) (hs : starEach [e] X.env = (false, eval e X.env) :: starEach [] X.env := by rfl) (hplain : (backTo pos (starEach [] X.env)).any (·.1) = false := by rfl) :
    CE X K W (.Call (.Attribute o "index" apos) [e] [] pos) (tBM K "list" (rIndexD K) to (tCons te tNil)) (mIndex mo me) := by subst hK; exact ⟨pe_bm PySem.F.plainAttrs_list PySem.F.slot_list_index PySem.F.type_list_index (mt_indexD (hu65 hr)) ho.p (pa_cons he.p pa_nil hs) hbase hfew hline hs hplain, ev_index ho.v he.v⟩
/-- a constant of the module -/
theorem c_glob {x : Str} {v : V} {u : Value} {d : D} (hg : Gl X x) (hm : X.mg x = some u) (r : RelV v u) (hd : ∀ F, Rp K F d v) (hdb : (x == ("__debug__" : Str)) = false := by decide) : CE X K W (.Name x pos) (tC v) (mC d) := ⟨pe_glob hg hm r hdb, ev_c hd⟩
theorem a_star (he : CE X K W e te me) (hK : X.K = K := by rfl) (hr : CA X K W es t m) (hs : starEach (.Starred e p1 :: es) X.env = (true, eval e X.env) :: starEach es X.env := by rfl) : CA X K W (.Starred e p1 :: es) (StX.tStar K te t) (mAStar me m) := by subst hK; exact ⟨StX.pa_star he.p hr.p hs, ea_star he.v hr.v⟩
/-! dict displays with texts and ints as keys -/
structure CP (X : Cx) (K : PySem.W.Frag) (W : WX) (pos : Pos) (ks : List (Option Expr)) (vs : List Expr) (ts : List (TE × TE)) (ps : List (Key × M Rv)) : Prop where
  p : PPs X pos ks vs ts
  v : EvP K W ts ps
theorem pk_nil : CP X K W pos [] [] [] [] := ⟨pps_nil, .nil⟩
theorem pk_str {x : Str} {j : Nat} {ks : List (Option Expr)} {vs : List Expr} {ts : List (TE × TE)} {ps : List (Key × M Rv)} (he : CE X K W e te me) (hr : CP X K W pos ks vs ts ps) : CP X K W pos (some (.Constant (.str x) j p1) :: ks) (e :: vs) ((tC (kV (.inr x)), te) :: ts) ((.inr x, me) :: ps) := ⟨pps_cons pe_str he.p hr.p, .cons he.v hr.v⟩
theorem pk_int {x : Int} {j : Nat} {ks : List (Option Expr)} {vs : List Expr} {ts : List (TE × TE)} {ps : List (Key × M Rv)} (he : CE X K W e te me) (hr : CP X K W pos ks vs ts ps) : CP X K W pos (some (.Constant (.int x) j p1) :: ks) (e :: vs) ((tC (kV (.inl x)), te) :: ts) ((.inl x, me) :: ps) := ⟨pps_cons pe_int he.p hr.p, .cons he.v hr.v⟩
theorem c_disp {ks : List (Option Expr)} {vs : List Expr} {ts : List (TE × TE)} {ps : List (Key × M Rv)} (h : CP X K W pos ks vs ts ps) (hall : ks.all (·.isSome) = true := by rfl) (hl : ks.length = vs.length := by rfl) (h0 : ks ≠ [] := by decide) (h15 : ks.length ≤ 15 := by decide) : CE X K W (.Dict ks vs pos) (tDisp ts) (mDisp ps) := ⟨pe_disp h.p hall hl h0 h15, ev_disp h.v⟩
theorem c_globS {x z : Str} (hg : Gl X x) (hm : ∃ t, X.mg x = some (.str z t)) (hdb : (x == ("__debug__" : Str)) = false := by decide) : CE X K W (.Name x pos) (tC (.str z)) (mC (.str z)) := by
  obtain ⟨t, hm⟩ := hm
  exact c_glob hg hm ⟨t, rfl⟩ (fun F => .str z) hdb
end
end Cz

/-! # CzY -/
namespace Cz
open L2 PyProof.Rows PySem.Spec PySem
variable {K : PySem.W.Frag}

/-! ## comprehensions over a dict -/
def mKeys (i : Nat) : M (List D) := fun s => (frz (.b i) s).bind fun d s1 => match s1[i]? with
  | some (some (.fz _)) => opt (keysD d) fun ks => .ok ks s1
  | _ => .no
def mLcD (i : Nat) (f : MG) (mt : M Bool) (me : M Rv) (vs : List Nat) : M Rv := fun s => noEx (mLc (mKeys i) f mt me vs s)
theorem wn_unlockX {F H : Hp} {σ : L2.St} {s : SS} {Q : VK} {a : Addr} {u : HO} {od : Obj} {r : R Rv} (hu : IsDo u) (ha : F a = some u) (hs : Sub F H) (w : Wn K W0 Q F H σ s r) :
    Wn K W0 (fun v H' => H' a = some (.frz od u) ∧ Q v (upd H' a u)) (upd F a (.frz od u)) (upd H a (.frz od u)) σ s r := by
  cases r with
  | no => exact w
  | ex c l s' =>
    intro dd F' H' xs g h1 h2
    obtain ⟨g', h3, h4, e⟩ := Go.unlock hu ha hs g
    have n : dd ≠ a := fun z => by
      subst z
      rw [h4] at h1
      cases h1
    have z : False := w dd (upd F' a u) (upd H' a u) xs g' (by rw [upd_ne n]; exact h1) (h2.ext e)
    exact z.elim
  | ok r s' =>
    intro v F' H' g h
    obtain ⟨g', h3, h4, e⟩ := Go.unlock hu ha hs g
    refine ⟨h4, w v _ _ g' ?_⟩
    cases r with
    | d d => exact Rp.ext e h
    | b i => exact h
    | o o =>
      obtain ⟨p, ho, rfl, e1, e2, e3, e4, e5⟩ := h
      have n : p ≠ a := fun z => by
        subst z
        rw [h3] at e1
        cases e1
      exact ⟨p, ho, rfl, by rw [upd_ne n]; exact e1, by rw [upd_ne n]; exact e2, e3.ext e, by rw [upd_ne n] at e4; exact e4, e5⟩
theorem keys_get {κ : Type} {k : κ} {v : V} {F : Hp} : ∀ {l : List (κ × D)} {kvs : List (κ × V)} {j : Nat} (h : j < l.length), RpX K F l kvs → kvs[j]? = some (k, v) → (l[j]).1 = k := by
  intro l kvs j h r e
  unfold RpX at r
  induction r generalizing j with
  | nil => exact absurd h (Nat.not_lt_zero _)
  | @cons p q ps qs hp t ih =>
    cases j with
    | zero =>
      have e' : q = (k, v) := Option.some.inj e
      show p.1 = k
      rw [hp.1, e']
    | succ j => exact ih (Nat.lt_of_succ_lt_succ h) e
/-- the source of a locked dict -/
theorem keys_src {F H : Hp} {σ : L2.St} {s : SS} {i : Nat} {a : Addr} {u : HO} {od : Obj} {ks : List D} (rs : RS K F H σ s) (hσ : σ[i]? = some (some (.ref a))) (fa : F a = some (.frz od u))
    (hk : (∃ l kvs, u = .dK kvs ∧ RpK K F l kvs ∧ ks = l.map fun p => kD p.1) ∨ ∃ l kvs, u = .dT kvs ∧ RpT K F l kvs ∧ ks = l.map fun p => kDs p.1) (Q : It → Hp → Prop) (w : WnI K W0 Q F H σ s (mKs ks s)) : iKeys (tVar i) σ H Q := by
  refine ⟨.ref a, hσ, a, od, rfl, ?_⟩
  rcases hk with ⟨l, kvs, rfl, r, rfl⟩ | ⟨l, kvs, rfl, r, rfl⟩
  · refine .inl ⟨kvs, rs.sub _ _ fa, w _ F H _ _ (Go.refl rs) (by rw [List.length_map, r.x.length]; exact walk_keys) (fun F2 H2 σ2 s2 r2 sb => r2.sub _ _ (sb _ _ fa)) ?_⟩
    rintro j Hc x Hx F2 σ2 s2 hj ⟨rfl, k, v, e1, rfl⟩ r2 sb
    refine ⟨F2, kD k, Al.refl r2.sub, ?_, rp_key k⟩
    have hj' : j < l.length := by simpa using hj
    rw [List.getElem?_map, List.getElem?_eq_getElem hj']
    show some (kD (l[j]).1) = _
    rw [keys_get hj' r.x e1]
  · refine .inr ⟨kvs, rs.sub _ _ fa, w _ F H _ _ (Go.refl rs) (by rw [List.length_map, r.x.length]; exact walk_keysT) (fun F2 H2 σ2 s2 r2 sb => r2.sub _ _ (sb _ _ fa)) ?_⟩
    rintro j Hc x Hx F2 σ2 s2 hj ⟨rfl, k, v, q, e1, rfl, hq⟩ r2 sb
    refine ⟨_, kDs k, Al.adopt r2.sub, ?_, adopt_key r2.sub hq⟩
    have hj' : j < l.length := by simpa using hj
    rw [List.getElem?_map, List.getElem?_eq_getElem hj']
    show some (kDs (l[j]).1) = _
    rw [keys_get hj' r.x e1]
def tMayE (t : TE) : TE := fun σ H Q => t σ H Q ∨ tLockE t σ H Q
theorem pe_may {X : Cx} {e : Expr} {t : TE} (h : PE X e t) : PE X e (tMayE t) := by
  refine ⟨fun pins s σ H Q I w => ?_⟩
  rcases w with w | w
  · exact h.run pins s σ H Q I w
  · exact (pe_lock h).run pins s σ H Q I w
/-- where the dict stands, and its keys -/
theorem keys_at {F H : Hp} {σ : L2.St} {s : SS} {i : Nat} {d : D} {s1 : SS} {ks : List D} (rs : RS K F H σ s) (ed : frz (.b i) s = .ok d s1) (ek : keysD d = some ks) :
    ∃ F1 a u, Go K F H σ s F1 H σ s1 ∧ σ[i]? = some (some (.ref a)) ∧ IsDo u ∧ Rd F1 a u ∧ ((∃ l kvs, u = .dK kvs ∧ RpK K F1 l kvs ∧ ks = l.map fun p => kD p.1) ∨ ∃ l kvs, u = .dT kvs ∧ RpT K F1 l kvs ∧ ks = l.map fun p => kDs p.1) := by
  obtain ⟨v, hv⟩ := slot_val rs ed
  obtain ⟨F1, g1, _, hd⟩ := frz_ok (Go.refl rs) (r := .b i) (v := v) hv ed
  cases hd with
  | dk h r => cases ek; exact ⟨F1, _, _, g1, hv, .inl ⟨_, rfl⟩, h, .inl ⟨_, _, rfl, r, rfl⟩⟩
  | dt h r => cases ek; exact ⟨F1, _, _, g1, hv, .inr ⟨_, rfl⟩, h, .inr ⟨_, _, rfl, r, rfl⟩⟩
  | _ => cases ek
theorem keys_ext {F F' : Hp} {u : HO} {ks : List D} (e : Ext K F F') (hk : (∃ l kvs, u = .dK kvs ∧ RpK K F l kvs ∧ ks = l.map fun p => kD p.1) ∨ ∃ l kvs, u = .dT kvs ∧ RpT K F l kvs ∧ ks = l.map fun p => kDs p.1) :
    (∃ l kvs, u = .dK kvs ∧ RpK K F' l kvs ∧ ks = l.map fun p => kD p.1) ∨ ∃ l kvs, u = .dT kvs ∧ RpT K F' l kvs ∧ ks = l.map fun p => kDs p.1 := by
  rcases hk with ⟨l, kvs, h1, h2, h3⟩ | ⟨l, kvs, h1, h2, h3⟩
  · exact .inl ⟨l, kvs, h1, h2.ext e, h3⟩
  · exact .inr ⟨l, kvs, h1, h2.ext e, h3⟩
/-- the mirror, with the keys told -/
theorem mLcD_at {i : Nat} {f : MG} {mt : M Bool} {me : M Rv} {vs : List Nat} {s : SS} {W : WX} {Q : VK} {F H : Hp} {σ : L2.St} (w : Wn K W Q F H σ s (mLcD i f mt me vs s)) : ∃ d s1 ks, frz (.b i) s = .ok d s1 ∧ keysD d = some ks ∧ Wn K W0 Q F H σ s (noEx (mLc (mKs ks) f mt me vs s1)) := by
  have hk : ∃ d s1 ks, frz (.b i) s = .ok d s1 ∧ keysD d = some ks ∧ mKeys i s = mKs ks s1 := by
    have bad : mKeys i s = .no → False := fun z => by
      have w' : Wn K W Q F H σ s (noEx ((mKeys i s).bind fun ds s1 => if loose s1 vs then (loopC f mt me vs ds [] (wipeS s1 vs)).bind fun acc s2 => .ok (.o (.lst acc)) (restS s1 s2 vs) else .no)) := w
      rw [z] at w'
      exact w'
    cases e : frz (.b i) s with
    | no => exact (bad (by unfold mKeys; rw [e]; rfl)).elim
    | ex c l s1 => exact absurd e frz_ex
    | ok d s1 =>
      have e2 : mKeys i s = match s1[i]? with
        | some (some (.fz _)) => opt (keysD d) fun ks => .ok ks s1
        | _ => .no := by unfold mKeys; rw [e]; rfl
      cases q : s1[i]? with
      | none => rw [q] at e2; exact (bad e2).elim
      | some x =>
        cases x with
        | none => rw [q] at e2; exact (bad e2).elim
        | some sv =>
          cases sv with
          | ow o => rw [q] at e2; exact (bad e2).elim
          | br o => rw [q] at e2; exact (bad e2).elim
          | fz d' =>
            rw [q] at e2
            cases ek : keysD d with
            | none => rw [ek] at e2; exact (bad e2).elim
            | some ks => rw [ek] at e2; exact ⟨d, s1, ks, rfl, ek, e2⟩
  obtain ⟨d, s1, ks, e1, e2, e3⟩ := hk
  refine ⟨d, s1, ks, e1, e2, ?_⟩
  have w' : Wn K W Q F H σ s (noEx ((mKeys i s).bind fun ds s1 => if loose s1 vs then (loopC f mt me vs ds [] (wipeS s1 vs)).bind fun acc s2 => .ok (.o (.lst acc)) (restS s1 s2 vs) else .no)) := w
  rw [e3] at w'
  have w2 : Wn K W Q F H σ s (noEx (mLc (mKs ks) f mt me vs s1)) := w'
  cases z : mLc (mKs ks) f mt me vs s1 with
  | ok r s2 => rw [z] at w2; exact w2
  | ex c l s2 => rw [z] at w2; exact w2
  | no => rw [z] at w2; exact w2
theorem ev_lcD {W : WX} {i : Nat} {g : TG} {tt : TT} {te : TE} {vs tv : List Nat} {f : MG} {mt : M Bool} {me : M Rv} (hg : EvG K g f tv) (ht : ∀ j ∈ tv, j ∈ vs) (htt : EvT K W0 tt mt) (he : EvX K W0 te me) : EvX K W (tMayE (tLc (iKeys (tVar i)) g tt te vs)) (mLcD i f mt me vs) := by
  intro F H σ s Q rs w
  obtain ⟨d, s1, ks, ed, ek, w1⟩ := mLcD_at w
  obtain ⟨F1, a, u, g1, hσ, hu, rd, hk⟩ := keys_at rs ed ek
  have w2 : Wn K W0 Q F1 H σ s1 (mLc (mKs ks) f mt me vs s1) := by
    have w3 := noEx_wn w1 W0
    cases e : mLc (mKs ks) f mt me vs s1 with
    | no => rw [e] at w3; exact w3
    | ex c l s2 =>
      rw [e] at w3
      exact fun dd F2 H2 xs g2 => w3 dd F2 H2 xs (g1.trans g2)
    | ok r s2 =>
      rw [e] at w3
      exact fun v F2 H2 g2 h => w3 v F2 H2 (g1.trans g2) h
  rcases rd with fa | ⟨od, fa⟩
  · refine .inr ⟨a, u, g1.rs.sub _ _ fa, hu.mut, fun od => ?_⟩
    have e := ext_lock (K := K) (od := od) hu fa
    exact ev_lcAt (keys_src (g1.rs.lock hu fa) hσ upd_same (keys_ext e hk)) hg ht htt he (wn_unlockX hu fa g1.rs.sub w2)
  · exact .inl (ev_lcAt (keys_src g1.rs hσ fa hk) hg ht htt he w2)
section
variable {X : Cx} {W : WX} {a b c e o : Expr} {es : List Expr} {pos p1 p2 p3 : Pos} {ta tb tc te to : TE} {ma mb mc me mo : M Rv} {t : TA} {m : M (List Rv)} {k n : Nat}
theorem c_lcD (i : Nat) {x : Str} {tg elt : Expr} {ifs : List Expr} {scope : Scope} {own : List (Str × Nat)} {g : TG} {tt : TT} {f : MG} {tv : List Nat} {mt : M Bool} (hc : X.calm = true) (hN : X.N.Nodup) (ok : BlkOk X.N X.env.scope scope own) (ht : ∀ j ∈ tv, j ∈ own.map (·.2)) (hi : X.N[i]? = some x) (hv : Vis X.env.scope x)
    (hg : ∀ (s : Shared) (H : Hp) (C : Addr) (cl : List (Str × Addr)) (fp : List Addr), CG (X.blk s H scope (compEnvC scope cl C X.env) fp) K tg g f tv) (hts : ∀ (s : Shared) (H : Hp) (C : Addr) (cl : List (Str × Addr)) (fp : List Addr), CTs (X.blk s H scope (compEnvC scope cl C X.env) fp) K W0 ifs tt mt)
    (he : ∀ (s : Shared) (H : Hp) (C : Addr) (cl : List (Str × Addr)) (fp : List Addr), CE (X.blk s H scope (compEnvC scope cl C X.env) fp) K W0 elt te me) (hs : ∀ z, foldedSetIterable (.Name x p1) X.env z = pure z := by intro _; rfl) (s0 : Shared) (H0 : Hp) (hd : (x == ("__debug__" : Str)) = false := by decide) (hcd : (x == ("__classdict__" : Str)) = false := by decide) :
    CE X K W (.ListComp elt [⟨tg, .Name x p1, ifs, 0⟩] scope pos) (tMayE (tLc (iKeys (tVar i)) g tt te (own.map (·.2)))) (mLcD i f mt me (own.map (·.2))) :=
  ⟨pe_may (pe_lc hc hN (pi_keys (pe_var hi hv hd hcd)) ok (fun s H C cl fp => (hg s H C cl fp).p) (fun s H C cl fp => (hts s H C cl fp).p) (fun s H C cl fp => (he s H C cl fp).p) hs), ev_lcD (hg s0 H0 0 [] []).v ht (hts s0 H0 0 [] []).v (he s0 H0 0 [] []).v⟩
end
end Cz

/-! # DaA -/
namespace Cz
open L2 PyProof.Rows PySem.Spec PySem

/-! ## dict comprehensions, whatever the keys -/
section
variable {X : Cx}
/-- one pair goes into the dict that grows -/
theorem putC {ps : List (Addr × Obj)} {σ : L2.St} {H J : Hp} {s : Shared} {E : Value → Shared → Prop} {a : Addr} {y v : V} {u r : Value} {Q : Unit → Shared → Prop} (hu : X.A.units < cLine) (I : Inv X ps σ H s)
    (g : DPut H a y v J) (ry : RelV y u) (rv : RelV v r) (h : ∀ z, Inv X ps σ J z → Q () z) : wpAny (model X.prog X.w) X.A (dictSet a u r) Q E s := by
  rcases g with ⟨l, k, e1, rfl, e2, rfl⟩ | ⟨l, k, b, e1, rfl, e2, e3, rfl⟩
  · exact d_dictSet I e1 e2 ry rv h
  · obtain rfl : u = .ref b := ry
    obtain ⟨n1, n2, cs, rl, dc⟩ := dt_of I.hok e1
    have n3 : cs.length = l.length := (Paired.length rl).symm
    have n4 := length_putK l k v
    refine wpAny_dictSet_heap (knd := tupleKind (mixKind X.prog X.w)) (hsz := by (rw [n3]; exact n1)) hu (key_of I.hok e2) dc fun g1 dc1 sb => ?_
    obtain ⟨ob, q1, q2, q3, q4, q5, q6, _, q7⟩ := dc1
    refine h _ (d_write I (by (rw [e1]; trivial)) sb ⟨ob, q3⟩ ?_)
    refine ⟨by omega, n2, _, (rl.put k e2 rv).keeps fun c ys ec => ?_, ob, q1, q2, q3, q4, q5, q6, q7⟩
    have nc : c ≠ a := fun z => by
      rw [z, e1] at ec
      cases ec
    rw [upd_ne nc]
    exact ec
/-- u0: the dict as it begins -/
def tDcA (u0 : HO) (wi : TI) (g : TG) (tt : TT) (tk tv : TE) (vs : List Nat) : TE := fun σ H Q => wi σ H fun J H1 => ∀ a, H1 a = none →
  ∃ W : Nat → Nat → Hp → Prop, (∃ m, W 0 m (upd H1 a u0)) ∧ ∀ i m Hi, W i m Hi → (J.stop i Hi ∧ Q (.ref a) Hi) ∨
    (J.go i Hi ∧ ∃ N : Hp → Prop, (∀ Hn, N Hn → ∃ m', m' < m ∧ W (i + 1) m' Hn) ∧
      ∀ x Hx, J.yld i Hi x Hx → g x (L2.wipe σ vs) Hx fun σ2 H2 => L2.wipe σ2 vs = L2.wipe σ vs ∧ tt σ2 H2 fun b H3 =>
        if b = true then tk σ2 H3 fun y H4 => tv σ2 H4 fun z H5 => ∃ H6, DPut H5 a y z H6 ∧ N H6 else N H3)

theorem dcA_core {u0 : HO} (hz : ∀ (H : Hp) (h : Heap), sysModules < h.objs.size → ObjOk X.prog X.w H (h.push { cls := .type "dict", data := .dict #[] }) h.objs.size u0) (hu : X.A.units < cLine)
    {ps : List (Addr × Obj)} {s : Shared} {σ : L2.St} {H : Hp} {Q : VK} {kx vx tg ie : Expr} {fs : List Expr} {sc : Scope} {own : List (Str × Nat)} {p1 p2 : Pos} {wi : TI} {g : TG} {tt : TT} {tk tv : TE} {us : Option (Value → Sem Unit)} {Qf : Value → Shared → Prop}
    (hc : X.calm = true) (hN : X.N.Nodup) (I : Inv X ps σ H s) (hi : PI X tg ie wi) (ok : BlkOk X.N X.env.scope sc own)
    (hg : ∀ (s : Shared) (H : Hp) (C : Addr) (cl : List (Str × Addr)) (fp : List Addr), PG (X.blk s H sc (compEnvC sc cl C X.env) fp) tg g)
    (ht : ∀ (s : Shared) (H : Hp) (C : Addr) (cl : List (Str × Addr)) (fp : List Addr), PTs (X.blk s H sc (compEnvC sc cl C X.env) fp) fs tt)
    (hk : ∀ (s : Shared) (H : Hp) (C : Addr) (cl : List (Str × Addr)) (fp : List Addr), PE (X.blk s H sc (compEnvC sc cl C X.env) fp) kx tk)
    (hv : ∀ (s : Shared) (H : Hp) (C : Addr) (cl : List (Str × Addr)) (fp : List Addr), PE (X.blk s H sc (compEnvC sc cl C X.env) fp) vx tv)
    (hs : ∀ x, foldedSetIterable ie X.env x = pure x) (h : tDcA u0 wi g tt tk tv (own.map (·.2)) σ H Q)
    (hR : ∀ d c z m J, Inv X ps σ J z → Q (.ref d) J → z.heap.Ns c m → FpOk X ps J c → compPost (model X.prog X.w) X.A X.xe us Qf (.ref d) c (.ok .next) z) :
    wpAny (model X.prog X.w) X.A (comprehension (.DictComp kx vx [⟨tg, ie, fs, 0⟩] sc p1) sc X.env p2 newDict false (eval ie X.env) us) Qf X.xe s := by
  have fr : ∀ n ∈ sc.names, n.2 = .free → ∃ c, X.env.cells.lookup n.1 = some c := by
    intro n hn e
    rcases ok.free n hn e with q | q
    · exact I.ok.has _ (Or.inl q)
    · exact I.ok.has _ (Or.inr q)
  refine wpAny_comprehension_free (use := us) rfl hs (closure_ok fr) ok.kind (fun n hn e => by (rw [ok.uniq n hn, e])) (thn (hi.run ps s σ H _ I h) fun w1 t1 hw1 => thn hw1 fun w2 t2 hw2 => ?_)
  obtain ⟨itA, ch, tn, J, J2, e0, I2, T, st2, f2, q2⟩ := hw2
  subst e0
  (refine wpAny_newObj_type (newEnv_comp ?_))
  generalize hd : t2.heap.objs.size = d
  have dn : J2 d = none := I2.hok.fresh (Nat.le_of_eq hd)
  obtain ⟨W, ⟨m0, w0⟩, tu⟩ := q2 d dn
  generalize ht3 : ({ t2 with heap := t2.heap.push { cls := .type "dict", data := .dict #[] } } : Shared) = t3
  have e3 : t3.heap = t2.heap.push { cls := .type "dict", data := .dict #[] } := by (rw [← ht3])
  have I3 : Inv X ps σ (upd J2 d u0) t3 := by
    have o0 := hz (upd J2 t2.heap.objs.size u0) t2.heap I2.big
    rw [← ht3]
    refine I2.laid (t' := t2.toks) (fun x o q => Heap.get?_push_of_some _ q) (Nat.le_of_eq hd) ?_
    rw [hd] at o0
    exact o0
  have lt2 : ∀ x ∈ ch, x < t2.heap.objs.size := fun x hx => by
    obtain ⟨o, q, _⟩ := T.obj _ _ st2 x hx
    exact Heap.lt_size q
  have f3 : ∀ x ∈ ch, FpOk X ps (upd J2 d u0) x ∧ x < t3.heap.objs.size := fun x hx => by
    have l := lt2 x hx
    have nd : x ≠ d := by
      rw [← hd]
      exact Nat.ne_of_lt l
    refine ⟨⟨by (rw [upd_ne nd]; exact (f2 x hx).1), (f2 x hx).2⟩, ?_⟩
    rw [e3, Heap.size_push]
    exact Nat.lt_succ_of_lt l
  have st3 : tn 0 t3.heap := T.keep _ _ _ st2 fun x _ o q => by
    rw [e3]
    (exact Heap.get?_push_of_some _ q)
  (have I4 := block_start I3 ok hN f3)
  have xg := hg t3 (upd J2 d u0) t3.heap.objs.size (cellsFrom (t3.heap.objs.size + 1) sc.names (cloFrom X.env.cells sc.names [])) ch
  have xt := ht t3 (upd J2 d u0) t3.heap.objs.size (cellsFrom (t3.heap.objs.size + 1) sc.names (cloFrom X.env.cells sc.names [])) ch
  have xk := hk t3 (upd J2 d u0) t3.heap.objs.size (cellsFrom (t3.heap.objs.size + 1) sc.names (cloFrom X.env.cells sc.names [])) ch
  have xv := hv t3 (upd J2 d u0) t3.heap.objs.size (cellsFrom (t3.heap.objs.size + 1) sc.names (cloFrom X.env.cells sc.names [])) ch
  show codeAny _ _ (.compStart (.DictComp kx vx [⟨tg, ie, fs, 0⟩] sc p1) 0 (.ref itA) (.ref d) (compEnvC sc (cellsFrom (t3.heap.objs.size + 1) sc.names (cloFrom X.env.cells sc.names [])) t3.heap.objs.size X.env)) (compPost (model X.prog X.w) X.A X.xe us Qf (.ref d) t3.heap.objs.size) { t3 with heap := pushCells (t3.heap.push { cls := .type "dict", data := .dict #[] }) sc.names }
  have no : ∀ x ∈ ch, (upd J2 d u0) x = none := fun x hx => (f3 x hx).1.1
  generalize hce : compEnvC sc (cellsFrom (t3.heap.objs.size + 1) sc.names (cloFrom X.env.cells sc.names [])) t3.heap.objs.size X.env = ce at I4 xg xt xk xv ⊢
  have lc : ce.locals = t3.heap.objs.size := by (rw [← hce]; rfl)
  generalize hJ3 : upd J2 d u0 = J3 at I3 I4 xg xt xk xv w0 no f3
  generalize ht4 : ({ t3 with heap := pushCells (t3.heap.push { cls := .type "dict", data := .dict #[] }) sc.names } : Shared) = t4 at I4 ⊢
  have st4 : tn 0 t4.heap := T.keep _ _ _ st3 fun x _ o q => by
    rw [← ht4]
    exact pushCells_keeps _ _ _ _ (Heap.get?_push_of_some _ q)
  have sta : ∀ {τ : L2.St} {Jx : Hp} {z : Shared}, Inv (X.blk t3 J3 sc ce ch) [] τ Jx z → (∀ x ∈ ch, Jx x = none) → ∀ x ∈ ch, FpOk (X.blk t3 J3 sc ce ch) [] Jx x := fun {τ Jx z} Iz hn x hx =>
    ⟨hn x hx, (Iz.ok.exf x hx).1, Iz.ok.exfs x hx, Or.inl hx, fun y c q => (Iz.ok.exf x hx).2 y c q, fun p hp => absurd (show p ∈ ([] : List (Addr × Obj)) ++ [] from hp) (by simp)⟩
  refine codeAny_compStart_dict ?_ (T.self X.A 0 _ _ _ st4 ?_)
  all_goals
    refine compLoop_anyD (fun n z => ∃ i Ji, Inv (X.blk t3 J3 sc ce ch) [] (L2.wipe σ (own.map (·.2))) Ji z ∧ tn i z.heap ∧ (∀ x ∈ ch, Ji x = none) ∧ W i n Ji) ?_ m0 ⟨0, J3, I4, st4, no, w0⟩
    rintro n t5 ⟨i, J5, I5, st5, n5, w5⟩
    rcases tu i n J5 w5 with ⟨stop, qq⟩ | ⟨go, N, hN', step⟩
    · have td := T.done (X.blk t3 J3 sc ce ch) rfl rfl rfl hc i [] t5 _ J5 (fun _ _ => False) I5 (sta I5 n5) st5 stop
      refine thnF td fun r t6 ⟨hr, I6⟩ => ?_
      subst hr
      have I7 : Inv X ps σ J5 t6 := I3.call' (ch := ch) I6.os I6.base I6.hok I6.bare fun x hx => ⟨(f3 x hx).1.2.2.2.1, (f3 x hx).1.2.1, (f3 x hx).1.2.2.2.2.1, (f3 x hx).1.2.2.2.2.2⟩
      have nC : J5 t3.heap.objs.size = none := by
        have q : J5 ce.locals = none := I6.free
        rw [lc] at q
        exact q
      obtain ⟨m, hm, _⟩ := I6.loc
      have hm : t6.heap.Ns ce.locals m := hm
      rw [lc] at hm
      exact hR d t3.heap.objs.size t6 m J5 I7 qq hm (I3.fpOk (Nat.le_refl _) nC)
    · refine thnF (T.item (X.blk t3 J3 sc ce ch) rfl rfl rfl hc i [] t5 _ J5 (fun _ _ => False) I5 (sta I5 n5) st5 go) fun r t6 ⟨u, hr, h6⟩ => ?_
      subst hr
      refine thnF h6 fun _ t7 ⟨x, J7, I7, r7, y7, st7, n7⟩ => ?_
      have P7 := I7.pinned (sta I7 n7) (T.obj _ _ st7)
      refine thnF (xg.run _ t7 _ J7 x u _ P7 r7 (step x J7 y7)) fun _ t8 ⟨τ, J8, I8, hw8, q8⟩ => ?_
      refine thnF (xt.run _ t8 τ J8 _ I8 q8) fun b t9 ⟨J9, I9, q9⟩ => ?_
      have fin : ∀ {z : Shared} {Jz : Hp}, Inv (X.blk t3 J3 sc ce ch) ([] ++ pinsAt ch t7.heap) τ Jz z → N Jz → ∃ m, m < n ∧ ∃ i Ji, Inv (X.blk t3 J3 sc ce ch) [] (L2.wipe σ (own.map (·.2))) Ji z ∧ tn i z.heap ∧ (∀ x ∈ ch, Ji x = none) ∧ W i m Ji := by
        intro z Jz Iz nx
        obtain ⟨m', hm, w'⟩ := hN' Jz nx
        have pn : ∀ x ∈ ch, ∀ o, t7.heap.get? x = some o → z.heap.get? x = some o ∧ Jz x = none := fun x hx o q =>
          have pz := Iz.pin (x, o) (List.mem_append_right _ (List.mem_append_right _ (mem_pinsAt hx q)))
          ⟨pz.1, pz.2.1⟩
        have ll : (L2.wipe σ (own.map (·.2))).length = τ.length := by (rw [← hw8, wipe_length])
        refine ⟨m', hm, i + 1, Jz, (Iz.unpinned (pins := [])).weak ll (fun j v q => ?_), T.keep _ _ _ st7 fun x hx o q => (pn x hx o q).1, fun x hx => ?_, w'⟩
        · rw [← hw8] at q
          exact (wipe_some q).1
        · obtain ⟨o, q, _⟩ := T.obj _ _ st7 x hx
          exact (pn x hx o q).2
      cases b with
      | false =>
        rw [if_neg (by decide)] at q9 ⊢
        exact fin I9 q9
      | true =>
        rw [if_pos rfl] at q9 ⊢
        refine thnF (xk.run _ t9 τ J9 _ I9 q9) fun k1 t10 ⟨yk, J10, I10, r10, q10⟩ => ?_
        refine thnF (xv.run _ t10 τ J10 _ I10 q10) fun k2 t11 ⟨yv, J11, I11, r11, J12, dp, nx⟩ => ?_
        exact putC (X := X.blk t3 J3 sc ce ch) hu I11 dp r10 r11 fun t12 I12 => fin I12 nx
theorem pe_dcA {u0 : HO} (hz : ∀ (H : Hp) (h : Heap), sysModules < h.objs.size → ObjOk X.prog X.w H (h.push { cls := .type "dict", data := .dict #[] }) h.objs.size u0) (hu : X.A.units < cLine)
    {kx vx tg ie : Expr} {fs : List Expr} {sc : Scope} {own : List (Str × Nat)} {p1 : Pos} {wi : TI} {g : TG} {tt : TT} {tk tv : TE} (hc : X.calm = true) (hN : X.N.Nodup) (hi : PI X tg ie wi) (ok : BlkOk X.N X.env.scope sc own)
    (hg : ∀ (s : Shared) (H : Hp) (C : Addr) (cl : List (Str × Addr)) (fp : List Addr), PG (X.blk s H sc (compEnvC sc cl C X.env) fp) tg g)
    (ht : ∀ (s : Shared) (H : Hp) (C : Addr) (cl : List (Str × Addr)) (fp : List Addr), PTs (X.blk s H sc (compEnvC sc cl C X.env) fp) fs tt)
    (hk : ∀ (s : Shared) (H : Hp) (C : Addr) (cl : List (Str × Addr)) (fp : List Addr), PE (X.blk s H sc (compEnvC sc cl C X.env) fp) kx tk)
    (hv : ∀ (s : Shared) (H : Hp) (C : Addr) (cl : List (Str × Addr)) (fp : List Addr), PE (X.blk s H sc (compEnvC sc cl C X.env) fp) vx tv)
    (hs : ∀ x, foldedSetIterable ie X.env x = pure x := by intro _; rfl) : PE X (.DictComp kx vx [⟨tg, ie, fs, 0⟩] sc p1) (tDcA u0 wi g tt tk tv (own.map (·.2))) := by
  constructor
  intro ps s σ H Q I hw
  rw [arm_eval_DictComp]
  refine dcA_core hz hu hc hN I hi ok hg ht hk hv hs hw fun d c z m J I' q hn f => ⟨m, hn, fun h'' sb => ?_⟩
  exact ⟨.ref d, J, I'.turned (t' := z.toks) (fun b o hb e => (sb.2 b hb).trans e) f.1 f.2.1 f.2.2.2.1 f.2.2.2.2.1 f.2.2.2.2.2, rfl, q⟩
/-- the walk, with what holds between the turns -/
theorem dc_it {J : It} {n : Nat} {G : Hp → Prop} {Y : Nat → Hp → V → Hp → Prop} (w : Walk J n G Y) {u0 : HO} {g : TG} {tt : TT} {tk tv : TE} {vs : List Nat} {σ : L2.St} {H1 : Hp} {a : Addr} {Qd : Hp → Prop} (P : Nat → Hp → Prop) (h0 : P 0 (upd H1 a u0))
    (hG : ∀ i H, i ≤ n → P i H → G H) (hs : ∀ i x H Hx, i < n → P i H → Y i H x Hx → g x (L2.wipe σ vs) Hx fun σ2 H2 => L2.wipe σ2 vs = L2.wipe σ vs ∧ tt σ2 H2 fun b H3 =>
      if b = true then tk σ2 H3 fun y H4 => tv σ2 H4 fun z H5 => ∃ H6, DPut H5 a y z H6 ∧ P (i + 1) H6 else P (i + 1) H3) (hd : ∀ H, P n H → Qd H) :
    ∃ W : Nat → Nat → Hp → Prop, (∃ m, W 0 m (upd H1 a u0)) ∧ ∀ i m Hi, W i m Hi → (J.stop i Hi ∧ Qd Hi) ∨
    (J.go i Hi ∧ ∃ N : Hp → Prop, (∀ Hn, N Hn → ∃ m', m' < m ∧ W (i + 1) m' Hn) ∧
      ∀ x Hx, J.yld i Hi x Hx → g x (L2.wipe σ vs) Hx fun σ2 H2 => L2.wipe σ2 vs = L2.wipe σ vs ∧ tt σ2 H2 fun b H3 =>
        if b = true then tk σ2 H3 fun y H4 => tv σ2 H4 fun z H5 => ∃ H6, DPut H5 a y z H6 ∧ N H6 else N H3) := by
  refine ⟨fun i m H => i + m = n ∧ P i H, ⟨n, by omega, h0⟩, fun i m H z => ?_⟩
  obtain ⟨e, p⟩ := z
  have q := hG i H (by omega) p
  rcases Nat.eq_zero_or_pos m with m0 | m0
  · left
    have e' : i = n := by omega
    rw [e'] at p ⊢
    exact ⟨w.stops H q, hd H p⟩
  · right
    have l : i < n := by omega
    exact ⟨w.goes i H l q, P (i + 1), fun Hn pn => ⟨m - 1, by omega, by omega, pn⟩, fun x Hx y => hs i x H Hx l p (w.yields i H x Hx l q y)⟩
end
end Cz

/-! # DaB -/
namespace Cz
open L2 PyProof.Rows PySem.Spec PySem
variable {K : PySem.W.Frag}

/-! ## dict comprehensions: the mirror -/
section
variable {α β : Type} {Z : R β → Prop}
theorem nx_inv (hn : Z .no → False) {x : R α} {k : α → SS → R β} (h : Z ((noX x).bind k)) : ∃ a s, x = .ok a s ∧ Z (k a s) := by
  cases x with
  | ok a s => exact ⟨a, s, rfl, h⟩
  | ex c l s => exact (hn h).elim
  | no => exact (hn h).elim
theorem fr_inv (hn : Z .no → False) {r : Rv} {s : SS} {k : D → SS → R β} (h : Z ((frz r s).bind k)) : ∃ d s', frz r s = .ok d s' ∧ Z (k d s') := by
  cases e : frz r s with
  | ok d s' => (rw [e] at h; exact ⟨d, s', rfl, h⟩)
  | ex c l s' => exact absurd e frz_ex
  | no => (rw [e] at h; exact (hn h).elim)
theorem op_inv (hn : Z .no → False) {o : Option α} {k : α → R β} (h : Z (opt o k)) : ∃ a, o = some a ∧ Z (k a) := by
  cases o with
  | none => exact (hn h).elim
  | some a => exact ⟨a, rfl, h⟩
theorem if_inv (hn : Z .no → False) {c : Prop} [Decidable c] {x : R β} (h : Z (if c then x else .no)) : c ∧ Z x := by
  by_cases q : c
  · rw [if_pos q] at h
    exact ⟨q, h⟩
  · rw [if_neg q] at h
    exact (hn h).elim
end
def loopD (f : MG) (mt : M Bool) (mk me : M Rv) (vs : List Nat) : List D → OD → SS → R OD
  | [], o, s => .ok o s
  | d :: ds, o, s => opt (f d s) fun s1 => (noX (mt s1)).bind fun b s2 =>
    if b = true then (noX (mk s2)).bind fun r s3 => (frz r s3).bind fun y s4 => (noX (me s4)).bind fun r2 s5 => (frz r2 s5).bind fun z s6 => opt (oputD o y z) fun o' => if loose s6 vs = true then loopD f mt mk me vs ds o' (wipeS s6 vs) else .no
    else if loose s2 vs = true then loopD f mt mk me vs ds o (wipeS s2 vs) else .no
/-- o0: the dict as it begins -/
def mDc (o0 : OD) (mi : M (List D)) (f : MG) (mt : M Bool) (mk me : M Rv) (vs : List Nat) : M Rv := fun s => (mi s).bind fun ds s1 =>
  if loose s1 vs = true then (loopD f mt mk me vs ds o0 (wipeS s1 vs)).bind fun o s2 => .ok (.o o) (restS s1 s2 vs) else .no
theorem ev_dc {W : WX} {wi : TI} {g : TG} {tt : TT} {tk te : TE} {vs tv : List Nat} {mi : M (List D)} {f : MG} {mt : M Bool} {mk me : M Rv} {u0 : HO} {o0 : OD} (h0 : ∀ F, RpO K F o0 u0) (hi : EvI K W wi mi) (hg : EvG K g f tv) (ht : ∀ j ∈ tv, j ∈ vs) (htt : EvT K W0 tt mt) (hk : EvX K W0 tk mk) (he : EvX K W0 te me) :
    EvX K W (tDcA u0 wi g tt tk te vs) (mDc o0 mi f mt mk me vs) := by
  intro F H σ s Q rs w
  refine hi F H σ s _ rs ?_
  unfold mDc at w
  cases e : mi s with
  | no => rw [e] at w; exact w
  | ex c l s1 =>
    rw [e] at w
    exact fun dd F1 H1 xs g1 => w dd F1 H1 xs g1
  | ok ds s1 =>
    rw [e] at w
    obtain ⟨hls, w1⟩ := if_inv (Z := fun r => Wn K W Q F H σ s r) (fun z => z) w
    intro J F1 H1 G Y g1 wk hG hY a ha
    let fin : OD → SS → R Rv := fun o s2 => .ok (.o o) (restS s1 s2 vs)
    let Z : R OD → Prop := fun r => Wn K W Q F H σ s (r.bind fin)
    have Zn : Z .no → False := fun z => z
    have hF : F1 a = none := g1.rs.sub.free ha
    have hO : ¬ Ow σ s1 a := fun z => by
      obtain ⟨_, u, q⟩ := g1.rs.owF z
      rw [ha] at q
      cases q
    have wow : ∀ (τ : L2.St) (t : SS) (b : Addr), Ow (L2.wipe τ vs) (wipeS t vs) b → Ow τ t b := fun τ t b z => by
      obtain ⟨j, sv, o, h1, h2, h3⟩ := z
      have n : j ∉ vs := fun z => wipeS_in z h1
      rw [wipeS_out n] at h1
      rw [wipe_out n] at h3
      exact ⟨j, sv, o, h1, h2, h3⟩
    refine dc_it wk (fun i Hc => ∃ Fc sc o ho, Go K F1 H1 σ s1 Fc Hc (L2.wipe σ vs) sc ∧ Fc a = none ∧ Hc a = some ho ∧ ¬ Ow (L2.wipe σ vs) sc a ∧ RpO K Fc o ho ∧ (∀ j ∈ vs, sc[j]? = some none) ∧ Z (loopD f mt mk me vs (ds.drop i) o sc))
      ⟨F1, wipeS s1 vs, o0, u0, ((Go.refl g1.rs).wipe hls).pend _ ha hF (fun z => hO (wow σ s1 a z)), hF, upd_same, fun z => hO (wow σ s1 a z), h0 F1, fun j hj => wipeS_none hj (loose_at hls hj).1, w1⟩ ?_ ?_ ?_
    · rintro i Hc _ ⟨Fc, sc, o, ho, gc, _⟩
      exact hG Fc Hc _ sc gc.rs gc.fr
    · rintro i x Hc Hx hi' ⟨Fc, sc, o, ho, gc, c1, c2, c3, c4, c5, c6⟩ y
      obtain ⟨F3, d, al, ed, rd⟩ := hY i Hc x Hx Fc _ sc hi' y gc.rs gc.fr
      have hd : ds.drop i = d :: ds.drop (i + 1) := by
        obtain ⟨hlt, hx⟩ := List.getElem?_eq_some_iff.mp ed
        rw [List.drop_eq_getElem_cons hlt, hx]
      rw [hd] at c6
      obtain ⟨s3, ef, c7⟩ := op_inv Zn c6
      refine hg Fc Hc _ sc F3 Hx _ sc x d s3 _ ((Go.refl gc.rs).al al) rd ef fun σ2 g3 k3 l3 => ?_
      have hw : L2.wipe σ2 vs = L2.wipe σ vs := wipe_eq (by rw [l3, wipe_length]) ht k3
      obtain ⟨b, s4, et, c8⟩ := nx_inv Zn c7
      refine ⟨hw, htt F3 Hx σ2 s3 _ g3.rs ?_⟩
      rw [et]
      intro F4 H4 g4
      have back : ∀ {F8 H8 : Hp} {s8 : SS}, Go K F3 Hx σ2 s3 F8 H8 σ2 s8 → loose s8 vs = true → Go K Fc Hc (L2.wipe σ vs) sc F8 H8 (L2.wipe σ vs) (wipeS s8 vs) := fun g8 h8 => by
        have z := (g3.trans g8).wipe h8
        rw [hw] at z
        exact z
      cases b with
      | false =>
        rw [if_neg (by decide)]
        obtain ⟨h4, c9⟩ := if_inv Zn (show Z (if loose s4 vs = true then loopD f mt mk me vs (ds.drop (i + 1)) o (wipeS s4 vs) else .no) from c8)
        have gt := back g4 h4
        obtain ⟨b1, b2, b3⟩ := gt.still c1 c2 c3 (c4.notTup c2)
        exact ⟨F4, wipeS s4 vs, o, ho, gc.trans gt, b1, b2, b3, c4.mono gt.fr, fun j hj => wipeS_none hj (loose_at h4 hj).1, c9⟩
      | true =>
        rw [if_pos rfl]
        have c8 : Z ((noX (mk s4)).bind fun r s3 => (frz r s3).bind fun y s4 => (noX (me s4)).bind fun r2 s5 => (frz r2 s5).bind fun z s6 => opt (oputD o y z) fun o' => if loose s6 vs = true then loopD f mt mk me vs (ds.drop (i + 1)) o' (wipeS s6 vs) else .no) := c8
        obtain ⟨r, s5, ek, c9⟩ := nx_inv Zn c8
        obtain ⟨ky, s6, ey, d1⟩ := fr_inv Zn c9
        obtain ⟨r2, s7, ee, d2⟩ := nx_inv Zn d1
        obtain ⟨kz, s8, ez, d3⟩ := fr_inv Zn d2
        obtain ⟨o', eo, d4⟩ := op_inv Zn d3
        obtain ⟨h8, d5⟩ := if_inv Zn d4
        refine hk F4 H4 σ2 s4 _ g4.rs ?_
        rw [ek]
        intro v F5 H5 g5 r5
        obtain ⟨F6, g6, _, hv⟩ := frz_ok g5 r5 ey
        refine he F6 H5 σ2 s6 _ g6.rs ?_
        rw [ee]
        intro v2 F7 H7 g7 r7
        obtain ⟨F8, g8, _, hz⟩ := frz_ok g7 r7 ez
        have gt := back ((g4.trans g6).trans g8) h8
        obtain ⟨b1, b2, b3⟩ := gt.still c1 c2 c3 (c4.notTup c2)
        obtain ⟨hn, p1, p2⟩ := oput_ok g8.rs.sub b2 (c4.mono gt.fr) ((hv.mono g8.fr).look g8.rs.sub) hz eo
        exact ⟨_, p1, F8, wipeS s8 vs, o', hn, (gc.trans gt).pend _ ha b1 b3, b1, upd_same, b3, p2, fun j hj => wipeS_none hj (loose_at h8 hj).1, d5⟩
    · rintro Hc ⟨Fc, sc, o, ho, gc, c1, c2, c3, c4, c5, c6⟩
      rw [List.drop_length] at c6
      have len : sc.length = s1.length := by
        have q := gc.rs.len
        rw [wipe_length, g1.rs.len] at q
        exact q.symm
      exact c6 (.ref a) Fc Hc (g1.trans (Go.rest g1.rs hls gc c5)) ⟨a, ho, rfl, c1, c2, c4, g1.dm a ha, fun z => c3 (rest_own hls len z)⟩
section
variable {X : Cx} {W : WX} {pos : Pos} {k : Nat}
theorem c_dcA {u0 : HO} {o0 : OD} (h0 : ∀ F, RpO K F o0 u0) (hz : ∀ (H : Hp) (h : Heap), sysModules < h.objs.size → ObjOk X.prog X.w H (h.push { cls := .type "dict", data := .dict #[] }) h.objs.size u0) (hr : Room k X.A)
    {kx vx tg ie : Expr} {fs : List Expr} {sc : Scope} {own : List (Str × Nat)} {wi : TI} {g : TG} {tt : TT} {tk te : TE} {mi : M (List D)} {f : MG} {tv : List Nat} {mt : M Bool} {mk me : M Rv} (hc : X.calm = true) (hN : X.N.Nodup) (ok : BlkOk X.N X.env.scope sc own) (ht : ∀ j ∈ tv, j ∈ own.map (·.2)) (hi : CI X K W tg ie wi mi)
    (hg : ∀ (s : Shared) (H : Hp) (C : Addr) (cl : List (Str × Addr)) (fp : List Addr), CG (X.blk s H sc (compEnvC sc cl C X.env) fp) K tg g f tv)
    (hts : ∀ (s : Shared) (H : Hp) (C : Addr) (cl : List (Str × Addr)) (fp : List Addr), CTs (X.blk s H sc (compEnvC sc cl C X.env) fp) K W0 fs tt mt)
    (hk : ∀ (s : Shared) (H : Hp) (C : Addr) (cl : List (Str × Addr)) (fp : List Addr), CE (X.blk s H sc (compEnvC sc cl C X.env) fp) K W0 kx tk mk)
    (he : ∀ (s : Shared) (H : Hp) (C : Addr) (cl : List (Str × Addr)) (fp : List Addr), CE (X.blk s H sc (compEnvC sc cl C X.env) fp) K W0 vx te me)
    (hs : ∀ x, foldedSetIterable ie X.env x = pure x) (s0 : Shared) (H0 : Hp) :
    CE X K W (.DictComp kx vx [⟨tg, ie, fs, 0⟩] sc pos) (tDcA u0 wi g tt tk te (own.map (·.2))) (mDc o0 mi f mt mk me (own.map (·.2))) :=
  ⟨pe_dcA hz (hu64 hr |> fun h => by omega) hc hN hi.p ok (fun s H C cl fp => (hg s H C cl fp).p) (fun s H C cl fp => (hts s H C cl fp).p) (fun s H C cl fp => (hk s H C cl fp).p) (fun s H C cl fp => (he s H C cl fp).p) hs,
    ev_dc h0 hi.v (hg s0 H0 0 [] []).v ht (hts s0 H0 0 [] []).v (hk s0 H0 0 [] []).v (he s0 H0 0 [] []).v⟩
theorem rk0 (F : Hp) : RpO K F (.dk false []) (.dK []) := .dk .nil
theorem rt0 (F : Hp) : RpO K F (.dt false []) (.dT []) := .dt .nil
theorem zk0 {P : Program} {w : World} (H : Hp) (h : Heap) (q : sysModules < h.objs.size) : ObjOk P w H (h.push { cls := .type "dict", data := .dict #[] }) h.objs.size (.dK []) := dk_empty h q
theorem zt0 {P : Program} {w : World} (H : Hp) (h : Heap) (q : sysModules < h.objs.size) : ObjOk P w H (h.push { cls := .type "dict", data := .dict #[] }) h.objs.size (.dT []) := dt_empty h q
end
end Cz

/-! # DaC -/
namespace Cz
open L2 PyProof.Rows PySem.Spec PySem
variable {K : PySem.W.Frag}

/-! ## o[i], x in o by own methods -/
/-- own __getitem__ -/
def mOG (C : Addr) (f : MF) (mo mi : M Rv) : M Rv := fun s => (mo s).bind fun r s1 => (mi s1).bind fun r2 s2 => (frz r2 s2).bind fun d s3 => opt (pk (nrm r) s3) fun x => match x with
  | .obj C' _ => if C' = C then noEx (callS f [nrm r, .d d] s3) else .no
  | _ => .no
def tOG (C : Addr) (sp : Sp) (E : XK) (ta ti : TE) : TE := fun σ H Q => ta σ H fun x H1 => ti σ H1 fun y H2 => ∃ a dx fs, x = .ref a ∧ H2 a = some (.ins C dx fs) ∧ sp [x, y] H2 Q E
theorem ev_OG {W : WX} {C : Addr} {f : MF} {ta ti : TE} {mo mi : M Rv} (ho : EvX K W ta mo) (hi : EvX K W ti mi) : EvX K W (tOG C (spM K f) (fun _ _ _ => False) ta ti) (mOG C f mo mi) := by
  intro F H σ s Q rs w
  refine ho.step (Go.refl rs) w fun r s1 v F1 H1 g1 _ h1 w1 => ?_
  obtain ⟨F1', g1', sb1, h1'⟩ := nrm_ok g1 h1
  refine hi.step g1' w1 fun r2 s2 v2 F2 H2 g2 g12 h2 w2 => ?_
  obtain ⟨d, s3, ed, w3⟩ := frz_wn w2
  obtain ⟨F3, g23, sb, hd⟩ := frz_ok g12 h2 ed
  have g3 := g1'.trans g23
  obtain ⟨x, ex, w4⟩ := opt_wn w3
  have h13 := h1'.go g23
  have hp := pk_ok g3.rs h13 ex
  cases x with
  | obj C' fs =>
    simp only at w4
    split at w4
    · rename_i hc
      subst hc
      obtain ⟨a, dx, xs, rfl, e1, e2⟩ := hp
      exact ⟨a, dx, xs, rfl, e1, call_ok (W := fun _ _ _ _ => False) g3 (h13.arg (.d hd .nil)) (noEx_wn w4 _)⟩
    · exact w4.elim
  | _ => exact w4.elim
/-- own __contains__; neg: not in -/
def mOI (neg : Bool) (C : Addr) (f : MF) (mx mo : M Rv) : M Rv := fun s => (mx s).bind fun r1 s1 => (frz r1 s1).bind fun d s2 => (mo s2).bind fun r s3 => opt (pk (nrm r) s3) fun x => match x with
  | .obj C' _ => if C' = C then (noEx (callS f [nrm r, .d d] s3)).bind fun r4 s4 => opt ((pk r4 s4).bind blD) fun b => .ok (.d (.bl (if neg then !b else b))) s4 else .no
  | _ => .no
def tOI (neg : Bool) (C : Addr) (sp : Sp) (E : XK) (tx to : TE) : TE := fun σ H Q => tx σ H fun y H1 => to σ H1 fun x H2 => ∃ a dx fs, x = .ref a ∧ H2 a = some (.ins C dx fs) ∧ sp [x, y] H2 (fun v H3 => ∃ b, v = .bl b ∧ Q (.bl (if neg then !b else b)) H3) E
theorem ev_OI {W : WX} {neg : Bool} {C : Addr} {f : MF} {tx to : TE} {mx mo : M Rv} (hx : EvX K W tx mx) (ho : EvX K W to mo) : EvX K W (tOI neg C (spM K f) (fun _ _ _ => False) tx to) (mOI neg C f mx mo) := by
  intro F H σ s Q rs w
  refine hx.step (Go.refl rs) w fun r1 s1 v1 F1 H1 g1 _ h1 w1 => ?_
  obtain ⟨d, s2, ed, w2⟩ := frz_wn w1
  obtain ⟨F2, g2, _, hd⟩ := frz_ok g1 h1 ed
  refine ho.step g2 w2 fun r s3 v F3 H3 g3 g23 h3 w3 => ?_
  obtain ⟨F3', g23', sb1, h3'⟩ := nrm_ok g23 h3
  have g3' := g2.trans g23'
  obtain ⟨x, ex, w4⟩ := opt_wn w3
  have hp := pk_ok g3'.rs h3' ex
  cases x with
  | obj C' fs =>
    simp only at w4
    split at w4
    · rename_i hc
      subst hc
      obtain ⟨a, dx, xs, rfl, e1, e2⟩ := hp
      refine ⟨a, dx, xs, rfl, e1, ?_⟩
      refine call_ok (W := fun _ _ _ _ => False) (Q := fun v H3 => ∃ b, v = .bl b ∧ Q (.bl (if neg then !b else b)) H3) g3' (h3'.arg (.d (hd.mono g23'.fr) .nil)) ?_
      cases e : callS f [nrm r, .d d] s3 with
      | no => rw [e] at w4; exact w4.elim
      | ex c l s4 => rw [e] at w4; exact w4.elim
      | ok r4 s4 =>
        rw [e] at w4
        obtain ⟨b, eb, w5⟩ := opt_wn w4
        exact fun v F' H' g hr => ⟨b, blD_ok g.rs hr eb, w5 _ F' H' g (.bl _)⟩
    · exact w4.elim
  | _ => exact w4.elim
section
variable {X : Cx} {k : Nat} {f C : Addr} {fd : FuncData} {ps : List Str} {sp : Sp} {CX : CXT} {E : XK} {o i : Expr} {pos : Pos} {ta ti : TE}
theorem frm_of {pins : List (Addr × Obj)} {σ : L2.St} {H : Hp} {s : Shared} (I : Inv X pins σ H s) : ∃ m, Fr X.base X.env.locals s.heap m := by
  obtain ⟨m, hm, _⟩ := I.loc
  exact ⟨m, hm, I.bk, Nat.le_trans I.ok.bsz I.ok.above⟩
theorem run1 {pins : List (Addr × Obj)} {σ : L2.St} {H : Hp} {s : Shared} {Q : VK} {us : List Value} {vs : List V} (F : FnOk X.prog X.w X.K X.mg X.base CX k f fd ps sp) (hr : Room (k + 1) X.A) (hb : Binds X.K fd ps []) (hx : Passes CX X E)
    (I : Inv X pins σ H s) (r : Vals vs us) (h : sp vs H Q E) : wpAny (model X.prog X.w) X.A.in1 (call (.ref f) us) (EP X pins σ Q) X.xe s := by
  have n : us.length = ps.length := by
    rw [← r.length]
    exact F.len _ _ _ _ h
  have hb1 := hb s us I.kIn (by (rw [List.append_nil]; exact n))
  rw [List.append_nil] at hb1
  refine wpAny_call (codeAny_mono (F.run X.A.in1 X.stack s H ⟨us, []⟩ us vs Q E hr.in1 I.env0.in1 hb1 r h) fun z t hz => ?_)
  cases z with
  | error e => exact hx pins σ H s e t I hz
  | ok fl =>
    cases fl with
    | ret u => exact I.after hz
    | next => exact hz.elim
    | brk => exact hz.elim
    | cont => exact hz.elim
theorem pe_OG (ho : PE X o ta) (hi : PE X i ti) (hm : Meth X.K C "__getitem__" f) (hfn : PySem.W.fnIn X.K f = true) (F : FnOk X.prog X.w X.K X.mg X.base CX k f fd ps sp) (hr : Room (k + 1) X.A) (hb : Binds X.K fd ps []) (hx : Passes CX X E)
    (hs : ∀ (a : Addr) (v : Value), subscripted i true (.ref a) v = runValue (.builtin "lifetime.subscript" ⟨[.ref a, v], []⟩) := by intro _ _; with_unfolding_all rfl) : PE X (.Subscript o i pos) (tOG C sp E ta ti) := by
  refine ⟨fun pins s σ H Q I h => Subscript_ (thn (ho.run pins s σ H _ I h) fun u s1 ⟨x, H1, I1, rx, q⟩ => thn (hi.run pins s1 σ H1 _ I1 q) fun iv s2 ⟨y, H2, I2, ry, q2⟩ => ?_)⟩
  obtain ⟨a, dx, fs, ex, ea, q3⟩ := q2
  subst ex
  (obtain rfl : u = Value.ref a := rx)
  obtain ⟨m, fr⟩ := frm_of I2
  obtain ⟨mA, O, _⟩ := ins_get I2.hok ea
  obtain ⟨od, J, _⟩ := O.look
  exact PySem.W.sub_K fr I2.ok.mod.kin J hm.at_ hfn hm.fn (run1 (vs := [V.ref a, y]) F hr hb hx I2 (.cons rfl (.cons ry .nil)) q3) (hs a iv)
theorem pc_OI (hi : PE X i ti) (ho : PE X o ta) (hm : Meth X.K C "__contains__" f) (F : FnOk X.prog X.w X.K X.mg X.base CX k f fd ps sp) (hr : Room k X.A) (hb : Binds X.K fd ps []) (hx : Passes CX X E) : PC X .In i o (tOI false C sp E ti ta) := by
  refine ⟨fun pins s σ H Q I h => thn (hi.run pins s σ H _ I h) fun iv s1 ⟨y, H1, I1, ry, q⟩ => thn (ho.run pins s1 σ H1 _ I1 q) fun u s2 ⟨x, H2, I2, rx, q2⟩ => ?_⟩
  obtain ⟨a, dx, fs, ex, ea, q3⟩ := q2
  subst ex
  (obtain rfl : u = Value.ref a := rx)
  obtain ⟨m, fr⟩ := frm_of I2
  obtain ⟨mA, O, _⟩ := ins_get I2.hok ea
  obtain ⟨od, J, _⟩ := O.look
  refine PySem.W.in_K fr I2.ok.mod.kin J hm.at_ hm.fn (thn (run_fn (vs := [V.ref a, y]) (dvs := []) (ds := []) F hr hb .nil hx I2 (.cons rfl (.cons ry .nil)) q3) fun r s3 ⟨v, H3, I3, rv, b, eb, q4⟩ => ?_)
  subst eb
  cases rv
  exact wpAny_truthy_bool ⟨.bl b, H3, I3, rfl, q4⟩
theorem pc_ON (hi : PE X i ti) (ho : PE X o ta) (hm : Meth X.K C "__contains__" f) (F : FnOk X.prog X.w X.K X.mg X.base CX k f fd ps sp) (hr : Room k X.A) (hb : Binds X.K fd ps []) (hx : Passes CX X E) : PC X .NotIn i o (tOI true C sp E ti ta) := by
  refine ⟨fun pins s σ H Q I h => thn (hi.run pins s σ H _ I h) fun iv s1 ⟨y, H1, I1, ry, q⟩ => thn (ho.run pins s1 σ H1 _ I1 q) fun u s2 ⟨x, H2, I2, rx, q2⟩ => ?_⟩
  obtain ⟨a, dx, fs, ex, ea, q3⟩ := q2
  subst ex
  (obtain rfl : u = Value.ref a := rx)
  obtain ⟨m, fr⟩ := frm_of I2
  obtain ⟨mA, O, _⟩ := ins_get I2.hok ea
  obtain ⟨od, J, _⟩ := O.look
  refine PySem.W.notIn_K fr I2.ok.mod.kin J hm.at_ hm.fn (thn (run_fn (vs := [V.ref a, y]) (dvs := []) (ds := []) F hr hb .nil hx I2 (.cons rfl (.cons ry .nil)) q3) fun r s3 ⟨v, H3, I3, rv, b, eb, q4⟩ => ?_)
  subst eb
  cases rv
  exact wpAny_truthy_bool ⟨.bl (!b), H3, I3, rfl, q4⟩
end
section
variable {X : Cx} {W : WX} {kk : Nat} {f C : Addr} {fd : FuncData} {ps : List Str} {g : MF} {o i : Expr} {pos : Pos} {to ti : TE} {mo mi : M Rv}
theorem c_og (hm : Meth X.K C "__getitem__" f) (hfn : PySem.W.fnIn X.K f = true) (F : FnOk X.prog X.w X.K X.mg X.base CX0 kk f fd ps (spM K g)) (hr : Room (kk + 1) X.A) (hb : Binds X.K fd ps []) (ho : CE X K W o to mo) (hi : CE X K W i ti mi)
    (hs : ∀ (a : Addr) (v : Value), subscripted i true (.ref a) v = runValue (.builtin "lifetime.subscript" ⟨[.ref a, v], []⟩) := by intro _ _; with_unfolding_all rfl) : CE X K W (.Subscript o i pos) (tOG C (spM K g) (fun _ _ _ => False) to ti) (mOG C g mo mi) :=
  ⟨pe_OG ho.p hi.p hm hfn F hr hb (fun _ _ _ _ _ _ _ h => h.elim) hs, ev_OG ho.v hi.v⟩
theorem c_oin (hm : Meth X.K C "__contains__" f) (F : FnOk X.prog X.w X.K X.mg X.base CX0 kk f fd ps (spM K g)) (hr : Room kk X.A) (hb : Binds X.K fd ps []) (hk : behindInMarks .In o = false) (hi : CE X K W i ti mi) (ho : CE X K W o to mo) :
    CE X K W (.Compare i [.In] [o] pos) (tOI false C (spM K g) (fun _ _ _ => False) ti to) (mOI false C g mi mo) := ⟨pe_cmp (pc_OI hi.p ho.p hm F hr hb (fun _ _ _ _ _ _ _ h => h.elim)) hk, ev_OI hi.v ho.v⟩
theorem c_onot (hm : Meth X.K C "__contains__" f) (F : FnOk X.prog X.w X.K X.mg X.base CX0 kk f fd ps (spM K g)) (hr : Room kk X.A) (hb : Binds X.K fd ps []) (hk : behindInMarks .NotIn o = false) (hi : CE X K W i ti mi) (ho : CE X K W o to mo) :
    CE X K W (.Compare i [.NotIn] [o] pos) (tOI true C (spM K g) (fun _ _ _ => False) ti to) (mOI true C g mi mo) := ⟨pe_cmp (pc_ON hi.p ho.p hm F hr hb (fun _ _ _ _ _ _ _ h => h.elim)) hk, ev_OI hi.v ho.v⟩
theorem t_oin (hm : Meth X.K C "__contains__" f) (F : FnOk X.prog X.w X.K X.mg X.base CX0 kk f fd ps (spM K g)) (hr : Room kk X.A) (hb : Binds X.K fd ps []) (hk : behindInMarks .In o = false) (hi : CE X K W i ti mi) (ho : CE X K W o to mo) :
    CT X K W (.Compare i [.In] [o] pos) (tB (tOI false C (spM K g) (fun _ _ _ => False) ti to)) (mTr blD (mOI false C g mi mo)) := ⟨pt_cmp (pc_OI hi.p ho.p hm F hr hb (fun _ _ _ _ _ _ _ h => h.elim)) hk, et_B (ev_OI hi.v ho.v)⟩
theorem t_onot (hm : Meth X.K C "__contains__" f) (F : FnOk X.prog X.w X.K X.mg X.base CX0 kk f fd ps (spM K g)) (hr : Room kk X.A) (hb : Binds X.K fd ps []) (hk : behindInMarks .NotIn o = false) (hi : CE X K W i ti mi) (ho : CE X K W o to mo) :
    CT X K W (.Compare i [.NotIn] [o] pos) (tB (tOI true C (spM K g) (fun _ _ _ => False) ti to)) (mTr blD (mOI true C g mi mo)) := ⟨pt_cmp (pc_ON hi.p ho.p hm F hr hb (fun _ _ _ _ _ _ _ h => h.elim)) hk, et_B (ev_OI hi.v ho.v)⟩
end
end Cz

/-! # DaD -/
namespace Cz
open L2 PyProof.Rows PySem.Spec PySem
open PySem.W (dataLt dataLe alike EachIs)
variable {K : PySem.W.Frag}

/-! ## to sort rows of tuples, to compare tuples -/
def isTup1 : PyData → Bool
  | .tuple (_ :: _) => true
  | _ => false
def sortOk (ps : List PyData) : Bool := ps.all (fun p => isTup1 p && decide (p.depth ≤ 60) && ps.all fun q => alike p q) && decide (ps.length ≤ 100000)
def pyD (d : D) : PyData := (toPy d).getD .none
def leG (a b : D) : Bool := !dataLt (pyD b) (pyD a)
def sortG (d : D) : Option Rv := (lstD d).bind fun l => (toPys l).bind fun ps => if sortOk ps = true then some (.o (.lst (l.mergeSort leG))) else none
def rSortG (K : PySem.W.Frag) : List V → Hp → VK → Prop := fun vs H Q => ∃ (a : Addr) (bs : List (V × PyData)), vs = [.ref a] ∧ SqL K H a (bs.map (·.1)) ∧ (∀ b ∈ bs, Dp K H b.1 b.2) ∧ sortOk (bs.map (·.2)) = true ∧
  ∀ p, H p = none → Q (.ref p) (upd H p (.lst ((bs.mergeSort (dataLe false (·.2))).map (·.1))))
theorem each_v {bs : List (V × PyData)} : ∀ {its : List Value}, Vals (bs.map (·.1)) its → EachIs (fun u (b : V × PyData) => RelV b.1 u) its bs := by
  induction bs with
  | nil => intro its h; cases h; exact .nil
  | cons b bs ih => intro its h; cases h with | cons h1 h2 => exact .cons h1 (ih h2)
theorem v_each {bs : List (V × PyData)} {its : List Value} (h : EachIs (fun u (b : V × PyData) => RelV b.1 u) its bs) : Vals (bs.map (·.1)) its := by
  induction h with
  | nil => exact .nil
  | cons h1 _ ih => exact .cons h1 ih
theorem each_rd {X : Cx} {pins : List (Addr × Obj)} {σ : L2.St} {H : Hp} {s : Shared} (I : Inv X pins σ H s) {bs : List (V × PyData)} {its : List Value} (h : EachIs (fun u (b : V × PyData) => RelV b.1 u) its bs) :
    (∀ b ∈ bs, Dp X.K H b.1 b.2) → EachIs (fun u (b : V × PyData) => ∃ as, Reads s.heap u b.2 as) its bs := by
  induction h with
  | nil => exact fun _ => .nil
  | @cons u b us bs h1 _ ih => exact fun hd => .cons (Dp.reads I b.2 b.1 u (hd b List.mem_cons_self) h1) (ih fun c hc => hd c (List.mem_cons_of_mem _ hc))
theorem all_of {ps : List PyData} (h : sortOk ps = true) : (∀ p ∈ ps, isTup1 p = true ∧ p.depth ≤ 60 ∧ ∀ q ∈ ps, alike p q = true) ∧ ps.length ≤ 100000 := by
  unfold sortOk at h
  rw [Bool.and_eq_true, List.all_eq_true, decide_eq_true_eq] at h
  refine ⟨fun p hp => ?_, h.2⟩
  have z := h.1 p hp
  rw [Bool.and_eq_true, Bool.and_eq_true, decide_eq_true_eq, List.all_eq_true] at z
  exact ⟨z.1.1, z.1.2, z.2⟩
theorem cr_sortG {X : Cx} (hu : X.A.units + 65 < cLine) : CallR X (.builtin "sorted") (rSortG X.K) := by
  (intro pins s σ H vs us Q I r h)
  obtain ⟨a, bs, rfl, hs, hd, ok, q⟩ := h
  (obtain ⟨its, rv, hl, hz⟩ := I.list hs)
  rw [Vals.ref1 r]
  obtain ⟨al, le⟩ := all_of ok
  rw [List.length_map] at le
  have e := each_v rv
  refine PySem.W.sorted_data (R := fun u (b : V × PyData) => RelV b.1 u) (enc := fun b => b.2) (bs := bs) hl.isList e (each_rd I e hd) ?_ ?_ (Nat.le_trans le (by decide)) (fun b hb => ?_) fun out ho eo => ?_
  · intro d hd' d' hd''
    exact (al d hd').2.2 d' hd''
  · refine .inl fun d hd' => ?_
    have z := (al d hd').1
    cases d with
    | tuple l =>
      cases l with
      | nil => cases z
      | cons x l => exact ⟨x, l, rfl⟩
    | _ => cases z
  · have z := (al b.2 (List.mem_map_of_mem hb)).2.1
    omega
  · obtain ⟨ep, he'⟩ := PyProof.Rows.sortedAll_at s.heap its out.toArray
    have hlen : ((bs.mergeSort (dataLe false fun b => b.2)).map (·.1)).length ≤ sizeLine := by
      rw [List.length_map, List.length_mergeSort]
      exact Nat.le_trans le (by decide)
    exact ⟨.ref _, upd H (s.heap.objs.size + 1) (.lst ((bs.mergeSort (dataLe false fun b => b.2)).map (·.1))), I.laid (t' := s.toks) (fun _ _ => PyProof.Rows.sortedAll_old) (Nat.le_succ _) ⟨hlen, out, ep, v_each eo, he'⟩, rfl, q _ (I.hok.fresh (Nat.le_succ _))⟩
theorem toPys_all : ∀ {l : List D} {ps : List PyData}, toPys l = some ps → l.map pyD = ps
  | [], ps, h => by
    simp only [toPys] at h
    cases h
    rfl
  | d :: l, ps, h => by
    simp only [toPys, Option.bind_eq_some_iff, Option.map_eq_some_iff] at h
    obtain ⟨p, e1, qs, e2, rfl⟩ := h
    rw [List.map_cons, toPys_all e2]
    unfold pyD
    rw [e1]
    rfl
theorem rp_bs {F H : Hp} (s : Sub F H) : ∀ {l : List D} {xs : List V} {ps : List PyData}, RpL K F l xs → toPys l = some ps → ∃ ts : List (D × V × PyData), ts.map (·.1) = l ∧ ts.map (fun t => t.2.1) = xs ∧ ts.map (fun t => t.2.2) = ps ∧ ∀ t ∈ ts, Rp K F t.1 t.2.1 ∧ pyD t.1 = t.2.2 ∧ Dp K H t.2.1 t.2.2
  | _, _, ps, .nil, e => by
    simp only [toPys] at e
    cases e
    exact ⟨[], rfl, rfl, rfl, fun t h => by cases h⟩
  | _, _, ps, .cons (d := d) (v := v) h r, e => by
    simp only [toPys, Option.bind_eq_some_iff, Option.map_eq_some_iff] at e
    obtain ⟨p, e1, qs, e2, rfl⟩ := e
    obtain ⟨ts, t1, t2, t3, t4⟩ := rp_bs s r e2
    refine ⟨(d, v, p) :: ts, by rw [List.map_cons, t1], by rw [List.map_cons, t2], by rw [List.map_cons, t3], fun t ht => ?_⟩
    rcases List.mem_cons.mp ht with z | z
    · subst z
      exact ⟨h, by (show (toPy d).getD .none = p); rw [e1]; rfl, dp_of s h e1⟩
    · exact t4 t z
theorem rpl_map {F : Hp} : ∀ {ts : List (D × V × PyData)}, (∀ t ∈ ts, Rp K F t.1 t.2.1) → RpL K F (ts.map (·.1)) (ts.map fun t => t.2.1)
  | [], _ => .nil
  | t :: ts, h => .cons (h t List.mem_cons_self) (rpl_map fun u hu => h u (List.mem_cons_of_mem _ hu))
theorem c1_sortG : Op1 K (fun x H Q => rSortG K [x] H Q) sortG := by
  intro F H x dx Q s hx ho
  unfold sortG at ho
  cases e : lstD dx with
  | none => rw [e] at ho; exact ho.elim
  | some l =>
    rw [e, Option.bind_some] at ho
    obtain ⟨a, xs, rfl, h, r⟩ := lst_ok s hx e
    cases e2 : toPys l with
    | none => rw [e2] at ho; exact ho.elim
    | some ps =>
      rw [e2, Option.bind_some] at ho
      by_cases c : sortOk ps = true
      · rw [if_pos c] at ho
        obtain ⟨ts, t1, t2, t3, t4⟩ := rp_bs s r e2
        refine ⟨a, ts.map (·.2), rfl, ?_, fun b hb => ?_, ?_, fun p hp => ?_⟩
        · rw [List.map_map]
          have z : ts.map ((fun b : V × PyData => b.1) ∘ fun t => t.2) = xs := t2
          rw [z]
          exact h
        · obtain ⟨t, ht, rfl⟩ := List.mem_map.mp hb
          exact (t4 t ht).2.2
        · rw [List.map_map]
          have z : ts.map ((fun b : V × PyData => b.2) ∘ fun t => t.2) = ps := t3
          rw [z]
          exact c
        · have m1 : l.mergeSort leG = (ts.mergeSort fun t u => leG t.1 u.1).map (·.1) := by
            rw [← t1]
            exact (List.map_mergeSort (r := fun t u : D × V × PyData => leG t.1 u.1) (s := leG) (f := fun t => t.1) (fun a _ b _ => rfl)).symm
          have m2 : ((ts.map (·.2)).mergeSort (dataLe false fun b => b.2)).map (·.1) = (ts.mergeSort fun t u => leG t.1 u.1).map fun t => t.2.1 := by
            have z : ((ts.mergeSort fun t u => leG t.1 u.1).map (·.2)) = (ts.map (·.2)).mergeSort (dataLe false fun b => b.2) := by
              refine List.map_mergeSort (fun t ht u hu => ?_)
              rw [PySem.W.dataLe_eq]
              show (!dataLt (pyD u.1) (pyD t.1)) = cond false _ _
              rw [(t4 t ht).2.1, (t4 u hu).2.1]
              rfl
            rw [← z, List.map_map]
            rfl
          rw [m2]
          rw [m1] at ho
          exact outL s ho (rpl_map fun t ht => (t4 t ((List.mergeSort_perm _ _).mem_iff.mp ht)).1) p hp
      · rw [if_neg c] at ho
        exact ho.elim
/-- g: the order of data -/
def ordB (g : PyData → PyData → Bool) (x y : D) : Option Rv := (toPy x).bind fun p => (toPy y).bind fun q => if (isTup1 p && alike p q && decide (p.depth ≤ 60)) = true then some (.d (.bl (g p q))) else none
def rOrd (K : PySem.W.Frag) (g : PyData → PyData → Bool) : R2 := fun x y H Q => ∃ p q, Dp K H x p ∧ Dp K H y q ∧ isTup1 p = true ∧ alike p q = true ∧ p.depth ≤ 60 ∧ Q (.bl (g p q)) H
theorem o2_ord {g : PyData → PyData → Bool} : Op2 K (rOrd K g) (ordB g) := by
  intro F H x y dx dy Q s hx hy ho
  unfold ordB at ho
  cases e1 : toPy dx with
  | none => rw [e1] at ho; exact ho.elim
  | some p =>
    cases e2 : toPy dy with
    | none => rw [e1, e2] at ho; exact ho.elim
    | some q =>
      rw [e1, e2, Option.bind_some, Option.bind_some] at ho
      by_cases c : (isTup1 p && alike p q && decide (p.depth ≤ 60)) = true
      · rw [if_pos c] at ho
        rw [Bool.and_eq_true, Bool.and_eq_true, decide_eq_true_eq] at c
        exact ⟨p, q, dpp_of s hx e1, dpp_of s hy e2, c.1.1, c.1.2, c.2, outD s ho (.bl _)⟩
      · rw [if_neg c] at ho
        exact ho.elim
section
variable {X : Cx}
abbrev oLt : PyData → PyData → Bool := dataLt
abbrev oGt (p q : PyData) : Bool := dataLt q p
abbrev oLe (p q : PyData) : Bool := !dataLt q p
abbrev oGe (p q : PyData) : Bool := !dataLt p q
theorem op_ord {op : CmpOp} {g : PyData → PyData → Bool} (hc : ∀ v u, compareOp op v u = richCompare op v u) (hu : X.A.units + 64 < cLine)
    (hg : ∀ (p q : PyData) (A : Around) (s : Shared) (v u : Value) (as bs : List Addr), Reads s.heap v p as → Reads s.heap u q bs → alike p q = true → p ≠ .none → A.units + min p.depth q.depth < cLine → ∀ (prog : Program) (w : World) (E : Value → Shared → Prop) (Q : Value → Shared → Prop), Q (.bool (g p q)) s → wpAny (model prog w) A (richCompare op v u) Q E s) :
    OpR X (compareOp op) (rOrd X.K g) := by
  (intro pins s σ H x y v u Q I rx ry h)
  obtain ⟨p, q, d1, d2, tp, al, dp, hq⟩ := h
  obtain ⟨as, r1⟩ := Dp.reads I p x v d1 rx
  obtain ⟨bs, r2⟩ := Dp.reads I q y u d2 ry
  rw [hc]
  exact hg p q X.A s v u as bs r1 r2 al (fun z => by rw [z] at tp; cases tp) (by omega) X.prog X.w _ _ ⟨.bl (g p q), H, I, rfl, hq⟩
theorem op_ltO (hu : X.A.units + 64 < cLine) : OpR X (compareOp .Lt) (rOrd X.K oLt) := op_ord (fun _ _ => rfl) hu PySem.W.rcLt_alike
theorem op_leO (hu : X.A.units + 64 < cLine) : OpR X (compareOp .LtE) (rOrd X.K oLe) := op_ord (fun _ _ => rfl) hu PySem.W.rcLe_alike
theorem op_gtO (hu : X.A.units + 64 < cLine) : OpR X (compareOp .Gt) (rOrd X.K oGt) := op_ord (fun _ _ => rfl) hu PySem.W.rcGt_alike
theorem op_geO (hu : X.A.units + 64 < cLine) : OpR X (compareOp .GtE) (rOrd X.K oGe) := op_ord (fun _ _ => rfl) hu PySem.W.rcGe_alike
variable {W : WX} {k : Nat} {a b e : Expr} {pos p1 : Pos} {ta tb te : TE} {ma mb me : M Rv}
theorem c_ltO (hr : Room k X.A) (hK : X.K = K := by rfl) (ha : CE X K W a ta ma) (hb : CE X K W b tb mb) : CE X K W (.Compare a [.Lt] [b] pos) (tOp (rOrd K oLt) ta tb) (mOp (ordB oLt) ma mb) := by subst hK; exact c_cmp (op_ltO (hu64 hr)) o2_ord (nomark _) ha hb
theorem c_leO (hr : Room k X.A) (hK : X.K = K := by rfl) (ha : CE X K W a ta ma) (hb : CE X K W b tb mb) : CE X K W (.Compare a [.LtE] [b] pos) (tOp (rOrd K oLe) ta tb) (mOp (ordB oLe) ma mb) := by subst hK; exact c_cmp (op_leO (hu64 hr)) o2_ord (nomark _) ha hb
theorem c_gtO (hr : Room k X.A) (hK : X.K = K := by rfl) (ha : CE X K W a ta ma) (hb : CE X K W b tb mb) : CE X K W (.Compare a [.Gt] [b] pos) (tOp (rOrd K oGt) ta tb) (mOp (ordB oGt) ma mb) := by subst hK; exact c_cmp (op_gtO (hu64 hr)) o2_ord (nomark _) ha hb
theorem c_geO (hr : Room k X.A) (hK : X.K = K := by rfl) (ha : CE X K W a ta ma) (hb : CE X K W b tb mb) : CE X K W (.Compare a [.GtE] [b] pos) (tOp (rOrd K oGe) ta tb) (mOp (ordB oGe) ma mb) := by subst hK; exact c_cmp (op_geO (hu64 hr)) o2_ord (nomark _) ha hb
theorem t_ltO (hr : Room k X.A) (hK : X.K = K := by rfl) (ha : CE X K W a ta ma) (hb : CE X K W b tb mb) : CT X K W (.Compare a [.Lt] [b] pos) (tTest (tOp (rOrd K oLt) ta tb)) (mTr blD (mOp (ordB oLt) ma mb)) := by subst hK; exact t_cmp (op_ltO (hu64 hr)) o2_ord (nomark _) ha hb
theorem t_leO (hr : Room k X.A) (hK : X.K = K := by rfl) (ha : CE X K W a ta ma) (hb : CE X K W b tb mb) : CT X K W (.Compare a [.LtE] [b] pos) (tTest (tOp (rOrd K oLe) ta tb)) (mTr blD (mOp (ordB oLe) ma mb)) := by subst hK; exact t_cmp (op_leO (hu64 hr)) o2_ord (nomark _) ha hb
theorem t_gtO (hr : Room k X.A) (hK : X.K = K := by rfl) (ha : CE X K W a ta ma) (hb : CE X K W b tb mb) : CT X K W (.Compare a [.Gt] [b] pos) (tTest (tOp (rOrd K oGt) ta tb)) (mTr blD (mOp (ordB oGt) ma mb)) := by subst hK; exact t_cmp (op_gtO (hu64 hr)) o2_ord (nomark _) ha hb
theorem t_geO (hr : Room k X.A) (hK : X.K = K := by rfl) (ha : CE X K W a ta ma) (hb : CE X K W b tb mb) : CT X K W (.Compare a [.GtE] [b] pos) (tTest (tOp (rOrd K oGe) ta tb)) (mTr blD (mOp (ordB oGe) ma mb)) := by subst hK; exact t_cmp (op_geO (hu64 hr)) o2_ord (nomark _) ha hb
theorem c_sortG (hr : Room k X.A) (hg : Gl X "sorted") (hm : X.mg "sorted" = none) (hK : X.K = K := by rfl) (ha : CE X K W e te me) (he : starEach (e :: []) X.env = (false, eval e X.env) :: starEach [] X.env := by rfl) (hpl : (backTo pos (starEach [] X.env)).any (·.1) = false := by rfl) :
    CE X K W (.Call (.Name "sorted" p1) [e] [] pos) (tCB (rSortG K) (tCons te tNil)) (mCB1 sortG me) := by subst hK; exact c_cb1 (cr_sortG (hu65 hr)) c1_sortG hg hm boot_sorted ha (by decide) (by decide) he hpl
end
end Cz

/-! # DaE -/
namespace Cz
open L2 PyProof.Rows PySem.Spec PySem
variable {K : PySem.W.Frag}

/-! ## a tuple or a list, unpacked -/
def gAny (K : PySem.W.Frag) (n : Nat) (t : TGs) : TG := fun v σ H Q => gTup K n t v σ H Q ∨ gUnl K n t v σ H Q
def mgAny (n : Nat) (r : MGs) : MG := fun d s => (seqD d).bind fun ds => if ds.length = n then r ds s else none
theorem eg_any {n : Nat} {t : TGs} {r : MGs} {tv : List Nat} (h : EvGs K t r tv) : EvG K (gAny K n t) (mgAny n r) tv := by
  intro F0 H0 σ0 s0 F H σ s v d s' Q g hd e q
  unfold mgAny at e
  rw [Option.bind_eq_some_iff] at e
  obtain ⟨ds, e1, e2⟩ := e
  obtain ⟨a, xs, rfl, hl, hs⟩ := RpL.toP g.rs.sub hd e1
  split at e2
  · rename_i hn
    have n' : xs.length = n := by (rw [← hl.length]; exact hn)
    have z := h F0 H0 σ0 s0 F H σ s xs ds s' Q g hl e2 q
    rcases hs with hs | hs
    · exact .inr ⟨a, xs, rfl, hs, n', z⟩
    · exact .inl ⟨a, xs, rfl, hs, n', z⟩
  · cases e2
section
variable {X : Cx} {es : List Expr} {pos : Pos}
theorem g_any {kk n : Nat} {gs : TGs} {fs : MGs} {tv : List Nat} (hc : X.calm = true) (hK : X.K = K := by rfl) (h : CGs X K es gs fs tv) (hn : (assignEach es X.env).length = n := by rfl) (hst : (assignEach es X.env).findIdx? (·.1) = none := by rfl) : CG X K (.Tuple es kk pos) (gAny K n gs) (mgAny n fs) tv := by
  subst hK
  exact ⟨⟨fun ps s σ H v u Q I r hw => hw.elim (fun z => (pg_tup hc h.p hn hst).run ps s σ H v u Q I r z) fun z => (pg_unl hc h.p hn hst).run ps s σ H v u Q I r z⟩, eg_any h.v⟩
end

/-! ## a dict that is only read: lent as data, for the time of one call -/
mutual
def noD : D → Bool
  | .tup l => noDs l
  | .tuk l => noDs l
  | .lst l => noDs l
  | .rol l => noDs l
  | .dk _ => false
  | .dt _ => false
  | .obj _ _ => false
  | _ => true
def noDs : List D → Bool
  | [] => true
  | d :: ds => noD d && noDs ds
end
/-- the heap of what is frozen without the object at p -/
def outF (F : Hp) (p : Addr) : Hp := fun a => if a = p then none else F a
theorem outF_ne {F : Hp} {p a : Addr} (h : a ≠ p) : outF F p a = F a := if_neg h
def NoSq (F : Hp) (p : Addr) : Prop := ∀ xs, ¬ Rd F p (.tup xs) ∧ ¬ Rd F p (.lst xs)
section
variable {F : Hp} {p : Addr}
theorem outF_rd {a : Addr} {u : HO} (n : a ≠ p) (h : Rd F a u) : Rd (outF F p) a u := by
  unfold Rd
  rw [outF_ne n]
  exact h
theorem outF_t {a : Addr} {xs : List V} (h : NoSq F p) (r : SqT K F a xs) : SqT K (outF F p) a xs := by
  rcases r with r | r
  · refine .inl (outF_rd (fun z => ?_) r)
    rw [z] at r
    exact (h xs).1 r
  · exact .inr r
theorem outF_l {a : Addr} {xs : List V} (h : NoSq F p) (r : SqL K F a xs) : SqL K (outF F p) a xs := by
  rcases r with r | r
  · refine .inl (outF_rd (fun z => ?_) r)
    rw [z] at r
    exact (h xs).2 r
  · exact .inr r
mutual
theorem Rp.outF (h : NoSq F p) : ∀ {d : D} {v : V}, Rp K F d v → noD d = true → Rp K (outF F p) d v
  | _, _, .non, _ => .non
  | _, _, .bl b, _ => .bl b
  | _, _, .int i, _ => .int i
  | _, _, .str x, _ => .str x
  | _, _, .ref a, _ => .ref a
  | _, _, .ty t, _ => .ty t
  | _, _, .tup (a := a) (xs := xs) e r, q => by
    have n : a ≠ p := fun z => (h xs).1 (.inl (by rw [← z]; exact e))
    exact .tup (by rw [outF_ne n]; exact e) (r.outF h (by simpa only [noD] using q))
  | _, _, .tuk e r, q => .tuk (outF_t h e) (r.outF h (by simpa only [noD] using q))
  | _, _, .lst (a := a) (xs := xs) e r, q => by
    have n : a ≠ p := fun z => (h xs).2 (.inl (by rw [← z]; exact e))
    exact .lst (by rw [outF_ne n]; exact e) (r.outF h (by simpa only [noD] using q))
  | _, _, .rol e r, q => .rol (outF_l h e) (r.outF h (by simpa only [noD] using q))
  | _, _, .dk _ _, q => by simp only [noD, reduceCtorEq] at q
  | _, _, .dt _ _, q => by simp only [noD, reduceCtorEq] at q
  | _, _, .obj _ _, q => by simp only [noD, reduceCtorEq] at q
theorem RpL.outF (h : NoSq F p) : ∀ {d : List D} {v : List V}, RpL K F d v → noDs d = true → RpL K (outF F p) d v
  | _, _, .nil, _ => .nil
  | _, _, .cons a r, q => by
    rw [noDs, Bool.and_eq_true] at q
    exact .cons (a.outF h q.1) (r.outF h q.2)
end
end
def isDo : OD → Bool
  | .dk _ _ => true
  | .dt _ _ => true
  | _ => false
theorem noSq_of {F F' : Hp} {p : Addr} {o : OD} {ho : HO} (r : RpO K F o ho) (h : isDo o = true) (e : F' p = some ho) : NoSq F' p := by
  intro xs
  constructor <;> rintro (z | ⟨_, z⟩) <;> rw [e] at z <;> cases z <;> cases r <;> cases h
/-- the call of a def that gets the dict of the i-th name as data; what it gives has no dict in it -/
def mSnap (i : Nat) (f : MF) : M Rv := fun s => opt (ownAt s i) fun p => if isDo p.2 = true then match f [.fz p.2.fz] with
  | .ok r s2 => opt (svs s2) fun _ => match r with
    | .d d => if noD d = true then .ok (.d d) s else .no
    | .o (.lst l) => if noDs l = true then .ok (.o (.lst l)) s else .no
    | _ => .no
  | _ => .no else .no
theorem ev_snap {W : WX} {i : Nat} {f : MF} : EvX K W (tCall (spM K f) [] (fun _ _ _ => False) (tCons (tVar i) tNil)) (mSnap i f) := by
  intro F H σ s Q rs w
  unfold mSnap at w
  obtain ⟨⟨sv, o⟩, e0, w1⟩ := opt_wn w
  obtain ⟨_, _, p, ho, hσ, fp, hp, ro⟩ := ownAt_ok rs e0
  obtain ⟨dn, w2⟩ := if_inv (Z := fun r => Wn K W Q F H σ s r) (fun z => z) w1
  refine ⟨.ref p, hσ, ?_⟩
  show spM K f [V.ref p] H Q _
  have s1 : Sub F (upd F p ho) := fun a u q => by
    rw [upd_ne (ne_of_none q fp)]
    exact q
  have s2 : Sub (upd F p ho) H := fun a u q => by
    by_cases z : a = p
    · rw [z, upd_same] at q
      rw [z, hp]
      exact q
    · rw [upd_ne z] at q
      exact rs.sub _ _ q
  have noO : ∀ a, ¬ Ow (([V.ref p] : List V).map some) ([SV.fz o.fz].map some) a := by
    rintro a ⟨j, sv, u, h1, h2, _⟩
    cases j with
    | zero => cases h1; cases h2
    | succ j => cases h1
  refine ⟨upd F p ho, [.fz o.fz], ⟨s2, rfl, fun j d q => ?_, fun j sv u h1 h2 => ?_, fun j k si sj oi oj x h1 h2 => ?_⟩, ?_⟩
  · cases j with
    | zero =>
      cases q
      exact ⟨.ref p, rfl, (ro.mono s1).rp upd_same⟩
    | succ j => cases q
  · cases j with
    | zero => cases h1; cases h2
    | succ j => cases h1
  · cases j with
    | zero => cases h1; cases h2
    | succ j => cases h1
  have key : ∀ {F2 H2 : Hp} {t : SS}, Go K (upd F p ho) H (([V.ref p] : List V).map some) ([SV.fz o.fz].map some) F2 H2 (([V.ref p] : List V).map some) t → Go K F H σ s (outF F2 p) H2 σ s ∧ NoSq F2 p := fun {F2 H2 t} g => by
    have e2 : F2 p = some ho := g.fr _ _ upd_same
    have fs : Sub F (outF F2 p) := fun a u q => by
      have n : a ≠ p := fun z => by
        rw [z, fp] at q
        cases q
      rw [outF_ne n]
      exact g.fr _ _ (s1 _ _ q)
    refine ⟨⟨⟨fun a u q => ?_, rs.len, fun j d q => ?_, fun j sv u h1 h2 => ?_, rs.ne⟩, fs, fun a u q _ => g.kp a u q (noO a), fun a q => ?_, fun a q => .inl q, fun j u q => ⟨rfl, u, q⟩, g.dm⟩, noSq_of ro dn e2⟩
    · by_cases z : a = p
      · unfold outF at q
        rw [if_pos z] at q
        cases q
      · rw [outF_ne z] at q
        exact g.rs.sub _ _ q
    · obtain ⟨v, h1, h2⟩ := rs.fz j d q
      exact ⟨v, h1, h2.mono fs⟩
    · obtain ⟨q, hq, a1, a2, a3, a4⟩ := rs.ow j sv u h1 h2
      refine ⟨q, hq, a1, ?_, g.kp q hq a3 (noO q), a4.mono fs⟩
      by_cases z : q = p
      · unfold outF
        rw [if_pos z]
      · rw [outF_ne z]
        cases e : F2 q with
        | none => rfl
        | some x =>
          rcases g.nw q (by rw [e]; exact fun z => nomatch z) with y | y | y | y
          · rw [upd_ne z, a2] at y
            exact absurd rfl y
          · rw [a3] at y; cases y
          · exact absurd y (noO q)
          · exact absurd y (a4.notTup a3)
    · by_cases z : a = p
      · unfold outF at q
        rw [if_pos z] at q
        exact absurd rfl q
      · rw [outF_ne z] at q
        rcases g.nw a q with y | y | y | y
        · rw [upd_ne z] at y
          exact .inl y
        · exact .inr (.inl y)
        · exact absurd y (noO a)
        · exact .inr (.inr (.inr y))
  cases e : f [.fz o.fz] with
  | no => rw [e] at w2; exact w2.elim
  | ex c l t => rw [e] at w2; exact w2.elim
  | ok r t =>
    rw [e] at w2
    obtain ⟨as', e1, w3⟩ := opt_wn w2
    refine ⟨as', svs_eq e1, fun v F' H' g1 h1 _ => ?_⟩
    obtain ⟨g2, nq⟩ := key g1
    cases r with
    | b j => exact w3.elim
    | d d =>
      obtain ⟨nd, w4⟩ := if_inv (Z := fun r => Wn K W Q F H σ s r) (fun z => z) w3
      exact w4 v _ H' g2 (Rp.outF nq h1 nd)
    | o u =>
      cases u with
      | lst l =>
        obtain ⟨nd, w4⟩ := if_inv (Z := fun r => Wn K W Q F H σ s r) (fun z => z) w3
        obtain ⟨q, hq, rfl, a1, a2, a3, a4, _⟩ := h1
        refine w4 _ _ H' g2 ⟨q, hq, rfl, ?_, a2, ?_, a4, fun z => ?_⟩
        · by_cases z : q = p
          · unfold outF
            rw [if_pos z]
          · rw [outF_ne z]
            exact a1
        · cases a3 with | lst r => exact .lst (r.outF nq nd)
        · obtain ⟨_, y, z⟩ := rs.owF z
          rw [a4] at z
          cases z
      | _ => exact w3.elim
section
variable {X : Cx} {W : WX} {kk : Nat} {x y : Str} {g : Addr} {fd : FuncData} {ps : List Str} {f : MF} {pos p1 p2 : Pos}
theorem c_snap (i : Nat) (F : FnOk X.prog X.w X.K X.mg X.base CX0 kk g fd ps (spM K f)) (hr : Room kk X.A) (hg : Gl X x) (hm : X.mg x = some (.ref g)) (hk : PySem.W.keepIn X.K (.ref g) = true) (hb : Binds X.K fd ps [])
    (hN : X.N[i]? = some y := by rfl) (hv : Vis X.env.scope y := by first | exact Or.inl rfl | exact Or.inr (Or.inl rfl) | exact Or.inr (Or.inr rfl)) (hd : (y == ("__debug__" : Str)) = false := by decide)
    (hcd : (y == ("__classdict__" : Str)) = false := by decide) (hdb : (x == ("__debug__" : Str)) = false := by decide) (he : starEach [Expr.Name y p2] X.env = (false, eval (Expr.Name y p2) X.env) :: starEach [] X.env := by rfl) (hpl : (backTo pos (starEach [] X.env)).any (·.1) = false := by rfl) :
    CE X K W (.Call (.Name x p1) [.Name y p2] [] pos) (tCall (spM K f) [] (fun _ _ _ => False) (tCons (tVar i) tNil)) (mSnap i f) :=
  ⟨pe_call F hr hg hm hk hb .nil (fun _ _ _ _ _ _ _ h => h.elim) (pa_cons (pe_var hN hv hd hcd) pa_nil he) hdb he hpl, ev_snap⟩
end
end Cz

/-! # DaI -/
namespace Cz
open L2 PyProof.Rows PySem.Spec PySem
set_option maxHeartbeats 1000007 in
/-- an enumerate object over whatever begins an iterator -/
theorem meets_en1 {v : Value} {ob : Obj} {Hq : Heap → Prop} (B : Begins v ob Hq) : Meets (Builtin.«enumerate.__new__» ⟨[.type "enumerate", v], []⟩) (fun _ R s => Hq s.heap ∧
    R (.ok (.ret (.ref (s.heap.push ob).objs.size))) { s with heap := (s.heap.push ob).push { cls := .type "enumerate", data := .fields #[.none, .bool false, .ref s.heap.objs.size, rawInt 0, .none, .none] } }) :=
  .of_wp fun prog w A R s hh => by
    obtain ⟨hp, gg, dd, tk, os⟩ := s
    obtain ⟨hq, hh⟩ := hh
    have sub := sub_enumerate
    have it1 : ∀ {A' : Around} {E Q : Value → Shared → Prop}, Q (.ref hp.objs.size) ⟨hp.push ob, gg, dd, tk, os⟩ → wpAny (model prog w) A' (pyIter v) Q E ⟨hp, gg, dd, tk, os⟩ := fun q => B.iter prog w _ _ ⟨hp, gg, dd, tk, os⟩ _ hq q
    wp_walk using it1
    (refine wpAny_stack_any fun st => wpAny_pure ?_)
    split
    · rename_i cc _ _ _ _ _
      cases (cc == Value.type "enumerate")
      · wp_walk using it1
        exact ⟨_, rfl, hh⟩
      · wp_walk using it1
        exact ⟨_, rfl, hh⟩
    · wp_walk using it1
      exact ⟨_, rfl, hh⟩
theorem call_en1 {prog : Program} {w : World} {A : Around} {E : Value → Shared → Prop} {s : Shared} {v : Value} {ob : Obj} {Hq : Heap → Prop} {Q : Value → Shared → Prop} (B : Begins v ob Hq) (hq : Hq s.heap)
    (h : ∀ h', IsEnum h' (s.heap.objs.size + 1) s.heap.objs.size 0 .none → h'.get? s.heap.objs.size = some ob → (∀ b o, s.heap.get? b = some o → h'.get? b = some o) → Q (.ref (s.heap.objs.size + 1)) { s with heap := h' }) :
    wpAny (model prog w) A (call (.type "enumerate") [v]) Q E s := by
  refine callType_new F.called_enumerate (by decide) (F.typeCall_enumerate_1 _) (F.newCall_enumerate_1 _) (fun obj => F.args_object_init_2 obj _) F.entry_enumerate_new (meets_en1 B) ⟨hq, ?_⟩
  have sz : (s.heap.push ob).objs.size = s.heap.objs.size + 1 := Heap.size_push ..
  show _ ∧ _
  rw [sz]
  have en : IsEnum ((s.heap.push ob).push { cls := .type "enumerate", data := .fields #[.none, .bool false, .ref s.heap.objs.size, rawInt 0, .none, .none] }) (s.heap.objs.size + 1) s.heap.objs.size 0 .none := by
    have z := Heap.get?_push_size (s.heap.push ob) (o := { cls := .type "enumerate", data := .fields #[.none, .bool false, .ref s.heap.objs.size, rawInt 0, .none, .none] }) rfl
    rw [sz] at z
    exact z
  exact ⟨⟨_, en, rfl⟩, h _ en (Heap.get?_push_of_some _ (Heap.get?_push_size _ B.free)) fun b o x => Heap.get?_push_of_some _ (Heap.get?_push_of_some _ x)⟩
/-- the tuple at a, each item in a new pair -/
def ItE (K : PySem.W.Frag) (a : Addr) : It :=
  ⟨fun i H => ∃ xs x, SqT K H a xs ∧ xs[i]? = some x, fun i H v H' => ∃ T x, v = .ref T ∧ H T = none ∧ H' = upd H T (.tup [.int (i : Nat), x]) ∧ ∀ xs, SqT K H a xs → xs[i]? = some x, fun i H => ∃ xs : List V, SqT K H a xs ∧ xs.length = i⟩
theorem turn_E {P : Program} {w : World} {K : PySem.W.Frag} {elts : List Expr} {kk : Nat} {tp : Pos} (a e it : Addr) :
    Turn P w K (.Tuple elts kk tp) (ItE K a) [e, it] e (fun i h => (∃ old, IsEnum h e it ((i : Nat) : Int) old) ∧ h.IsTupleIter it a i ∧ e ≠ it ∧ it ≠ a ∧ e ≠ a) where
  mem := List.mem_cons_self
  obj := fun i h st b hb => by
    obtain ⟨⟨old, en⟩, ⟨o, ho, _, hd⟩, _⟩ := st
    have eb : b = e ∨ b = it := by simpa using hb
    rcases eb with q | q
    · rw [q]
      exact ⟨_, en, fun v z => nomatch z⟩
    · rw [q]
      exact ⟨o, ho, fun v z => by rw [hd] at z; cases z⟩
  keep := fun i h h' st k => by
    obtain ⟨⟨old, en⟩, hi, hn⟩ := st
    exact ⟨⟨old, k e (by simp) _ en⟩, hi.at fun o q => k it (by simp) o q, hn⟩
  item := by
    (intro X hP hw hK hc i pins s σ H E I hf st hg)
    subst hP hw hK
    obtain ⟨⟨old, en⟩, hi, n1, n2, n3⟩ := st
    obtain ⟨xs, x, hq, hx⟩ := hg
    obtain ⟨its, rv, pt, hz⟩ := I.tuple hq
    (obtain ⟨u, hu, ru⟩ := rv.get hx)
    have el : e < s.heap.objs.size := Heap.lt_size en
    have il : it < s.heap.objs.size := by
      obtain ⟨_, q, _⟩ := hi
      exact Heap.lt_size q
    have hlt : i < its.toArray.size := by
      have z := (List.getElem?_eq_some_iff.mp hu).1
      simpa using z
    have dr := Draws.tuple (prog := X.prog) (w := X.w) (A := X.A.in1) (I.ok.hd hc) it a (Ne.symm n2) its.toArray
    refine wpAny_pyNext_enum_itemD dr en ⟨hi, pt⟩ hlt n1 (by simp [n1, n3]) fun y h' tk py eo sn hT hsz hk => ?_
    have ey : y = u := by
      have q1 : its[i]? = some y := by simpa using py
      rw [hu] at q1
      cases q1
      rfl
    subst ey
    refine ⟨_, rfl, wpAny_letOwnedTupleGo_enum (s := { s with heap := h', toks := tk + 1 }) eo fun h2 en2 sb => ?_⟩
    have hT2 : h2.get? s.heap.objs.size = some { cls := .type "tuple", data := .seq #[.int i tk, y] } := (sb.2 _ (Nat.ne_of_gt el)).trans hT
    have new : ObjOk X.prog X.w (upd H s.heap.objs.size (.tup [.int (i : Nat), x])) h2 s.heap.objs.size (.tup [.int (i : Nat), x]) :=
      ⟨(by show 2 ≤ sizeLine; decide), [.int i tk, y], .cons ⟨_, rfl⟩ (.cons ru .nil), ⟨_, hT2, rfl, _, rfl⟩⟩
    have I1 : Inv X pins σ (upd H s.heap.objs.size (.tup [.int (i : Nat), x])) { s with heap := h2, toks := tk + 1 } :=
      I.turnedNew (ch := [e, it]) (fun b o' nb q => (sb.2 b (fun z => nb (by simp [z]))).trans (hk b o' (fun z => nb (by simp [z])) (fun z => nb (by simp [z])) q)) hf (Nat.le_refl _) new
    refine ⟨.ref s.heap.objs.size, _, I1, rfl, ⟨_, x, rfl, I.hok.fresh (Nat.le_refl _), rfl, fun ys hy => by rw [I.tuple_inj hy hq]; exact hx⟩, ⟨⟨y, ?_⟩, sn.1.at fun o q => (sb.2 it (Ne.symm n1)).trans q, n1, n2, n3⟩, fun b hb => ?_⟩
    · rw [show ((i + 1 : Nat) : Int) = (i : Int) + 1 by omega]
      exact en2
    · have bl : b < s.heap.objs.size := by
        have eb : b = e ∨ b = it := by simpa using hb
        rcases eb with q | q
        · rw [q]; exact el
        · rw [q]; exact il
      rw [upd_ne (Nat.ne_of_lt bl)]
      exact (hf b hb).1
  done := by
    (intro X hP hw hK hc i pins s σ H E I hf st hg)
    subst hP hw hK
    obtain ⟨⟨old, en⟩, hi, n1, n2, n3⟩ := st
    obtain ⟨xs, hq, hx⟩ := hg
    obtain ⟨its, rv, pt, hz⟩ := I.tuple hq
    (obtain ⟨f0, f1, f2, f3, f4, f5⟩ := hf it (by simp))
    have hl : its.toArray.size = i := by
      have z := rv.length
      simp
      omega
    have dr := Draws.tuple (prog := X.prog) (w := X.w) (A := X.A.in1) (I.ok.hd hc) it a (Ne.symm n2) its.toArray
    exact wpAny_pyNext_enum_endD dr en (by rw [hl]; exact ⟨hi, pt⟩) fun h' eb => ⟨rfl, I.turned (t' := s.toks) (fun b o hb q => eb b o hb q) f0 f1 f3 f4 f5⟩
  self := fun A i s Q E st q => by
    obtain ⟨⟨_, en⟩, _⟩ := st
    exact wpAny_pyIter_enum en q
theorem walk_E {K : PySem.W.Frag} {a : Addr} {xs : List V} : Walk (ItE K a) xs.length (fun H => SqT K H a xs) (YPair (fun i => some (.int (i : Nat))) (fun i => xs[i]?)) := by
  refine ⟨fun i _ hi q => ⟨xs, xs[i], q, by simp [hi]⟩, fun _ q => ⟨xs, q, rfl⟩, fun i H v H' _ q y => ?_⟩
  (obtain ⟨T, x, h1, h2, h3, h4⟩ := y)
  (exact ⟨T, .int (i : Nat), x, h1, h2, h3, rfl, h4 xs q⟩)
def iEnumT (K : PySem.W.Frag) (ta : TA) : TI := fun σ H R => ta σ H fun vs H1 => ∃ a xs, vs = [.ref a] ∧ ((SqL K H1 a xs ∧ R (Ite K a) H1) ∨ (SqT K H1 a xs ∧ R (ItE K a) H1))
theorem pi_enumT {X : Cx} {e : Expr} {ta : TA} {p pos tp : Pos} {elts : List Expr} {kk : Nat} (hg : Gl X "enumerate") (hm : X.mg "enumerate" = none) (ha : PA X [e] ta) (hs : starEach [e] X.env = [(false, eval e X.env)] := by rfl) :
    PI X (.Tuple elts kk tp) (.Call (.Name "enumerate" p) [e] [] pos) (iEnumT X.K ta) := by
  refine ⟨fun pins s σ H R I h => Call_ (ld_blt I hg hm boot_enumerate (PyProof.Rows.callWith_type1 (thn (ha.run pos pins s σ H _ I h) fun us s1 ⟨vs, H1, I1, r1, q1⟩ => ?_) hs rfl))⟩
  obtain ⟨a, xs, ex, q1⟩ := q1
  subst ex
  cases r1 with
  | cons r rr =>
    cases rr
    cases r
    have fin : ∀ {h' : Heap}, (∀ b o, s1.heap.get? b = some o → h'.get? b = some o) → ∀ b ∈ [s1.heap.objs.size + 1, s1.heap.objs.size], FpOk X pins H1 b := fun _ b hb => by
      have eb : b = s1.heap.objs.size + 1 ∨ b = s1.heap.objs.size := by simpa using hb
      have lb : s1.heap.objs.size ≤ b := by
        rcases eb with q | q
        · rw [q]
          exact Nat.le_add_right _ _
        · rw [q]
          exact Nat.le_refl _
      (exact I1.fpOk lb (I1.hok.fresh lb))
    rcases q1 with ⟨hq, q⟩ | ⟨hq, q⟩
    · obtain ⟨its, rv, pl, hz⟩ := I1.list hq
      refine call_enumerate_list pl.isList fun h' he hit _ hk => wpAny_pyIter_enum he ?_
      (have I2 : Inv X pins σ H1 { s1 with heap := h' } := I1.kept (t' := s1.toks) hk)
      exact ⟨s1.heap.objs.size + 1, [s1.heap.objs.size + 1, s1.heap.objs.size], _, _, H1, rfl, I2, turn_enum a (s1.heap.objs.size + 1) s1.heap.objs.size, ⟨⟨.none, he⟩, hit, Nat.succ_ne_self _⟩, fin hk, q⟩
    · obtain ⟨its, rv, pt, hz⟩ := I1.tuple hq
      have al : a < s1.heap.objs.size := by
        obtain ⟨o, ho, _⟩ := pt
        exact Heap.lt_size ho
      refine call_en1 (begins_tuple a its.toArray) pt fun h' he hit hk => wpAny_pyIter_enum he ?_
      (have I2 : Inv X pins σ H1 { s1 with heap := h' } := I1.kept (t' := s1.toks) hk)
      exact ⟨s1.heap.objs.size + 1, [s1.heap.objs.size + 1, s1.heap.objs.size], _, _, H1, rfl, I2, turn_E a (s1.heap.objs.size + 1) s1.heap.objs.size, ⟨⟨.none, he⟩, ⟨_, hit, rfl, rfl⟩, Nat.succ_ne_self _, Nat.ne_of_gt al, Nat.ne_of_gt (Nat.lt_succ_of_lt al)⟩, fin hk, q⟩
/-- enumerate of a list or a tuple -/
def enumA : List D → Option (List D)
  | [d] => (seqD d).map fun l => pairsD (nums l.length) l
  | _ => none
variable {K : PySem.W.Frag}
theorem ei_enumA {W : WX} {ta : TA} {ma : M (List Rv)} (h : EvA K W ta ma) : EvI K W (iEnumT K ta) (mRng enumA ma) := by
  intro F H σ s Q rs w
  refine h.stepI rs w fun rvs s1 vs F1 H1 g1 h1 w1 => ?_
  obtain ⟨l, el, w2⟩ := opt_wnI w1
  rw [Option.bind_eq_some_iff] at el
  obtain ⟨ds, e1, e2⟩ := el
  have hl := allD_ok h1 e1
  unfold enumA at e2
  split at e2
  · rename_i d
    rw [Option.map_eq_some_iff] at e2
    obtain ⟨l', e3, rfl⟩ := e2
    cases hl with
    | cons hd r =>
      cases r
      obtain ⟨a, xs, rfl, hr, hs⟩ := RpL.toP (fun _ _ q => q) hd e3
      have items : ∀ i Hc x Hx F2 σ2 s2, i < (pairsD (nums l'.length) l').length → YPair (fun i => some (.int (i : Nat))) (fun i => xs[i]?) i Hc x Hx → RS K F2 Hc σ2 s2 → Sub F1 F2 → ∃ F3 d, Al F2 Hc F3 Hx ∧ (pairsD (nums l'.length) l')[i]? = some d ∧ Rp K F3 d x := by
        intro i Hc x Hx F2 σ2 s2 hi y
        obtain ⟨T, u, v, h1, h2, h3, h4, h5⟩ := y
        have hi' : i < l'.length := by
          rw [enum_len] at hi
          exact hi
        refine pair_items (f := fun i => if i < l'.length then some (V.int (i : Nat)) else none) (g := fun i => xs[i]?) (n := l'.length) (enum_len l') (fun k z hz => ?_) (fun k z hz => ?_) i Hc x Hx F2 σ2 s2 hi ⟨T, u, v, h1, h2, h3, ?_, h5⟩
        · by_cases hk : k < l'.length
          · rw [if_pos hk] at hz
            cases hz
            exact ⟨_, nums_at hk, fun _ _ => .int _⟩
          · rw [if_neg hk] at hz
            cases hz
        · obtain ⟨d, a1, a2⟩ := hr.get' hz
          exact ⟨d, a1, fun F2 sb => a2.mono sb⟩
        · show (if i < l'.length then some (V.int (i : Nat)) else none) = some u
          rw [if_pos hi']
          exact h4
      have n1 : (pairsD (nums l'.length) l').length = xs.length := by rw [enum_len, hr.length]
      refine ⟨a, xs, rfl, ?_⟩
      rcases hs with hs | hs
      · exact .inl ⟨g1.rs.sub.l hs, w2 _ F1 H1 (fun H => SqL K H a xs) _ g1 (by rw [n1]; exact walk_enum) (fun F3 H3 σ3 s3 r3 sb => r3.sub.l (sb.l hs)) items⟩
      · exact .inr ⟨g1.rs.sub.t hs, w2 _ F1 H1 (fun H => SqT K H a xs) _ g1 (by rw [n1]; exact walk_E) (fun F3 H3 σ3 s3 r3 sb => r3.sub.t (sb.t hs)) items⟩
  · cases e2
theorem i_enumA {X : Cx} {W : WX} {e : Expr} {t : TA} {m : M (List Rv)} {p1 p2 pos : Pos} {elts : List Expr} {kk : Nat} (hg : Gl X "enumerate") (hm : X.mg "enumerate" = none) (hK : X.K = K := by rfl) (ha : CA X K W [e] t m) (hs : starEach [e] X.env = [(false, eval e X.env)] := by rfl) :
    CI X K W (.Tuple elts kk p2) (.Call (.Name "enumerate" p1) [e] [] pos) (iEnumT K t) (mRng enumA m) := by subst hK; exact ⟨pi_enumT hg hm ha.p hs, ei_enumA ha.v⟩
end Cz

/-! # DaJ -/
namespace Cz
open L2 PyProof.Rows PySem.Spec PySem
variable {K : PySem.W.Frag}
/-! ## t.index(x), texts -/
def findT (z : Str) : List Str → Option Nat
  | [] => none
  | y :: ys => if y = z then some 0 else (findT z ys).map (· + 1)
theorem findT_ok {z : Str} : ∀ {ys : List Str} {j : Nat}, findT z ys = some j → ys[j]? = some z ∧ ∀ m, m < j → ys[m]? ≠ some z
  | [], j, e => by cases e
  | y :: ys, j, e => by
    unfold findT at e
    split at e
    · rename_i h
      cases e
      exact ⟨by rw [h]; rfl, fun m hm => absurd hm (Nat.not_lt_zero _)⟩
    · rename_i h
      rw [Option.map_eq_some_iff] at e
      obtain ⟨i, e1, rfl⟩ := e
      obtain ⟨a1, a2⟩ := findT_ok e1
      refine ⟨a1, fun m hm q => ?_⟩
      cases m with
      | zero => exact h (Option.some.inj q)
      | succ m => exact a2 m (Nat.lt_of_succ_lt_succ hm) q
def indexS (ys : List Str) (y : D) : Option Rv := match y with
  | .str z => (findT z ys).map fun j => .d (.int (j : Nat))
  | _ => none
def rIndexT (K : PySem.W.Frag) : V → List V → Hp → VK → Prop := fun x xs H Q => ∃ p, ∃ ys : List Str, ∃ z j, x = .ref p ∧ xs = [.str z] ∧ SqT K H p (ys.map V.str) ∧ ys[j]? = some z ∧ (∀ m, m < j → ys[m]? ≠ some z) ∧ Q (.int (j : Nat)) H
theorem strs_of {ys : List Str} : strsD (ys.map D.str) = some ys := by
  induction ys with
  | nil => rfl
  | cons y ys ih =>
    show (strsD (ys.map D.str)).map (y :: ·) = _
    rw [ih]
    rfl
theorem rpl_strs {F : Hp} : ∀ {ys : List Str} {xs : List V}, RpL K F (ys.map D.str) xs → xs = ys.map V.str
  | [], _, .nil => rfl
  | y :: ys, _, .cons h r => by
    cases h
    rw [rpl_strs r]
    rfl
theorem ev_indexG {W : WX} {a : Addr} {ys : List Str} {te : TE} {me : M Rv} (hl : ∃ o, K.lookup a = some o ∧ o.cls = .type "tuple" ∧ o.dict = none) (hd : ∀ F, Rp K F (.tuk (ys.map D.str)) (.ref a)) (he : EvX K W te me) :
    EvX K W (tBM K "tuple" (rIndexT K) (tC (.ref a)) (tCons te tNil)) (mUn (indexS ys) me) := by
  intro F H σ s Q rs w
  refine ⟨.inr (.inl ⟨rfl, hl⟩), he.step (Go.refl rs) w fun r1 s1 v1 F1 H1 g1 _ h1 w1 => ?_⟩
  obtain ⟨y, ey, w2⟩ := opt_wn w1
  have ho := out_ok g1 w2
  have hy := pk_ok g1.rs h1 ey
  obtain ⟨_, xs, e0, hs, hx⟩ := (hd F1).sqt rfl
  cases e0
  rw [rpl_strs hx] at hs
  cases y with
  | str z =>
    cases hy
    have ho : OutOk K F1 H1 Q ((findT z ys).map fun j => .d (.int (j : Nat))) := ho
    cases ej : findT z ys with
    | none => rw [ej] at ho; exact ho.elim
    | some j =>
      rw [ej] at ho
      obtain ⟨q1, q2⟩ := findT_ok ej
      exact ⟨a, ys, z, j, rfl, rfl, g1.rs.sub.t hs, q1, q2, outD g1.rs.sub ho (.int _)⟩
  | _ => exact ho.elim
section
variable {X : Cx} {W : WX} {e : Expr} {te : TE} {me : M Rv} {pos p1 : Pos} {x : Str} {a : Addr}
theorem c_indexG {apos : Pos} (ys : List Str) (hg : Gl X x) (hm : X.mg x = some (.ref a)) (hl : ∃ o, K.lookup a = some o ∧ o.cls = .type "tuple" ∧ o.dict = none) (hd : ∀ F, Rp K F (.tuk (ys.map D.str)) (.ref a)) (hK : X.K = K) (he : CE X K W e te me)
    (hdb : (x == ("__debug__" : Str)) = false := by decide) (hbase : attributeBase (.Name x p1) "index" X.env (eval (.Name x p1) X.env) = eval (.Name x p1) X.env := by rfl)
    (hfew : ((backTo pos (starEach [e] X.env)).all (fun x => !x.1) && (backToKw pos (keywordEach [] X.env)).all (fun x => x.1.isSome) && decide (([e] : List Expr).length + ([] : List Keyword).length + (if ([] : List Keyword).isEmpty then 0 else 1) < 30)) = true := by rfl)
    (hline : (apos.endLine == pos.line) = true := by rfl) (hs : starEach [e] X.env = (false, eval e X.env) :: starEach [] X.env := by rfl) (hplain : (backTo pos (starEach [] X.env)).any (·.1) = false := by rfl) :
    CE X K W (.Call (.Attribute (.Name x p1) "index" apos) [e] [] pos) (tBM K "tuple" (rIndexT K) (tC (.ref a)) (tCons te tNil)) (mUn (indexS ys) me) := by
  subst hK
  exact ⟨pe_bm PySem.F.plainAttrs_tuple PySem.F.slot_tuple_index PySem.F.type_tuple_index mt_tup_index (pe_glob hg hm rfl hdb) (pa_cons he.p pa_nil hs) hbase hfew hline hs hplain, ev_indexG hl hd he.v⟩
end
end Cz

/-! # DaF -/
namespace Cz
open L2 PyProof.Rows PySem.Spec PySem
section
variable {P : Program} {w : World} {K : PySem.W.Frag} {base : Heap} {mg : Str → Option Value}
/-- a def with defaults that lets nothing out -/
theorem fn_okND {x qual : Str} {st : Stmt} {f : Addr} {fd : FuncData} {N ps : List Str} {k : Nat} {mb : MS} {dvs : List V} {kws : List (Str × V)} (F : FunD K x qual (defArgs st) (defBody st) (defScope st) dvs kws f fd) (S : FnScope N ps (defScope st))
    (hb : ∀ (cdv : Value) (A : Around) (outer : List Env) (s : Shared) (H : Hp) (E : XK), Room k (A.deeper (envOfC qual (defScope st) s.heap.objs.size f cdv)) →
      ∃ t, PSs (cxOf CX0 P w K mg base N qual (defScope st) f cdv A outer s H E).nox (defBody st) t ∧ EvS K (fun _ _ _ _ => False) t mb) :
    FnOk P w K mg base CX0 (k + 1) f fd ps (spM K (runN ps.length N.length mb)) := by
  refine F.ok S (fun vs H Q E h => ?_) (fun cdv A outer s H vs Q E hr h => ?_)
  · obtain ⟨_, as, rs, w1⟩ := h
    exact runF_len rs (noEx_wf w1 fun _ _ _ => False)
  · obtain ⟨t, h1, h2⟩ := hb cdv A outer s H E hr
    obtain ⟨_, as, rs, w1⟩ := h
    refine ⟨t, h1.nox, ?_⟩
    exact body_ok h2 rs (noEx_wf w1 fun _ _ _ => False) fun _ _ _ _ z => z
end
end Cz
namespace Cz
open L2 PyProof.Rows PySem.Spec PySem
section
variable {P : Program} {w : World} {K : PySem.W.Frag} {base : Heap} {mg : Str → Option Value}
theorem fn_okN2 {np n : Nat} {x qual : Str} {st : Stmt} {f : Addr} {fd : FuncData} {N ps : List Str} {k : Nat} {mb : MS} (hp : ps.length = np) (hn : N.length = n) (F : Fun K x qual st f fd) (S : FnScope N ps (defScope st))
    (hb : ∀ (cdv : Value) (A : Around) (outer : List Env) (s : Shared) (H : Hp) (E : XK), Room k (A.deeper (envOfC qual (defScope st) s.heap.objs.size f cdv)) →
      ∃ t, PSs (cxOf CX0 P w K mg base N qual (defScope st) f cdv A outer s H E).nox (defBody st) t ∧ EvS K (fun _ _ _ _ => False) t mb) :
    FnOk P w K mg base CX0 (k + 1) f fd ps (spM K (runN np n mb)) := by
  subst hp hn
  exact fn_okN F S hb
theorem fn_okND2 {np n : Nat} {x qual : Str} {st : Stmt} {f : Addr} {fd : FuncData} {N ps : List Str} {k : Nat} {mb : MS} {dvs : List V} {kws : List (Str × V)} (hp : ps.length = np) (hn : N.length = n) (F : FunD K x qual (defArgs st) (defBody st) (defScope st) dvs kws f fd) (S : FnScope N ps (defScope st))
    (hb : ∀ (cdv : Value) (A : Around) (outer : List Env) (s : Shared) (H : Hp) (E : XK), Room k (A.deeper (envOfC qual (defScope st) s.heap.objs.size f cdv)) →
      ∃ t, PSs (cxOf CX0 P w K mg base N qual (defScope st) f cdv A outer s H E).nox (defBody st) t ∧ EvS K (fun _ _ _ _ => False) t mb) :
    FnOk P w K mg base CX0 (k + 1) f fd ps (spM K (runN np n mb)) := by
  subst hp hn
  exact fn_okND F S hb
end
end Cz

/-! # CzS -/
namespace Cz
open L2 PyProof.Rows PySem.Spec PySem
variable {X : Cx} {K : PySem.W.Frag}

/-! ## names of built-in types as values; answers of isinstance -/
theorem p_int {pos : Pos} (hg : Gl X "int") (hm : X.mg "int" = none) : PE X (.Name "int" pos) (tC (.ty "int")) := pe_bltn hg hm boot_int rfl
theorem p_bool {pos : Pos} (hg : Gl X "bool") (hm : X.mg "bool" = none) : PE X (.Name "bool" pos) (tC (.ty "bool")) := pe_bltn hg hm boot_bool rfl
theorem p_str {pos : Pos} (hg : Gl X "str") (hm : X.mg "str" = none) : PE X (.Name "str" pos) (tC (.ty "str")) := pe_bltn hg hm boot_str rfl
theorem p_list {pos : Pos} (hg : Gl X "list") (hm : X.mg "list" = none) : PE X (.Name "list" pos) (tC (.ty "list")) := pe_bltn hg hm boot_list rfl
theorem p_tuple {pos : Pos} (hg : Gl X "tuple") (hm : X.mg "tuple" = none) : PE X (.Name "tuple" pos) (tC (.ty "tuple")) := pe_bltn hg hm boot_tuple rfl
theorem kit1 {a b : String} {r : Bool} (h : kitB a b = some r) : PySem.W.kitAny K (.type a) [.type b] = some r := by
  cases r with
  | true => exact kitAny_cons (kit_ty h) (fun e => nomatch e) (fun _ => rfl)
  | false => exact kitAny_cons (kit_ty h) (fun _ => kitAny_nil) (fun e => nomatch e)
theorem kit2 {a b c : String} {r q : Bool} (h : kitB a b = some r) (h2 : kitB a c = some q) : PySem.W.kitAny K (.type a) [.type b, .type c] = some (r || q) := by
  cases r with
  | true => exact kitAny_cons (kit_ty h) (fun e => nomatch e) (fun _ => rfl)
  | false => exact kitAny_cons (kit_ty h) (fun _ => kit1 h2) (fun e => nomatch e)
def flatTab (f : String → Bool) : IsTab := ⟨["NoneType", "bool", "int", "str", "tuple", "list"].map fun t => (t, f t), []⟩
theorem flat_ok {f : String → Bool} {us : List Value} (h : ∀ t ∈ ["NoneType", "bool", "int", "str", "tuple", "list"], PySem.W.kitAny K (.type t) us = some (f t)) : (flatTab f).ok K us := by
  refine ⟨fun p hp => ?_, fun p hp => by cases hp⟩
  obtain ⟨t, ht, rfl⟩ := List.mem_map.mp hp
  exact h t ht
theorem six {Q : String → Prop} (a : Q "NoneType") (b : Q "bool") (c : Q "int") (d : Q "str") (e : Q "tuple") (f : Q "list") : ∀ t ∈ ["NoneType", "bool", "int", "str", "tuple", "list"], Q t := by
  intro t ht
  simp only [List.mem_cons, List.not_mem_nil, or_false] at ht
  rcases ht with rfl | rfl | rfl | rfl | rfl | rfl <;> assumption
abbrev tab_int : IsTab := flatTab fun t => t == "int" || t == "bool"
abbrev tab_bool : IsTab := flatTab fun t => t == "bool"
abbrev tab_str : IsTab := flatTab fun t => t == "str"
abbrev tab_tuple : IsTab := flatTab fun t => t == "tuple"
abbrev tab_list : IsTab := flatTab fun t => t == "list"
abbrev tab_lt : IsTab := flatTab fun t => t == "list" || t == "tuple"
theorem tab_int_ok : tab_int.ok K [.type "int"] := flat_ok (six (kit1 (by decide +kernel)) (kit1 (by decide +kernel)) (kit1 (by decide +kernel)) (kit1 (by decide +kernel)) (kit1 (by decide +kernel)) (kit1 (by decide +kernel)))
theorem tab_bool_ok : tab_bool.ok K [.type "bool"] := flat_ok (six (kit1 (by decide +kernel)) (kit1 (by decide +kernel)) (kit1 (by decide +kernel)) (kit1 (by decide +kernel)) (kit1 (by decide +kernel)) (kit1 (by decide +kernel)))
theorem tab_str_ok : tab_str.ok K [.type "str"] := flat_ok (six (kit1 (by decide +kernel)) (kit1 (by decide +kernel)) (kit1 (by decide +kernel)) (kit1 (by decide +kernel)) (kit1 (by decide +kernel)) (kit1 (by decide +kernel)))
theorem tab_tuple_ok : tab_tuple.ok K [.type "tuple"] := flat_ok (six (kit1 (by decide +kernel)) (kit1 (by decide +kernel)) (kit1 (by decide +kernel)) (kit1 (by decide +kernel)) (kit1 (by decide +kernel)) (kit1 (by decide +kernel)))
theorem tab_list_ok : tab_list.ok K [.type "list"] := flat_ok (six (kit1 (by decide +kernel)) (kit1 (by decide +kernel)) (kit1 (by decide +kernel)) (kit1 (by decide +kernel)) (kit1 (by decide +kernel)) (kit1 (by decide +kernel)))
theorem tab_lt_ok : tab_lt.ok K [.type "list", .type "tuple"] := flat_ok (six (kit2 (r := false) (q := false) (by decide +kernel) (by decide +kernel)) (kit2 (r := false) (q := false) (by decide +kernel) (by decide +kernel)) (kit2 (r := false) (q := false) (by decide +kernel) (by decide +kernel)) (kit2 (r := false) (q := false) (by decide +kernel) (by decide +kernel)) (kit2 (r := false) (q := true) (by decide +kernel) (by decide +kernel)) (kit2 (r := true) (q := false) (by decide +kernel) (by decide +kernel)))
theorem cls_lt : Paired ClsV [.ty "list", .ty "tuple"] [.type "list", .type "tuple"] := .cons (.ty _) (.cons (.ty _) .nil)
end Cz

/-! # DbA -/
namespace Cz
open L2 PyProof.Rows PySem.Spec PySem
variable {K : PySem.W.Frag}

/-! ## for x in o, o's __iter__ being iter(self.f), f a tuple -/
def TiO (t it : Addr) : HO := .ext fun h => h.get? it = some { cls := .type "tuple_iterator", data := .fields #[.ref t, .int 0 0] }
theorem tiO_ok {P : Program} {w : World} {H : Hp} {h : Heap} {t it : Addr} (e : h.get? it = some { cls := .type "tuple_iterator", data := .fields #[.ref t, .int 0 0] }) : ObjOk P w H h it (TiO t it) := ⟨e, ⟨_, e⟩, fun h1 h2 q k => k _ q⟩
theorem wp_iterT {prog : Program} {w : World} {A : Around} {E : Value → Shared → Prop} {s : Shared} {t : Addr} {its : Array Value} {Q : Value → Shared → Prop} (ht : s.heap.IsTuple t its)
    (h : Q (.ref s.heap.objs.size) { s with heap := s.heap.push { cls := .type "tuple_iterator", data := .fields #[.ref t, .int 0 0] } }) : wpAny (model prog w) A (call (.builtin "iter") [.ref t]) Q E s := by
  (refine Calls.call_function_entry (by decide +kernel) (by decide +kernel) PySem.W.kdk_entry_iter (PySem.W.kdk_args_iter _) ?_)
  unfold Builtin.«iter»
  have e : someArgs "iter" 1 2 ⟨[Value.ref t], []⟩ = pure [Value.ref t] := by first | rfl | kernel_rfl!
  refine wpAny_bind (wpAny_of_eq e ?_)
  exact wpAny_bind (wpAny_pyIter_tuple ht (wpAny_pure ⟨_, rfl, h⟩))
def rIterT (K : PySem.W.Frag) (n : Nat) : List V → Hp → VK → Prop := fun vs H Q => ∃ (t : Addr) (zs : List V), vs = [.ref t] ∧ SqT K H t zs ∧ ∀ it, H it = none → n ≤ it → Q (.ref it) (upd H it (TiO t it))
theorem call_iterT {X : Cx} : CallR X (.builtin "iter") (rIterT X.K X.s_0.heap.objs.size) := by
  (intro pins s σ H xs us Q I r h)
  obtain ⟨t, zs, rfl, ht, q⟩ := h
  (obtain ⟨u, rfl, ru⟩ := vals1 r)
  cases ru
  obtain ⟨its, rv, pl, hz⟩ := I.tuple ht
  have ne := I.laid (t' := s.toks) (h' := s.heap.push { cls := .type "tuple_iterator", data := .fields #[.ref t, .int 0 0] }) (a := s.heap.objs.size) (o := TiO t s.heap.objs.size) (fun b u e => Heap.get?_push_of_some _ e) (Nat.le_refl _) (tiO_ok (Heap.get?_push_size _ rfl))
  exact wp_iterT pl ⟨.ref s.heap.objs.size, _, ne, rfl, q _ (I.hok.fresh (Nat.le_refl _)) I.sz⟩
section
variable {CX : CXT} {P : Program} {w : World} {mg : Str → Option Value} {base : Heap} {k : Nat} {f : Addr} {x qual : Str} {st : Stmt} {fd : FuncData} {N ps : List Str}
/-- a def of the text, run at one state: what it says of that state's size can be used -/
theorem run_here (Fn : Fun K x qual st f fd) (S : FnScope N ps (defScope st)) {A : Around} {outer : List Env} {s : Shared} {H : Hp} {us : List Value} {vs : List V} {Q : VK} {E : XK} (hr : Room (k + 1) A) (e0 : Env0 P w K mg base A outer s H)
    (hb : BindsTo s fd ⟨us, []⟩ (ps.zip us)) (r : Vals vs us) (hl : vs.length = ps.length)
    (body : ∀ cdv : Value, Room k (A.deeper (envOfC qual (defScope st) s.heap.objs.size f cdv)) → ∃ t, PSs (cxOf CX P w K mg base N qual (defScope st) f cdv A outer s H E) (defBody st) t ∧ t { nx := fun _ H' => Q .non H', rt := Q } (start N vs) H) :
    codeAny (model P w) A (.call (.ref f) ⟨us, []⟩) (CR CX outer P w H s Q E) s := by
  obtain ⟨oc, od, kV, doc, pm, an, cdv, ct, osl, rfl, lk, hcd⟩ := Fn.ex
  have inK : K.In s.heap := e0.mod.kin.keeps fun b o e => (e0.bs b o e).1
  have nolim : s.heap.NoLimit := e0.mod.nolimit.keeps fun b o e => (e0.bs b o e).1
  have kinds : ∀ y ∈ ps.zip us, (defScope st).names.lookup y.1 = some .local ∨ ((defScope st).names.lookup y.1 = some .cell ∧ ((cellsFrom (s.heap.objs.size + 1) (defScope st).names []).lookup y.1).isSome = true) := by
    rintro ⟨n, v⟩ hy
    (rcases S.par n (List.of_mem_zip hy).1 with q | q)
    · exact .inl q
    · (exact .inr ⟨q, PySem.W.cellsFrom_some _ _ _ (.inl q)⟩)
  have crec := PySem.W.codeRec_of inK hcd
  refine codeAny_call_function hr.depth (inK _ _ lk) rfl S.co S.gen rfl crec (hb _ _ _ _ ?_)
  refine wpAny_newFunctionEnv_cells S.kind kinds ?_
  intro env he s1 c
  subst he
  refine ⟨nolim.keeps c.toInCall.keep, codeAny_func ?_⟩
  obtain ⟨t, ht, hq⟩ := body cdv (hr.deeper _)
  have I := inv_start (CX := CX) (E := E) (mg := mg) (base := base) (f := f) (cd := cdv) S hr.hd e0 hl r c
  refine wpAny_mono (ht.run [] s1 _ H _ I hq) ?_ (fun _ _ z => z)
  rintro fl s' z
  cases fl with
  | ret u =>
    obtain ⟨v, σ', H', J, rv, q⟩ := z
    exact ⟨v, H', J.os, J.bare, J.base, J.hok, rv, q⟩
  | next =>
    obtain ⟨σ', H', J, q⟩ := z
    exact ⟨V.non, H', J.os, J.bare, J.base, J.hok, rfl, q⟩
  | brk =>
    obtain ⟨σ', H', J, q⟩ := z
    exact q.elim
  | cont =>
    obtain ⟨σ', H', J, q⟩ := z
    exact q.elim
end
/-- the class's __iter__, whose body reads so at each state -/
structure ItD (P : Program) (w : World) (K : PySem.W.Frag) (mg : Str → Option Value) (base : Heap) (C f : Addr) (st : Stmt) (fl : Str) : Prop where
  at_ : PySem.W.findIn K (.ref C) "__iter__" = some (some (.ref f))
  fn : (PySem.W.isFn K (.ref f)) = true
  cl : Cls K C
  na : NoAttr K C fl
  df : ∃ fd qual, Fun K "__iter__" qual st f fd ∧ Binds K fd ["self"] [] ∧ FnScope ["self"] ["self"] (defScope st) ∧
    ∀ (cdv : Value) (A : Around) (outer : List Env) (s : Shared) (H : Hp) (E : XK), PSs (cxOf CX0 P w K mg base ["self"] qual (defScope st) f cdv A outer s H E) (defBody st) (tRet (tCB (rIterT K s.heap.objs.size) (tCons (tFld K (tVar 0) fl) tNil)))
def iOwn (K : PySem.W.Frag) (C : Addr) (fl : Str) (te : TE) : TI := fun σ H R => te σ H fun x H1 => ∃ a dx fs t zs, x = .ref a ∧ H1 a = some (.ins C dx fs) ∧ fs.lookup fl = some (.ref t) ∧ SqT K H1 t zs ∧ R (Itt K t) H1
theorem pi_own {X : Cx} {k : Nat} {C f : Addr} {st : Stmt} {fl : Str} {tg o : Expr} {te : TE} (D : ItD X.prog X.w X.K X.mg X.base C f st fl) (hr : Room (k + 2) X.A) (h : PE X o te) : PI X tg o (iOwn X.K C fl te) := by
  refine ⟨fun pins s σ H R I w => thn (h.run pins s σ H _ I w) ?_⟩
  rintro v s1 ⟨y, H1, I1, ry, a, dx, fs, t, zs, rfl, ea, el, ht, q⟩
  (obtain rfl : v = Value.ref a := ry)
  obtain ⟨m, fr⟩ := frm_of I1
  obtain ⟨mA, O, _⟩ := ins_get I1.hok ea
  obtain ⟨od, J, _⟩ := O.look
  obtain ⟨fd, qual, Fn, hb, S, bd⟩ := D.df
  refine PySem.W.owit_iter fr I1.ok.mod.kin J D.at_ D.fn (wpAny_call ?_)
  have bt := hb s1 [.ref a] I1.kIn rfl
  rw [List.append_nil] at bt
  have run := run_here (CX := CX0) (E := E0) (vs := [V.ref a]) (Q := fun v H' => ∃ it, v = .ref it ∧ H1 it = none ∧ s1.heap.objs.size ≤ it ∧ H' = upd H1 it (TiO t it)) Fn S hr I1.env0 bt (.cons rfl .nil) rfl (fun cdv _ => ⟨_, bd cdv _ _ _ _ _, (.ref a), rfl, a, C, dx, fs, (.ref t), rfl, ea, D.cl, D.na, el, t, zs, rfl, ht, fun it h1 h2 => ⟨it, rfl, h1, h2, rfl⟩⟩)
  refine codeAny_mono run fun z t2 hz => ?_
  cases z with
  | error e => exact hz.elim
  | ok fw =>
    cases fw with
    | ret u =>
      obtain ⟨v2, H2, I2, rv, it, rfl, n1, n2, rfl⟩ := I1.after hz
      obtain rfl : u = Value.ref it := rv
      have ho : t2.heap.get? it = some { cls := .type "tuple_iterator", data := .fields #[.ref t, .int 0 0] } := (I2.hok it _ upd_same).1
      have I3 := ItX.inv_drop I2 upd_same
      have fp := ItX.inv_fp I2 upd_same (Nat.le_trans I1.sz n2)
      rw [ItX.dropH_upd n1] at I3 fp
      have ty : t2.TypeIs (.ref it) "tuple_iterator" := ⟨_, ho, rfl⟩
      unfold PySem.W.OwitIt
      refine wpAny_specialOf ty PySem.F.slot_tuple_iterator_next.lookup ?_
      refine ⟨it, [it], _, Itt X.K t, H1, rfl, I3, turn_tuple t it, ⟨_, ho, rfl, rfl⟩, fun b hb => ?_, q⟩
      obtain rfl := List.mem_singleton.mp hb
      exact fp
    | next => exact hz.elim
    | brk => exact hz.elim
    | cont => exact hz.elim
def mOwnIt (C : Addr) (fl : Str) (me : M Rv) : M (List D) := fun s => (me s).bind fun r s1 => opt (pk r s1) fun x => match x with
  | .obj C' l => if C' = C then opt ((l.lookup fl).bind tupL) fun ds => .ok ds s1 else .no
  | _ => .no
theorem ei_own {W : WX} {C : Addr} {fl : Str} {te : TE} {me : M Rv} (h : EvX K W te me) : EvI K W (iOwn K C fl te) (mOwnIt C fl me) := by
  intro F H σ s Q rs w
  refine h.stepI rs w fun r s1 v F1 H1 g1 h1 w1 => ?_
  obtain ⟨x, ex, w2⟩ := opt_wnI w1
  have hp := pk_ok g1.rs h1 ex
  cases x with
  | obj C' l =>
    simp only at w2
    split at w2
    · rename_i hc
      subst hc
      obtain ⟨a, dx, xs, rfl, e1, e2⟩ := hp
      obtain ⟨ds, ed, w3⟩ := opt_wnI w2
      rcases RpF.lookup (f := fl) e2 with ⟨z, _⟩ | ⟨d, v, l1, l2, rd⟩
      · rw [z] at ed
        cases ed
      · rw [l1] at ed
        obtain ⟨t, zs, rfl, ht, rl⟩ := Rp.sqt rd ed
        exact ⟨a, dx, xs, t, zs, rfl, e1, l2, g1.rs.sub.t ht, w3 _ F1 H1 (fun H => SqT K H t zs) (YAt zs) g1 (by rw [rl.length]; exact walk_tup) (fun F3 H3 σ3 s3 r3 sb => r3.sub.t (sb.t ht)) (seq_items rl)⟩
    · exact w2.elim
  | _ => exact w2.elim
theorem i_own {X : Cx} {W : WX} {k : Nat} {C f : Addr} {st : Stmt} {fl : Str} {tg o : Expr} {te : TE} {me : M Rv} (D : ItD X.prog X.w X.K X.mg X.base C f st fl) (hr : Room (k + 2) X.A) (ho : CE X X.K W o te me) : CI X X.K W tg o (iOwn X.K C fl te) (mOwnIt C fl me) := ⟨pi_own D hr ho.p, ei_own ho.v⟩
/-! ## len(o), bool(o) by own methods -/
def rLenO (C : Addr) (sp : Sp) (E : XK) : List V → Hp → VK → Prop := fun vs H Q => ∃ a dx fs, vs = [.ref a] ∧ H a = some (.ins C dx fs) ∧ sp [.ref a] H (fun v H2 => ∃ n : Int, v = .int n ∧ 0 ≤ n ∧ n < 2 ^ 63 ∧ Q (.int n) H2) E
def rBoolO (C : Addr) (sp : Sp) (E : XK) : List V → Hp → VK → Prop := fun vs H Q => ∃ a dx fs, vs = [.ref a] ∧ H a = some (.ins C dx fs) ∧ sp [.ref a] H (fun v H2 => ∃ b : Bool, v = .bl b ∧ Q (.bl b) H2) E
section
variable {X : Cx} {k : Nat} {f C : Addr} {fd : FuncData} {ps : List Str} {sp : Sp} {CX : CXT} {E : XK}
theorem call_lenO (hm : Meth X.K C "__len__" f) (F : FnOk X.prog X.w X.K X.mg X.base CX k f fd ps sp) (hr : Room (k + 1) X.A) (hb : Binds X.K fd ps []) (hx : Passes CX X E) : CallR X (.builtin "len") (rLenO C sp E) := by
  (intro pins s σ H xs us Q I r h)
  obtain ⟨a, dx, fs, rfl, ea, q⟩ := h
  (obtain ⟨u, rfl, ru⟩ := vals1 r)
  (obtain rfl : u = Value.ref a := ru)
  obtain ⟨m, fr⟩ := frm_of I
  (obtain ⟨mA, O, _⟩ := ins_get I.hok ea)
  obtain ⟨od, J, _⟩ := O.look
  refine PySem.W.len_K fr I.ok.mod.kin J hm.at_ hm.fn (wpAny_mono (run1 (vs := [V.ref a]) F hr hb hx I (.cons rfl .nil) q) ?_ (fun _ _ z => z))
  rintro u s2 ⟨v, H2, I2, rv, n, rfl, n0, n1, q2⟩
  obtain ⟨t, rfl⟩ := rv
  exact ⟨⟨n0, n1⟩, .int n, H2, I2.tok _, ⟨_, rfl⟩, q2⟩
theorem run2 {pins : List (Addr × Obj)} {σ : L2.St} {H : Hp} {s : Shared} {Q : VK} {us : List Value} {vs : List V} (F : FnOk X.prog X.w X.K X.mg X.base CX k f fd ps sp) (hr : Room (k + 2) X.A) (hb : Binds X.K fd ps []) (hx : Passes CX X E)
    (I : Inv X pins σ H s) (r : Vals vs us) (h : sp vs H Q E) : wpAny (model X.prog X.w) X.A.in1.in1 (call (.ref f) us) (EP X pins σ Q) X.xe s := by
  have n : us.length = ps.length := by
    rw [← r.length]
    exact F.len _ _ _ _ h
  have bt := hb s us I.kIn (by (rw [List.append_nil]; exact n))
  rw [List.append_nil] at bt
  refine wpAny_call (codeAny_mono (F.run X.A.in1.in1 X.stack s H ⟨us, []⟩ us vs Q E hr.in1.in1 I.env0.in1.in1 bt r h) fun z t hz => ?_)
  cases z with
  | error e => exact hx pins σ H s e t I hz
  | ok fl =>
    cases fl with
    | ret u => exact I.after hz
    | next => exact hz.elim
    | brk => exact hz.elim
    | cont => exact hz.elim
theorem meets_boolO {prog : Program} {w : World} {x : Addr} : MeetsIn prog w (Builtin.«bool.__new__» ⟨[.type "bool", .ref x], []⟩) (fun A R s => wpAny (model prog w) A.in1 (truthy (.ref x)) (fun b s' => R (.ok (.ret (.bool b))) s') (fun e s' => R (.error e) s') s) :=
  .of_wp fun A R s h => by
    have f1 := F.conv_sub_bool
    (obtain ⟨hp, g, d, tk, os⟩ := s)
    repeat (any_goals (first | assumption | (with_reducible refine wpAny_bind (wpAny_mono h ?_ (fun _ _ z => z))) | wp_step))
    intro a s2 hs
    exact wpAny_pure ⟨_, rfl, hs⟩
theorem call_boolO (hm : Meth X.K C "__bool__" f) (F : FnOk X.prog X.w X.K X.mg X.base CX k f fd ps sp) (hr : Room (k + 2) X.A) (hb : Binds X.K fd ps []) (hx : Passes CX X E) : CallR X (.type "bool") (rBoolO C sp E) := by
  (intro pins s σ H xs us Q I r h)
  obtain ⟨a, dx, fs, rfl, ea, q⟩ := h
  (obtain ⟨u, rfl, ru⟩ := vals1 r)
  (obtain rfl : u = Value.ref a := ru)
  obtain ⟨m, fr⟩ := frm_of I
  (obtain ⟨mA, O, _⟩ := ins_get I.hok ea)
  obtain ⟨od, J, _⟩ := O.look
  refine callType_newIn PySem.F.called_bool PySem.F.newNe_bool (PySem.F.typeCall_bool_1 _) (PySem.F.newCall_bool_1 _) (fun obj => PySem.F.args_object_init_2 obj _) PySem.F.entry_bool_new meets_boolO ?_
  refine PySem.W.truthy_K fr I.ok.mod.kin J hm.at_ hm.fn (wpAny_mono (run2 (vs := [V.ref a]) F hr hb hx I (.cons rfl .nil) q) ?_ (fun _ _ z => z))
  rintro u s2 ⟨v, H2, I2, rv, b, rfl, q2⟩
  cases rv
  exact ⟨rfl, .bl b, H2, I2, rfl, q2⟩
end
/-! ### their mirrors -/
def mOL (C : Addr) (f : MF) (mo : M Rv) : M Rv := fun s => (mo s).bind fun r s1 => opt (pk (nrm r) s1) fun x => match x with
  | .obj C' _ => if C' = C then (noEx (callS f [nrm r] s1)).bind fun r4 s4 => opt ((pk r4 s4).bind intOf) fun n => if 0 ≤ n ∧ n < 2 ^ 63 then .ok (.d (.int n)) s4 else .no else .no
  | _ => .no
def mOB (C : Addr) (f : MF) (mo : M Rv) : M Rv := fun s => (mo s).bind fun r s1 => opt (pk (nrm r) s1) fun x => match x with
  | .obj C' _ => if C' = C then (noEx (callS f [nrm r] s1)).bind fun r4 s4 => opt ((pk r4 s4).bind blD) fun b => .ok (.d (.bl b)) s4 else .no
  | _ => .no
theorem intOf_ok {F H : Hp} {H0 : Hp} {σ : L2.St} {s : SS} {r : Rv} {v : V} {n : Int} (rs : RS K F H σ s) (h : RpR K H0 F H σ s r v) (e : (pk r s).bind intOf = some n) : v = .int n := by
  cases q : pk r s with
  | none => (rw [q] at e; cases e)
  | some d =>
    rw [q] at e
    have hp := pk_ok rs h q
    cases d with
    | int c =>
      cases e
      cases hp
      rfl
    | _ => cases e
theorem ev_OL {W : WX} {C : Addr} {f : MF} {to : TE} {mo : M Rv} (ho : EvX K W to mo) : EvX K W (tCB (rLenO C (spM K f) (fun _ _ _ => False)) (tCons to tNil)) (mOL C f mo) := by
  intro F H σ s Q rs w
  refine ho.step (Go.refl rs) w fun r s1 v F1 H1 g1 g01 h1 w1 => ?_
  obtain ⟨F1', g1', sb1, h1'⟩ := nrm_ok g01 h1
  obtain ⟨x, ex, w4⟩ := opt_wn w1
  have g3 := g1'
  have hp := pk_ok g3.rs h1' ex
  cases x with
  | obj C' fs =>
    simp only at w4
    split at w4
    · rename_i hc
      subst hc
      obtain ⟨a, dx, xs, rfl, e1, e2⟩ := hp
      refine ⟨a, dx, xs, rfl, e1, ?_⟩
      refine call_ok (W := fun _ _ _ _ => False) (Q := fun v H3 => ∃ n : Int, v = .int n ∧ 0 ≤ n ∧ n < 2 ^ 63 ∧ Q (.int n) H3) g3 (h1'.arg .nil) ?_
      cases e : callS f [nrm r] s1 with
      | no => rw [e] at w4; exact w4.elim
      | ex c l s4 => rw [e] at w4; exact w4.elim
      | ok r4 s4 =>
        rw [e] at w4
        obtain ⟨n, en, w5⟩ := opt_wn w4
        split at w5
        · rename_i hn
          exact fun v F' H' g hr => ⟨n, intOf_ok g.rs hr en, hn.1, hn.2, w5 _ F' H' g (.int _)⟩
        · exact w5.elim
    · exact w4.elim
  | _ => exact w4.elim
theorem ev_OB {W : WX} {C : Addr} {f : MF} {to : TE} {mo : M Rv} (ho : EvX K W to mo) : EvX K W (tCB (rBoolO C (spM K f) (fun _ _ _ => False)) (tCons to tNil)) (mOB C f mo) := by
  intro F H σ s Q rs w
  refine ho.step (Go.refl rs) w fun r s1 v F1 H1 g1 g01 h1 w1 => ?_
  obtain ⟨F1', g1', sb1, h1'⟩ := nrm_ok g01 h1
  obtain ⟨x, ex, w4⟩ := opt_wn w1
  have hp := pk_ok g1'.rs h1' ex
  cases x with
  | obj C' fs =>
    simp only at w4
    split at w4
    · rename_i hc
      subst hc
      obtain ⟨a, dx, xs, rfl, e1, e2⟩ := hp
      refine ⟨a, dx, xs, rfl, e1, ?_⟩
      refine call_ok (W := fun _ _ _ _ => False) (Q := fun v H3 => ∃ b : Bool, v = .bl b ∧ Q (.bl b) H3) g1' (h1'.arg .nil) ?_
      cases e : callS f [nrm r] s1 with
      | no => rw [e] at w4; exact w4.elim
      | ex c l s4 => rw [e] at w4; exact w4.elim
      | ok r4 s4 =>
        rw [e] at w4
        obtain ⟨b, eb, w5⟩ := opt_wn w4
        exact fun v F' H' g hr => ⟨b, blD_ok g.rs hr eb, w5 _ F' H' g (.bl _)⟩
    · exact w4.elim
  | _ => exact w4.elim
section
variable {X : Cx} {W : WX} {kk : Nat} {f C : Addr} {fd : FuncData} {ps : List Str} {g : MF} {o : Expr} {pos p1 : Pos} {to : TE} {mo : M Rv}
theorem c_ol (hm : Meth X.K C "__len__" f) (F : FnOk X.prog X.w X.K X.mg X.base CX0 kk f fd ps (spM X.K g)) (hr : Room (kk + 1) X.A) (hb : Binds X.K fd ps []) (hg : Gl X "len") (hmg : X.mg "len" = none) (ho : CE X X.K W o to mo)
    (he : starEach (o :: []) X.env = (false, eval o X.env) :: starEach [] X.env := by rfl) (hpl : (backTo pos (starEach [] X.env)).any (·.1) = false := by rfl) : CE X X.K W (.Call (.Name "len" p1) [o] [] pos) (tCB (rLenO C (spM X.K g) (fun _ _ _ => False)) (tCons to tNil)) (mOL C g mo) :=
  ⟨pe_callB (call_lenO hm F hr hb (fun _ _ _ _ _ _ _ h => h.elim)) hg hmg PySem.boot_len (pa_cons ho.p pa_nil he) (by decide) (by decide) he hpl, ev_OL ho.v⟩
theorem c_ob (hm : Meth X.K C "__bool__" f) (F : FnOk X.prog X.w X.K X.mg X.base CX0 kk f fd ps (spM X.K g)) (hr : Room (kk + 2) X.A) (hb : Binds X.K fd ps []) (hg : Gl X "bool") (hmg : X.mg "bool" = none) (ho : CE X X.K W o to mo)
    (he : starEach (o :: []) X.env = (false, eval o X.env) :: starEach [] X.env := by rfl) (hpl : (backTo pos (starEach [] X.env)).any (·.1) = false := by rfl) : CE X X.K W (.Call (.Name "bool" p1) [o] [] pos) (tCB (rBoolO C (spM X.K g) (fun _ _ _ => False)) (tCons to tNil)) (mOB C g mo) :=
  ⟨pe_callTy (call_boolO hm F hr hb (fun _ _ _ _ _ _ _ h => h.elim)) hg hmg boot_bool (pa_cons ho.p pa_nil he) (by decide) (by decide) he hpl, ev_OB ho.v⟩
end
end Cz

/-! # DbB -/
namespace Cz
open L2 PyProof.Rows PySem.Spec PySem
variable {K : PySem.W.Frag}

/-! ## set(a list): whatever its loop comes to -/
abbrev newS (w : World) : Obj := { cls := .type "set", dict := none, data := .set #[] 0 (.fresh 0 0 (!w.params.followText "set-order")) }
abbrev newIt (l : Addr) : Obj := { cls := .type "list_iterator", data := .fields #[.ref l, .int 0 0] }
section
variable {P : Program} {w : World} {A : Around}
variable {E : Value → Shared → Prop} {s : Shared}
set_option maxHeartbeats 3200007 in
theorem call_setL {l : Addr} {items : Array Value} {Z : Shared → Prop} {Q : Value → Shared → Prop} (hl : s.heap.IsList l items)
    (loop : ∀ (B : Around) (R : Result → Shared → Prop), B.handled = A.handled → (∀ s', Z s' → R (.ok (.ret .none)) s') → codeAny (model P w) B (.builtin "set.update.loop" ⟨[.ref s.heap.objs.size, .ref (s.heap.push (newS w)).objs.size], []⟩) R { s with heap := (s.heap.push (newS w)).push (newIt l) })
    (h : ∀ s', Z s' → Q (.ref s.heap.objs.size) s') : wpAny (model P w) A (call (.type "set") [.ref l]) Q E s := by
  obtain ⟨c, tl, mro⟩ := F.called_set.mro
  have made := F.called_set.made
  have sub := F.called_set.sub
  have nt := F.called_set.notType
  have cc := F.called_set.canCreate
  have tc := F.typeCall_set_1 (.ref l)
  refine wpAny_call (codeAny_of_tree (show wpAny _ _ (callAny (.type "set") _) _ _ _ from wpAny_pure ⟨Code.quiet_builtin _ (by decide +kernel), codeAny_builtin F.entry_type_call ?_⟩))
  (rw [Around.under_plain (weight_type_call_type "set" [.ref l] []) rfl])
  repeat (any_goals (first
    | assumption | wp_step))
  refine codeAny_mono (code_set_led1 (.ref l) (E := E) (Q₁ := fun obj t => obj = .ref s.heap.objs.size ∧ t = { s with heap := s.heap.push (newS w) }) ⟨rfl, rfl⟩) ?_
  rintro (e | fl) t hr
  · exact hr
  · cases fl with
    | ret obj =>
      obtain ⟨rfl, rfl⟩ := hr
      have isS : (s.heap.push (newS w)).get? s.heap.objs.size = some (newS w) := Heap.get?_push_size _ rfl
      have tyS : Shared.TypeIs { s with heap := s.heap.push (newS w) } (.ref s.heap.objs.size) "set" := ⟨_, isS, rfl⟩
      have li := F.called_set.init.lookup
      have bi := F.called_set.init.bind (.ref s.heap.objs.size)
      repeat (any_goals (first
    | assumption | wp_step))
      refine codeAny_mono (codeAny_call_builtin (R := wants (fun r t2 => r = .none ∧ Z t2) E) F.called_set.init.plain F.entry_set_init (check_set_init_1 tyS ?_)) ?_
      · obtain ⟨⟨k1, k2, k3, k4⟩, ol, q1, nl, q2⟩ := hl
        simp only at q1 q2
        subst q1
        subst q2
        have isL : (s.heap.push (newS w)).IsList l items := ⟨_, Heap.get?_push_of_some _ ol, rfl, nl, rfl⟩
        have ol' := Heap.get?_push_of_some (newS w) ol
        have e1 := F.sub_list_set
        have e2 := F.sub_list_frozenset
        have e3 : (Value.type "list" == Value.type "dict") = false := by decide
        (unfold Builtin.«set.__init__» noKeywords Builtin.Frozenset.updateFrom)
        generalize hp : pyIter = pi
        wp_walk
        subst hp
        refine wpAny_pyIter_list isL (wpAny_bind (wpAny_runValue ?_))
        refine loop _ _ (by simp) fun s' z => ?_
        refine wpAny_pure (show wpAny _ _ (ret Value.none) _ _ _ from wpAny_pure ⟨rfl, z⟩)
      · rintro (e | f2) t2 hr2
        · exact hr2
        · cases f2 with
          | ret r =>
            obtain ⟨rfl, z⟩ := hr2
            repeat (any_goals (first
    | assumption | wp_step))
            exact h _ z
          | _ => exact hr2.elim
    | _ => exact hr.elim
end
end Cz

/-! # DbC -/
namespace Cz
open L2 PyProof.Rows PySem.Spec PySem
variable {K : PySem.W.Frag}
/-! ### of ints; sorted -/
def rSetI (K : PySem.W.Frag) (w : World) : List V → Hp → VK → Prop := fun vs H Q => ∃ (l : Addr) (ns : List Int), vs = [.ref l] ∧ SqL K H l (ns.map V.int) ∧ ns.length + 1 < scanBound ∧
  ∀ a c, c ≤ ns.length → H a = none → Q (.ref a) (upd H a (SetO w a (fun j => decide (j ∈ ns)) c))
theorem cr_setI {X : Cx} (hc : X.calm = true) : CallR X (.type "set") (rSetI X.K X.w) := by
  (intro pins s σ H xs us Q I r h)
  obtain ⟨l, ns, rfl, hq, hb, q⟩ := h
  (obtain ⟨u, rfl, ru⟩ := vals1 r)
  obtain rfl : u = Value.ref l := ru
  (obtain ⟨its, rv, pl, hz⟩ := I.list hq)
  have hi := rv.ints
  have hn : its.length = ns.length := by rw [← rv.length, List.length_map]
  have ll : l < s.heap.objs.size := by
    (obtain ⟨o, ho, _⟩ := pl.isList)
    exact Heap.lt_size ho
  have hsz : (s.heap.push (newS X.w)).objs.size = s.heap.objs.size + 1 := Heap.size_push ..
  refine call_setL (Z := fun s' => ∃ h' tk c, s' = { s with heap := h', toks := tk } ∧ SetR X.w h' s.heap.objs.size (fun j => decide (j ∈ ns)) c ∧ c ≤ ns.length ∧ ∀ b o, s.heap.get? b = some o → h'.get? b = some o) pl.isList (fun B R hB k => ?_) ?_
  · have nl : l ≠ (s.heap.push (newS X.w)).objs.size := by
      rw [hsz]
      exact Nat.ne_of_lt (Nat.lt_succ_of_lt ll)
    have hB' : B.in1.handled = none := by simp [hB, I.ok.hd hc]
    have isL : ((s.heap.push (newS X.w)).push (newIt l)).IsList l its.toArray := (pl.isList.push _).push _
    refine set_update_ints ((Walks.list hB' _ l nl its.toArray).toS) s.heap.objs.size ?_ ns (by simpa using hn) hb ?_ (its.toArray.size - 0) 0 _ rfl (Nat.zero_le _) ⟨⟨_, Heap.get?_push_size _ rfl, rfl, rfl⟩, isL⟩ ?_ ?_
    · rw [hsz]
      simp only [List.mem_cons, List.not_mem_nil, or_false, not_or]
      exact ⟨Nat.ne_of_lt (Nat.lt_succ_self _), Nat.ne_of_gt ll⟩
    · intro i v hv
      (have hv' : its[i]? = some v := by simpa using hv)
      have li : i < ns.length := by
        have z := (List.getElem?_eq_some_iff.mp hv').1
        omega
      obtain ⟨t, e⟩ := PyProof.Rows.IntsAre.int_at hi i v hv'
      refine ⟨ns[i], t, List.getElem?_eq_getElem li, ?_⟩
      rw [e]
      simp [li]
    · exact ⟨0, Nat.le_refl 0, setR_new_at (Heap.get?_push_of_some _ (Heap.get?_push_size _ rfl))⟩
    · intro s' c' hm hc' hS'
      (obtain ⟨h', g2, d', tk', os'⟩ := s')
      obtain rfl : g2 = s.gens := hm.gens
      obtain rfl : d' = s.drawn := hm.drawn
      obtain rfl : os' = s.os := hm.os
      refine k _ ⟨h', tk', c', rfl, hS', by simpa [hn] using hc', fun b o e => ?_⟩
      have lb := Heap.lt_size e
      refine hm.heap b o ?_ (Heap.get?_push_of_some _ (Heap.get?_push_of_some _ e))
      rw [hsz]
      simp only [List.mem_cons, List.not_mem_nil, or_false, not_or]
      exact ⟨Nat.ne_of_lt lb, Nat.ne_of_lt (Nat.lt_succ_of_lt lb)⟩
  · rintro s' ⟨h', tk, c, rfl, hR, hcn, kp⟩
    have J : Inv X pins σ (upd H s.heap.objs.size (SetO X.w s.heap.objs.size (fun j => decide (j ∈ ns)) c)) { s with heap := h', toks := tk } := I.laid kp (Nat.le_refl _) (setO_new hR)
    exact ⟨.ref s.heap.objs.size, _, J, rfl, q _ c hcn (I.hok.fresh (Nat.le_refl _))⟩
end Cz

/-! # DbD -/
namespace Cz
open L2 PyProof.Rows PySem.Spec PySem
variable {K : PySem.W.Frag}

/-! ## sorted(set(xs)), xs ints: the set is forgotten behind it -/
def Gone (Q : VK) : VK := fun v H' => ∃ (H1 : Hp) (a : Addr) (φ : Heap → Prop) (p : Addr) (ho : HO), v = .ref p ∧ H1 a = none ∧ p ≠ a ∧ H' = upd (upd H1 a (.ext φ)) p ho ∧ Q (.ref p) (upd H1 p ho)
def tSortSet (K : PySem.W.Frag) (w : World) (ta : TE) : TE := fun σ H Q => (tCB (rSortedSet w) (tCons (tCB (rSetI K w) (tCons ta tNil)) tNil)) σ H (Gone Q)
theorem pe_sortSet {X : Cx} {a : Expr} {ta : TE} {p p2 q pos : Pos} (hc : X.calm = true) (hg : Gl X "sorted") (hm : X.mg "sorted" = none) (hg2 : Gl X "set") (hm2 : X.mg "set" = none) (ha : PE X a ta)
    (n1 : starEach [.Call (.Name "set" p2) [a] [] q] X.env = (false, eval (.Call (.Name "set" p2) [a] [] q) X.env) :: starEach [] X.env := by rfl) (n2 : starEach [a] X.env = (false, eval a X.env) :: starEach [] X.env := by rfl)
    (b1 : (backTo pos (starEach [] X.env)).any (·.1) = false := by rfl) (b2 : (backTo q (starEach [] X.env)).any (·.1) = false := by rfl) :
    PE X (.Call (.Name "sorted" p) [.Call (.Name "set" p2) [a] [] q] [] pos) (tSortSet X.K X.w ta) := by
  have inner := pe_callTy (p := p2) (pos := q) (cr_setI hc) hg2 hm2 PyProof.Rows.boot_set (pa_cons ha pa_nil n2) (by decide) (by decide) n2 b2
  have whole := pe_callB (p := p) (pos := pos) (cr_sortedSet hc) hg hm boot_sorted (pa_cons inner pa_nil n1) (by decide) (by decide) n1 b1
  refine ⟨fun pins s σ H Q I h => wpAny_mono (whole.run pins s σ H (Gone Q) I h) ?_ (fun _ _ z => z)⟩
  rintro u s' ⟨v, H', J, rv, H1, a, φ, p, ho, rfl, n1, np, rfl, q⟩
  have e : upd (upd H1 a (.ext φ)) p ho a = some (.ext φ) := by rw [upd_ne (Ne.symm np), upd_same]
  have J2 := ItX.inv_drop J e
  have e2 : ItX.dropH (upd (upd H1 a (.ext φ)) p ho) a = upd H1 p ho := by
    funext b
    by_cases hb : b = a
    · subst hb
      rw [ItX.dropH_same, upd_ne (Ne.symm np), n1]
    · rw [ItX.dropH_ne hb]
      unfold upd
      rw [if_neg hb]
  rw [e2] at J2
  exact ⟨.ref p, _, J2, rv, q⟩
/-- the ints once each, ascending -/
def insI (k : Int) : List Int → List Int
  | [] => [k]
  | x :: l => if k < x then k :: x :: l else if k = x then x :: l else x :: insI k l
def ascI (ns : List Int) : List Int := ns.foldr insI []
theorem insI_mem {k j : Int} : ∀ {l : List Int}, j ∈ insI k l ↔ j = k ∨ j ∈ l
  | [] => by simp [insI]
  | x :: l => by
    unfold insI
    split
    · simp
    · split
      · rename_i h
        subst h
        simp
      · rw [List.mem_cons, insI_mem, List.mem_cons]
        exact or_left_comm
theorem insI_lt {k : Int} : ∀ {l : List Int}, l.Pairwise (· < ·) → (insI k l).Pairwise (· < ·)
  | [], _ => by simp [insI]
  | x :: l, h => by
    (obtain ⟨h1, h2⟩ := List.pairwise_cons.mp h)
    unfold insI
    split
    · rename_i c
      refine List.pairwise_cons.mpr ⟨fun y hy => ?_, h⟩
      rcases List.mem_cons.mp hy with e | m
      · omega
      · have := h1 y m
        omega
    · split
      · exact h
      · refine List.pairwise_cons.mpr ⟨fun y hy => ?_, insI_lt h2⟩
        rcases insI_mem.mp hy with e | m
        · omega
        · exact h1 y m
theorem ascI_mem {k : Int} : ∀ {ns : List Int}, k ∈ ascI ns ↔ k ∈ ns
  | [] => Iff.rfl
  | n :: ns => by
    show k ∈ insI n (ascI ns) ↔ _
    rw [insI_mem, ascI_mem, List.mem_cons]
theorem ascI_lt : ∀ ns : List Int, (ascI ns).Pairwise (· < ·)
  | [] => List.Pairwise.nil
  | n :: ns => insI_lt (ascI_lt ns)
theorem asc_unique : ∀ {xs ys : List Int}, xs.Pairwise (· < ·) → ys.Pairwise (· < ·) → (∀ k, k ∈ xs ↔ k ∈ ys) → xs = ys
  | [], [], _, _, _ => rfl
  | [], y :: ys, _, _, h => by cases (h y).mpr List.mem_cons_self
  | x :: xs, [], _, _, h => by cases (h x).mp List.mem_cons_self
  | x :: xs, y :: ys, h1, h2, h => by
    obtain ⟨a1, a2⟩ := List.pairwise_cons.mp h1
    obtain ⟨b1, b2⟩ := List.pairwise_cons.mp h2
    have e : x = y := by
      rcases List.mem_cons.mp ((h x).mp List.mem_cons_self) with e | m1
      · exact e
      rcases List.mem_cons.mp ((h y).mpr List.mem_cons_self) with e | m2
      · exact e.symm
      have := a1 y m2
      have := b1 x m1
      omega
    subst e
    rw [asc_unique a2 b2 fun k => ?_]
    constructor
    · intro m
      rcases List.mem_cons.mp ((h k).mp (List.mem_cons_of_mem _ m)) with e | m2
      · have := a1 k m
        omega
      · exact m2
    · intro m
      rcases List.mem_cons.mp ((h k).mpr (List.mem_cons_of_mem _ m)) with e | m2
      · have := b1 k m
        omega
      · exact m2
def intsL : List D → Option (List Int)
  | [] => some []
  | .int i :: r => (intsL r).map (i :: ·)
  | _ :: _ => none
theorem intsL_eq : ∀ {l : List D} {ns : List Int}, intsL l = some ns → l = ns.map D.int
  | [], _, e => by cases e; rfl
  | d :: r, ns, e => by
    cases d with
    | int i =>
      obtain ⟨m, e1, rfl⟩ := Option.map_eq_some_iff.mp (show (intsL r).map (i :: ·) = some ns from e)
      rw [List.map_cons, intsL_eq e1]
    | _ => cases e
theorem intsL_map (ns : List Int) : intsL (ns.map D.int) = some ns := by
  induction ns with
  | nil => rfl
  | cons i r ih =>
    show (intsL (r.map D.int)).map (i :: ·) = _
    rw [ih]
    rfl
theorem rpl_ints {F : Hp} : ∀ {ns : List Int} {xs : List V}, RpL K F (ns.map D.int) xs → xs = ns.map V.int
  | [], _, .nil => rfl
  | i :: r, _, .cons h rr => by
    cases h
    rw [List.map_cons, rpl_ints rr]
def sortSetD : D → Option Rv
  | .lst l => (intsL l).bind fun ns => if ns.length < 60 then some (.o (.lst ((ascI ns).map .int))) else none
  | _ => none
theorem ev_sortSet {W : WX} {w : World} {ta : TE} {ma : M Rv} (ha : EvX K W ta ma) : EvX K W (tSortSet K w ta) (mUn sortSetD ma) := by
  intro F H σ s Q rs wn
  refine ha.step (Go.refl rs) wn fun r1 s1 v1 F1 H1 g1 _ h1 w1 => ?_
  obtain ⟨x, ex, w2⟩ := opt_wn w1
  have hp := pk_ok g1.rs h1 ex
  have ou := out_ok g1 w2
  cases x with
  | lst l =>
    unfold sortSetD at ou
    have ou1 : OutOk K F1 H1 Q ((intsL l).bind fun ns => if ns.length < 60 then some (.o (.lst ((ascI ns).map .int))) else none) := ou
    cases e : intsL l with
    | none =>
      rw [e] at ou1
      exact ou1.elim
    | some ns =>
      rw [e] at ou1
      have ou2 : OutOk K F1 H1 Q (if ns.length < 60 then some (.o (.lst ((ascI ns).map .int))) else none) := ou1
      split at ou2
      · rename_i hl
        have el := intsL_eq e
        subst el
        obtain ⟨a, xs, rfl, h2, rl⟩ : ∃ a xs, v1 = .ref a ∧ SqL K H1 a xs ∧ RpL K F1 (ns.map D.int) xs := by
          obtain ⟨a, xs, e1, rl, ⟨h2, _⟩ | ⟨h2, e2⟩⟩ := RpP.seq g1.rs.sub hp rfl
          · exact ⟨a, xs, e1, h2, rl⟩
          · cases e2
        have ex2 := rpl_ints rl
        subst ex2
        refine ⟨a, ns, rfl, h2, ?_, fun b c hc hb => ?_⟩
        · show ns.length + 1 < scanBound
          unfold scanBound
          omega
        · refine ⟨b, _, c, rfl, upd_same, by omega, fun ms p m1 m2 m3 m4 => ?_⟩
          have np : p ≠ b := fun z => by
            rw [z, upd_same] at m4
            cases m4
          rw [upd_ne np] at m4
          have em : ms = ascI ns := asc_unique m1 (ascI_lt ns) fun k => by rw [m2 k, ascI_mem]; exact decide_eq_true_iff
          subst em
          exact ⟨H1, b, _, p, _, rfl, hb, np, rfl, outL g1.rs.sub ou2 (rpI _) p m4⟩
      · exact ou2.elim
  | _ => exact ou.elim
end Cz

/-! # DbE -/
namespace Cz
open L2 PyProof.Rows PySem.Spec PySem
variable {K : PySem.W.Frag}
/-! ## x, y = (a, b) with plain local names -/
def stV (i : Nat) (r : Rv) (s : SS) : Option SS := if free s i then match r with
  | .d d => some (s.set i (some (.fz d)))
  | .o o => some (s.set i (some (.ow o)))
  | .b _ => none
  else none
theorem stV_ok {F0 H0 F H : Hp} {σ0 σ : L2.St} {s0 s s' : SS} {i : Nat} {r : Rv} {v : V} (g : Go K F0 H0 σ0 s0 F H σ s) (h : RpR K H0 F H σ s r v) (e : stV i r s = some s') :
    Go K F0 H0 σ0 s0 F H (σ.set i (some v)) s' := by
  unfold stV at e
  split at e
  · rename_i hf
    cases r with
    | d d => cases e; exact g.setD hf h
    | o o => cases e; exact g.setO hf h
    | b k => cases e
  · cases e
/-- what another store leaves -/
theorem stV_keep {F H1 H2 : Hp} {σ : L2.St} {s s' : SS} {i : Nat} {r r2 : Rv} {v v2 : V} (e : stV i r s = some s') (hr : ∀ o, r = .o o → ∃ p, v = .ref p ∧ H1 p ≠ none) (nb : ∀ k, r2 ≠ .b k) (h : RpR K H1 F H2 σ s r2 v2) : RpR K H1 F H2 (σ.set i (some v)) s' r2 v2 := by
  cases r2 with
  | d d => exact h
  | b k => exact absurd rfl (nb k)
  | o o2 =>
    obtain ⟨p2, ho, rfl, e1, e2, e3, e4, e5⟩ := h
    refine ⟨p2, ho, rfl, e1, e2, e3, e4, ?_⟩
    rintro ⟨k, sv, u, q1, q2, q3⟩
    unfold stV at e
    split at e
    · rename_i hf
      have il := (free_lt hf).1
      by_cases nk : k = i
      · subst nk
        have hv : v = .ref p2 := by
          by_cases l2 : k < σ.length
          · rw [List.getElem?_set_self l2] at q3
            exact Option.some.inj (Option.some.inj q3)
          · rw [List.getElem?_eq_none (by rw [List.length_set]; omega)] at q3
            cases q3
        cases r with
        | d d =>
          cases e
          rw [List.getElem?_set_self il] at q1
          cases q1
          cases q2
        | o o =>
          obtain ⟨p, hp, hn⟩ := hr o rfl
          rw [hv] at hp
          cases hp
          exact hn e4
        | b k => cases e
      · have q1' : s[k]? = some (some sv) := by
          cases r with
          | d d =>
            cases e
            rw [get_set_ne (Ne.symm nk)] at q1
            exact q1
          | o o =>
            cases e
            rw [get_set_ne (Ne.symm nk)] at q1
            exact q1
          | b k => cases e
        rw [get_set_ne (Ne.symm nk)] at q3
        exact e5 ⟨k, sv, u, q1', q2, q3⟩
    · cases e
def mPar (i j : Nat) (ma mb : M Rv) : MS := fun s => (ma s).out fun r1 s1 => (mb s1).out fun r2 s2 => optO (stV i r1 s2) fun s3 => optO (stV j r2 s3) fun s4 => .nx s4
theorem es_par {W : WX} {i j : Nat} {ta tb : TE} {ma mb : M Rv} (ha : EvX K W ta ma) (hb : EvX K W tb mb) : EvS K W (tPar i j (tCons ta (tCons tb tNil))) (mPar i j ma mb) := by
  intro F H σ s D rs w
  refine ha.stepS rs w fun r1 s1 v1 F1 H1 g1 h1 w1 => ?_
  refine hb.stepS2 g1 w1 fun r2 s2 v2 F2 H2 g2 g12 h2 w2 => ?_
  obtain ⟨s3, e3, w3⟩ := optO_wn w2
  obtain ⟨s4, e4, w4⟩ := optO_wn w3
  have h1' := h1.go g12
  have g3 := stV_ok g2 h1' e3
  have nb : ∀ k, r2 ≠ .b k := fun k z => by
    subst z
    unfold stV at e4
    split at e4 <;> cases e4
  have k2 := stV_keep (v := v1) e3 (fun o z => by
    subst z
    obtain ⟨p, ho, rfl, _, q, _⟩ := h1
    exact ⟨p, rfl, by rw [q]; exact fun z => nomatch z⟩) nb h2
  exact ⟨v1, v2, rfl, w4 _ F2 H2 (stV_ok g3 (k2.back g1.dm) e4)⟩
/-! ## min, max of a tuple of ints -/
theorem fold_min : ∀ (ns : List Int) (n : Int), ns.foldl min n = least n ns
  | [], n => rfl
  | m :: r, n => by
    rw [List.foldl_cons, fold_min r]
    show least (min n m) r = least (if m < n then m else n) r
    congr 1
    split <;> omega
theorem fold_max : ∀ (ns : List Int) (n : Int), ns.foldl max n = most n ns
  | [], n => rfl
  | m :: r, n => by
    rw [List.foldl_cons, fold_max r]
    show most (max n m) r = most (if m > n then m else n) r
    congr 1
    split <;> omega
theorem alikeAll_ints (ns : List Int) : PySem.W.AlikeAll (ns.map .int) := by
  refine ⟨fun x hx y hy => ?_, fun x hx => ?_⟩
  · obtain ⟨i, _, rfl⟩ := List.mem_map.mp hx
    obtain ⟨j, _, rfl⟩ := List.mem_map.mp hy
    simp only [PySem.W.alike]
  · obtain ⟨i, _, rfl⟩ := List.mem_map.mp hx
    exact fun z => nomatch z
theorem dep_ints : ∀ ns : List Int, PyData.depthAll (ns.map .int) = 0
  | [] => rfl
  | n :: r => by
    rw [List.map_cons, PyData.depthAll, dep_ints r]
    rfl
def rMinT (K : PySem.W.Frag) : List V → Hp → VK → Prop := fun vs H Q => ∃ (a : Addr) (n : Int) (ns : List Int), vs = [.ref a] ∧ SqT K H a ((n :: ns).map V.int) ∧ Q (.int (least n ns)) H
def rMaxT (K : PySem.W.Frag) : List V → Hp → VK → Prop := fun vs H Q => ∃ (a : Addr) (n : Int) (ns : List Int), vs = [.ref a] ∧ SqT K H a ((n :: ns).map V.int) ∧ Q (.int (most n ns)) H
theorem dpAll_ints {H : Hp} : ∀ ns : List Int, DpAll K H (ns.map V.int) (ns.map PyData.int)
  | [] => .nil
  | n :: r => .cons (.int n) (dpAll_ints r)
theorem cr_minT {X : Cx} (hc : X.calm = true) (hu : X.A.units + 1 < cLine) : CallR X (.builtin "min") (rMinT X.K) := by
  (intro pins s σ H vs us Q I r h)
  obtain ⟨a, n, ns, rfl, hs, q⟩ := h
  (obtain ⟨its, rv, pl, hz⟩ := I.tuple hs)
  rw [Vals.ref1 r]
  obtain ⟨as, ra⟩ := Dp.readsAll I ((n :: ns).map PyData.int) _ _ (dpAll_ints (n :: ns)) rv
  refine PySem.W.min_tuple_data (x := .int n) (xs := ns.map PyData.int) (I.ok.hd hc) pl (by simpa using ra) (alikeAll_ints (n :: ns)) ?_ fun i v h' tk bs hv hr hk => ?_
  · have e : PyData.depthAll (.int n :: ns.map PyData.int) = 0 := dep_ints (n :: ns)
    rw [e]
    exact hu
  · rw [PySem.W.minD_ints, fold_min] at hr
    cases hr
    exact ⟨.int _, H, I.kept hk, ⟨_, rfl⟩, q⟩
theorem cr_maxT {X : Cx} (hc : X.calm = true) (hu : X.A.units + 1 < cLine) : CallR X (.builtin "max") (rMaxT X.K) := by
  (intro pins s σ H vs us Q I r h)
  obtain ⟨a, n, ns, rfl, hs, q⟩ := h
  (obtain ⟨its, rv, pl, hz⟩ := I.tuple hs)
  rw [Vals.ref1 r]
  obtain ⟨as, ra⟩ := Dp.readsAll I ((n :: ns).map PyData.int) _ _ (dpAll_ints (n :: ns)) rv
  refine PySem.W.max_tuple_data (x := .int n) (xs := ns.map PyData.int) (I.ok.hd hc) pl (by simpa using ra) (alikeAll_ints (n :: ns)) ?_ fun i v h' tk bs hv hr hk => ?_
  · have e : PyData.depthAll (.int n :: ns.map PyData.int) = 0 := dep_ints (n :: ns)
    rw [e]
    exact hu
  · rw [PySem.W.maxD_ints, fold_max] at hr
    cases hr
    exact ⟨.int _, H, I.kept hk, ⟨_, rfl⟩, q⟩
def minTD (d : D) : Option Rv := (tupL d).bind fun l => (intsD l).bind fun ns => match ns with
  | [] => none
  | n :: r => some (.d (.int (least n r)))
def maxTD (d : D) : Option Rv := (tupL d).bind fun l => (intsD l).bind fun ns => match ns with
  | [] => none
  | n :: r => some (.d (.int (most n r)))
theorem RpP.tupT {F H : Hp} {d : D} {v : V} {l : List D} (s : Sub F H) (h : RpP K F H d v) (e : tupL d = some l) : ∃ a xs, v = .ref a ∧ SqT K H a xs ∧ RpL K F l xs := by
  have h2 : Rp K F d v := by
    cases d with
    | tup m => exact h
    | tuk m => exact h
    | _ => cases e
  obtain ⟨a, xs, rfl, hs, hl⟩ := h2.sqt e
  exact ⟨a, xs, rfl, s.t hs, hl⟩
theorem c1_minT : Op1 K (fun x H Q => rMinT K [x] H Q) minTD := by
  intro F H x dx Q s hx ho
  unfold minTD at ho
  cases e : tupL dx with
  | none => rw [e] at ho; exact ho.elim
  | some l =>
    cases e2 : intsD l with
    | none => rw [e, Option.bind_some, e2] at ho; exact ho.elim
    | some ns =>
      rw [e, Option.bind_some, e2, Option.bind_some] at ho
      obtain ⟨a, xs, rfl, h, r⟩ := RpP.tupT s hx e
      obtain ⟨rfl, _⟩ := ints_ok r e2
      cases ns with
      | nil => exact ho.elim
      | cons n r' => exact ⟨a, n, r', rfl, h, outD s ho (.int _)⟩
theorem c1_maxT : Op1 K (fun x H Q => rMaxT K [x] H Q) maxTD := by
  intro F H x dx Q s hx ho
  unfold maxTD at ho
  cases e : tupL dx with
  | none => rw [e] at ho; exact ho.elim
  | some l =>
    cases e2 : intsD l with
    | none => rw [e, Option.bind_some, e2] at ho; exact ho.elim
    | some ns =>
      rw [e, Option.bind_some, e2, Option.bind_some] at ho
      obtain ⟨a, xs, rfl, h, r⟩ := RpP.tupT s hx e
      obtain ⟨rfl, _⟩ := ints_ok r e2
      cases ns with
      | nil => exact ho.elim
      | cons n r' => exact ⟨a, n, r', rfl, h, outD s ho (.int _)⟩
/-! ## tuple(range(n)) -/
def rgD (n : Int) : List D := (List.range n.toNat).map fun (i : Nat) => D.int i
def mTupRg (me : M Rv) : M Rv := fun s => (me s).bind fun r s1 => opt ((pk r s1).bind intOf) fun n => if 0 ≤ n ∧ n ≤ 16777216 then .ok (.d (.tup (rgD n))) s1 else .no
theorem rp_rg {F : Hp} (n : Int) : RpL K F (rgD n) (rgV 0 n) := by
  unfold rgD rgV
  rw [Int.sub_zero]
  generalize List.range n.toNat = l
  induction l with
  | nil => exact .nil
  | cons i r ih =>
    rw [List.map_cons, List.map_cons, Int.zero_add]
    exact .cons (.int _) ih
theorem ev_tupRg {W : WX} {te : TE} {me : M Rv} (h : EvX K W te me) : EvX K W (tTupRg (tRg1 te)) (mTupRg me) := by
  intro F H σ s Q rs w
  refine h.step (Go.refl rs) w fun r s1 v F1 H1 g1 _ h1 w1 => ?_
  obtain ⟨n, en, w2⟩ := opt_wn w1
  have hv := intOf_ok g1.rs h1 en
  subst hv
  split at w2
  · rename_i hn
    refine ⟨n, rfl, RgOk.of_le (by decide) hn.2 (by decide) hn.1, fun q hq => ?_⟩
    have al := Al.new (ho := HO.tup (rgV 0 n)) g1.rs.sub hq
    exact w2 _ _ _ (g1.al al) (Rp.tup upd_same ((rp_rg n).mono al.f))
  · exact w2.elim
section
variable {X : Cx} {W : WX} {a b c e o : Expr} {es : List Expr} {pos p1 p2 p3 : Pos} {ta tb tc te to : TE} {ma mb mc me mo : M Rv} {t : TA} {m : M (List Rv)} {k n : Nat}
theorem c_minT (hc : X.calm = true) (hr : Room k X.A) (hg : Gl X "min") (hm : X.mg "min" = none) (hK : X.K = K := by rfl) (ha : CE X K W e te me) (he : starEach (e :: []) X.env = (false, eval e X.env) :: starEach [] X.env := by rfl) (hpl : (backTo pos (starEach [] X.env)).any (·.1) = false := by rfl) :
    CE X K W (.Call (.Name "min" p1) [e] [] pos) (tCB (rMinT K) (tCons te tNil)) (mCB1 minTD me) := by subst hK; exact c_cb1 (cr_minT hc (hu1 hr)) c1_minT hg hm boot_min ha (by decide) (by decide) he hpl
theorem c_maxT (hc : X.calm = true) (hr : Room k X.A) (hg : Gl X "max") (hm : X.mg "max" = none) (hK : X.K = K := by rfl) (ha : CE X K W e te me) (he : starEach (e :: []) X.env = (false, eval e X.env) :: starEach [] X.env := by rfl) (hpl : (backTo pos (starEach [] X.env)).any (·.1) = false := by rfl) :
    CE X K W (.Call (.Name "max" p1) [e] [] pos) (tCB (rMaxT K) (tCons te tNil)) (mCB1 maxTD me) := by subst hK; exact c_cb1 (cr_maxT hc (hu1 hr)) c1_maxT hg hm boot_max ha (by decide) (by decide) he hpl
theorem c_tupRg (hc : X.calm = true) (hg : Gl X "tuple") (hm : X.mg "tuple" = none) (hg2 : Gl X "range") (hm2 : X.mg "range" = none) (ha : CE X K W e te me) (na : starEach [e] X.env = (false, eval e X.env) :: starEach [] X.env := by rfl)
    (nb : starEach [.Call (.Name "range" p2) [e] [] p3] X.env = (false, eval (.Call (.Name "range" p2) [e] [] p3) X.env) :: starEach [] X.env := by rfl) :
    CE X K W (.Call (.Name "tuple" p1) [.Call (.Name "range" p2) [e] [] p3] [] pos) (tTupRg (tRg1 te)) (mTupRg me) := ⟨pe_tupRg hc hg hm (prg_1 hg2 hm2 ha.p na) nb, ev_tupRg ha.v⟩
theorem c_sortSet (hc : X.calm = true) (hg : Gl X "sorted") (hm : X.mg "sorted" = none) (hg2 : Gl X "set") (hm2 : X.mg "set" = none) (hK : X.K = K := by rfl) (ha : CE X K W a ta ma)
    (n1 : starEach [.Call (.Name "set" p2) [a] [] p3] X.env = (false, eval (.Call (.Name "set" p2) [a] [] p3) X.env) :: starEach [] X.env := by rfl) (n2 : starEach [a] X.env = (false, eval a X.env) :: starEach [] X.env := by rfl)
    (b1 : (backTo pos (starEach [] X.env)).any (·.1) = false := by rfl) (b2 : (backTo p3 (starEach [] X.env)).any (·.1) = false := by rfl) :
    CE X K W (.Call (.Name "sorted" p1) [.Call (.Name "set" p2) [a] [] p3] [] pos) (tSortSet K X.w ta) (mUn sortSetD ma) := by subst hK; exact ⟨pe_sortSet hc hg hm hg2 hm2 ha.p n1 n2 b1 b2, ev_sortSet ha.v⟩
theorem c_ltlt (ha : CE X K W a ta ma) (hb : CE X K W b tb mb) (hc : CE X K W c tc mc) (hm : lastMarks [.Lt, .Lt] [b, c] = false := by with_unfolding_all rfl) :
    CE X K W (.Compare a [.Lt, .Lt] [b, c] pos) (tChain (rCmpA (fun i j => decide (i < j)) sLt) (rCmpA (fun i j => decide (i < j)) sLt) ta tb tc) (mChain ltD ltD ma mb mc) := c_chain op_ltA op_ltA o2_cmp o2_cmp ha hb hc hm
theorem t_ltlt (ha : CE X K W a ta ma) (hb : CE X K W b tb mb) (hc : CE X K W c tc mc) (hm : lastMarks [.Lt, .Lt] [b, c] = false := by with_unfolding_all rfl) :
    CT X K W (.Compare a [.Lt, .Lt] [b, c] pos) (tTest (tChain (rCmpA (fun i j => decide (i < j)) sLt) (rCmpA (fun i j => decide (i < j)) sLt) ta tb tc)) (mTr blD (mChain ltD ltD ma mb mc)) := t_chain op_ltA op_ltA o2_cmp o2_cmp ha hb hc hm
/-- a call with a star among its arguments -/
theorem c_callS {kk : Nat} {x : Str} {g : Addr} {fd : FuncData} {ps : List Str} {f : MF} (F : FnOk X.prog X.w X.K X.mg X.base CX0 kk g fd ps (spM K f)) (hr : Room kk X.A) (hg : Gl X x) (hm : X.mg x = some (.ref g)) (hk : PySem.W.keepIn X.K (.ref g) = true) (hb : Binds X.K fd ps [])
    (ha : CA X K W (e :: es) t m) (hdb : (x == ("__debug__" : Str)) = false := by decide) (he : starEach (e :: es) X.env = (false, eval e X.env) :: starEach es X.env := by rfl) (hst : (backTo pos (starEach es X.env)).any (·.1) = true := by rfl) :
    CE X K W (.Call (.Name x p1) (e :: es) [] pos) (tCall (spM K f) [] (fun _ _ _ => False) t) (mCall f [] m) := by
  refine ⟨?_, ev_call (fun _ => .nil) ha.v⟩
  have z := StX.pe_callS2 (p := p1) (pos := pos) (E := fun _ _ _ => False) (F.raw hb .nil) hr hk hg hm (fun _ _ _ _ _ _ _ h => h.elim) ha.p hdb he hst
  exact z
theorem s_par {i j : Nat} {x y : Str} {px py pt pt2 : Pos} {kt k2 : Nat} (hc : X.calm = true) (hN : X.N.Nodup) (hi : X.N[i]? = some x) (hj : X.N[j]? = some y) (hij : i ≠ j)
    (hx : X.env.scope.names.lookup x = some .local) (hy : X.env.scope.names.lookup y = some .local) (ha : CE X K W a ta ma) (hb : CE X K W b tb mb)
    (hw : swappedStores [.Tuple [.Name x px, .Name y py] kt pt] (.Tuple [a, b] k2 pt2) X.env = pure (some [x, y]) := by rfl)
    (hs : swapsWithSole [.Tuple [.Name x px, .Name y py] kt pt] (.Tuple [a, b] k2 pt2) pos.line X.env = pure false := by rfl)
    (s1 : starEach [a, b] X.env = (false, eval a X.env) :: starEach [b] X.env := by rfl) (s2 : starEach [b] X.env = (false, eval b X.env) :: starEach [] X.env := by rfl) :
    CS X K W (.Assign [.Tuple [.Name x px, .Name y py] kt pt] (.Tuple [a, b] k2 pt2) pos) (tPar i j (tCons ta (tCons tb tNil))) (mPar i j ma mb) := ⟨ps_par hc hN hi hj hij hx hy (pa_cons ha.p (pa_cons hb.p pa_nil s2) s1) hw hs, es_par ha.v hb.v⟩
/-- x.pop() and the like: no arguments -/
theorem c_lm0 (i : Nat) {x name : Str} {id : String} {r : V → List V → Hp → VK → Prop} {f : List D → List D → Option (D × List D)} (slot : Slot "list" name id) (hty : typeOf (.builtin id) = pure (.type "method_descriptor")) (hm : MtR X id r) (hr : LmOk K r f) (hN : X.N[i]? = some x) (hv : Vis X.env.scope x) (hK : X.K = K := by rfl)
    (hbase : attributeBase (.Name x p2) name X.env (eval (.Name x p2) X.env) = eval (.Name x p2) X.env := by rfl) (hline : (p1.endLine == pos.line) = true := by rfl) (hd : (x == ("__debug__" : Str)) = false := by decide) (hcd : (x == ("__classdict__" : Str)) = false := by decide) :
    CE X K W (.Call (.Attribute (.Name x p2) name p1) [] [] pos) (tBM K "list" r (tVar i) tNil) (mLm i f mANil) := by subst hK; exact ⟨pe_bm0 PySem.F.plainAttrs_list slot hty hm (pe_var hN hv hd hcd) hbase hline, ev_lm hr ea_nil⟩
theorem boot_iterB : bootBuiltins "iter" = some (.builtin "iter") := by decide +kernel
end
end Cz

/-! # CzT -/
namespace Cz
open L2 PyProof.Rows PySem.Spec PySem

/-! ## what a mirror gives, told by wishes -/
@[irreducible] def Ok1 {α : Type} (r : R α) (Q : α → SS → Prop) : Prop := match r with
  | .ok a s => Q a s
  | _ => False
theorem Ok1.ok {α : Type} {a : α} {s : SS} {Q : α → SS → Prop} : Ok1 (.ok a s) Q ↔ Q a s := by
  unfold Ok1
  exact Iff.rfl
theorem Ok1.no {α : Type} {Q : α → SS → Prop} : Ok1 (.no) Q ↔ False := by
  unfold Ok1
  exact Iff.rfl
theorem Ok1.ex {α : Type} {c : Nat} {l : List (Str × D)} {s : SS} {Q : α → SS → Prop} : Ok1 (.ex c l s) Q ↔ False := by
  unfold Ok1
  exact Iff.rfl
def isOk {α : Type} : R α → Bool
  | .ok _ _ => true
  | _ => false
theorem Ok1.elim {α : Type} {r : R α} {Q : α → SS → Prop} {P : Prop} (h : Ok1 r Q) (e : isOk r = false := by rfl) : P := by
  unfold Ok1 at h
  exact False.elim (by cases r <;> first | exact h | cases e)
theorem Ok1.bind {α β : Type} {r : R α} {f : α → SS → R β} {Q : β → SS → Prop} : Ok1 (r.bind f) Q ↔ Ok1 r fun a s => Ok1 (f a s) Q := by
  unfold Ok1
  cases r <;> exact Iff.rfl
theorem Ok1.mono {α : Type} {r : R α} {Q Q' : α → SS → Prop} (h : Ok1 r Q) (k : ∀ a s, Q a s → Q' a s) : Ok1 r Q' := by
  unfold Ok1 at *
  cases r with
  | ok a s => exact k _ _ h
  | ex c l s => exact h.elim
  | no => exact h.elim
theorem Ok1.opt {α β : Type} {o : Option α} {f : α → R β} {Q : β → SS → Prop} : Ok1 (opt o f) Q ↔ ∃ a, o = some a ∧ Ok1 (f a) Q := by
  unfold Ok1
  cases o with
  | none => exact ⟨fun h => h.elim, fun ⟨_, h, _⟩ => by cases h⟩
  | some a => exact ⟨fun h => ⟨a, rfl, h⟩, fun ⟨_, h, q⟩ => by cases h; exact q⟩
theorem Ok1.noX {α : Type} {r : R α} {Q : α → SS → Prop} : Ok1 (noX r) Q ↔ Ok1 r Q := by
  unfold Ok1
  cases r <;> exact Iff.rfl
theorem Ok1.noEx {r : R Rv} {Q : Rv → SS → Prop} : Ok1 (noEx r) Q ↔ Ok1 r Q := by
  unfold Ok1
  cases r <;> exact Iff.rfl
theorem Ok1.ite {α : Type} {c : Prop} [Decidable c] {a b : R α} {Q : α → SS → Prop} : Ok1 (if c then a else b) Q ↔ if c then Ok1 a Q else Ok1 b Q := by
  split <;> exact Iff.rfl
/-- what a def gives: the value, and its parameters behind it -/
def OkF (f : MF) (as : List SV) (Q : Rv → List SV → Prop) : Prop := Ok1 (f as) fun r s => ∃ as', svs s = some as' ∧ (∀ i, r ≠ .b i) ∧ Q r as'
theorem OkF.mono {f : MF} {as : List SV} {Q Q' : Rv → List SV → Prop} (h : OkF f as Q) (k : ∀ r as', Q r as' → Q' r as') : OkF f as Q' :=
  Ok1.mono h fun r s ⟨as', h1, h2, h3⟩ => ⟨as', h1, h2, k _ _ h3⟩
theorem Ok1.call {f : MF} {rs : List Rv} {s : SS} {Q : Rv → SS → Prop} {as : List SV} {P : Rv → List SV → Prop} (ha : argS s rs = some as) (hn : (refs rs).Nodup) (h : OkF f as P) (k : ∀ r as', P r as' → ∃ s', backS s rs as' = some s' ∧ Q r s') : Ok1 (Cz.noEx (callS f rs s)) Q := by
  rw [Ok1.noEx]
  unfold callS
  rw [ha]
  show Ok1 (if (refs rs).Nodup then _ else _) Q
  rw [if_pos hn]
  unfold OkF at h
  unfold Ok1 at *
  cases e : f as with
  | ok r s2 =>
    rw [e] at h
    obtain ⟨as', h1, h2, h3⟩ := h
    obtain ⟨s', h4, h5⟩ := k r as' h3
    dsimp only
    rw [h1]
    dsimp only [Cz.opt]
    rw [h4]
    cases r with
    | d d => exact h5
    | o o => exact h5
    | b i => exact absurd rfl (h2 i)
  | ex c l s2 => rw [e] at h; exact h.elim
  | no => rw [e] at h; exact h.elim
/-- statements: on, out with a value, broken off, on with the next -/
@[irreducible] def Oo (o : Out) (N : SS → Prop) (T : Rv → SS → Prop) (B C : SS → Prop) : Prop := match o with
  | .nx s => N s
  | .rt r s => T r s
  | .bk s => B s
  | .ct s => C s
  | _ => False
def isOo : Out → Bool
  | .ex _ _ _ => false
  | .no => false
  | _ => true
theorem Oo.elim {o : Out} {N : SS → Prop} {T : Rv → SS → Prop} {B C : SS → Prop} {P : Prop} (h : Oo o N T B C) (e : isOo o = false := by rfl) : P := by
  unfold Oo at h
  exact False.elim (by cases o <;> first | exact h | cases e)
section
variable {N : SS → Prop} {T : Rv → SS → Prop} {B C : SS → Prop} {s : SS}
theorem Oo.nx : Oo (.nx s) N T B C ↔ N s := by
  unfold Oo
  exact Iff.rfl
theorem Oo.rt {r : Rv} : Oo (.rt r s) N T B C ↔ T r s := by
  unfold Oo
  exact Iff.rfl
theorem Oo.bk : Oo (.bk s) N T B C ↔ B s := by
  unfold Oo
  exact Iff.rfl
theorem Oo.ct : Oo (.ct s) N T B C ↔ C s := by
  unfold Oo
  exact Iff.rfl
theorem Oo.no : Oo .no N T B C ↔ False := by
  unfold Oo
  exact Iff.rfl
theorem Oo.seq {a b : MS} : Oo (mSeq a b s) N T B C ↔ Oo (a s) (fun s => Oo (b s) N T B C) T B C := by
  unfold mSeq Oo
  cases a s <;> exact Iff.rfl
theorem Oo.out {α : Type} {r : R α} {f : α → SS → Out} : Oo (r.out f) N T B C ↔ Ok1 r fun a s => Oo (f a s) N T B C := by
  unfold Ok1 Oo
  cases r <;> exact Iff.rfl
theorem Oo.ite {c : Prop} [Decidable c] {a b : Out} : Oo (if c then a else b) N T B C ↔ if c then Oo a N T B C else Oo b N T B C := by
  split <;> exact Iff.rfl
theorem Oo.opt {α : Type} {o : Option α} {f : α → Out} : Oo (optO o f) N T B C ↔ ∃ a, o = some a ∧ Oo (f a) N T B C := by
  unfold Oo
  cases o with
  | none => exact ⟨fun h => h.elim, fun ⟨_, h, _⟩ => by cases h⟩
  | some a => exact ⟨fun h => ⟨a, rfl, h⟩, fun ⟨_, h, q⟩ => by cases h; exact q⟩
theorem Oo.mono {o : Out} {N' : SS → Prop} {T' : Rv → SS → Prop} {B' C' : SS → Prop} (h : Oo o N T B C) (h1 : ∀ s, N s → N' s) (h2 : ∀ r s, T r s → T' r s) (h3 : ∀ s, B s → B' s) (h4 : ∀ s, C s → C' s) : Oo o N' T' B' C' := by
  unfold Oo at *
  cases o with
  | nx s => exact h1 _ h
  | rt r s => exact h2 _ _ h
  | bk s => exact h3 _ h
  | ct s => exact h4 _ h
  | ex c l s => exact h.elim
  | no => exact h.elim
/-- a loop by an invariant over what is left -/
theorem Oo.loop {f : MG} {b : MS} (I : List D → SS → Prop) (h0 : ∀ s, I [] s → N s) (h1 : ∀ d ds s, I (d :: ds) s → ∃ s1, f d s = some s1 ∧ Oo (b s1) (I ds) T N (I ds)) : ∀ (ds : List D) (s : SS), I ds s → Oo (loop f b ds s) N T B C
  | [], s, h => Oo.nx.mpr (h0 s h)
  | d :: ds, s, h => by
    obtain ⟨s1, e, q⟩ := h1 d ds s h
    show Oo (optO (f d s) _) N T B C
    rw [e]
    show Oo (match b s1 with
      | .nx s2 => Cz.loop f b ds s2
      | .ct s2 => Cz.loop f b ds s2
      | .bk s2 => .nx s2
      | o => o) N T B C
    cases eb : b s1 with
    | nx s2 => rw [eb, Oo.nx] at q; exact Oo.loop I h0 h1 ds s2 q
    | ct s2 => rw [eb, Oo.ct] at q; exact Oo.loop I h0 h1 ds s2 q
    | bk s2 => rw [eb, Oo.bk] at q; exact Oo.nx.mpr q
    | rt r s2 => rw [eb] at q; unfold Oo at *; exact q
    | ex c l s2 => rw [eb] at q; unfold Oo at *; exact q
    | no => rw [eb] at q; unfold Oo at *; exact q
end
theorem Ok1.outR {o : Option Rv} {s : SS} {Q : Rv → SS → Prop} : Ok1 (outR o s) Q ↔ match o with
    | some (.d d) => Q (.d d) s
    | some (.o d) => Q (.o d) s
    | _ => False := by
  unfold Ok1
  cases o with
  | none => exact Iff.rfl
  | some r => cases r <;> exact Iff.rfl
theorem ex_some {α : Type} {a : α} {P : α → Prop} : (∃ x, some a = some x ∧ P x) ↔ P a := ⟨fun ⟨x, h, p⟩ => by cases h; exact p, fun p => ⟨a, rfl, p⟩⟩
/-- a comprehension's loop by an invariant -/
theorem Ok1.loopC {f : MG} {mt : M Bool} {me : M Rv} {vs : List Nat} {Q : List D → SS → Prop} (I : List D → List D → SS → Prop) (h0 : ∀ acc s, I [] acc s → Q acc s) (h1 : ∀ d ds acc s, I (d :: ds) acc s → ∃ s1, f d s = some s1 ∧ Ok1 (mt s1) fun b s2 => if b = true then
      Ok1 (me s2) fun r s3 => Ok1 (frz r s3) fun e s4 => loose s4 vs = true ∧ acc.length < 100000 ∧ I ds (acc ++ [e]) (wipeS s4 vs) else loose s2 vs = true ∧ I ds acc (wipeS s2 vs)) : ∀ (ds acc : List D) (s : SS), I ds acc s → Ok1 (Cz.loopC f mt me vs ds acc s) Q
  | [], acc, s, h => Ok1.ok.mpr (h0 acc s h)
  | d :: ds, acc, s, h => by
    obtain ⟨s1, e, q⟩ := h1 d ds acc s h
    show Ok1 (Cz.opt (f d s) _) Q
    rw [e]
    show Ok1 ((Cz.noX (mt s1)).bind _) Q
    rw [Ok1.bind, Ok1.noX]
    refine Ok1.mono q fun b s2 q => ?_
    cases b with
    | true =>
      rw [if_pos rfl] at q
      show Ok1 ((Cz.noX (me s2)).bind _) Q
      rw [Ok1.bind, Ok1.noX]
      refine Ok1.mono q fun r s3 q => ?_
      rw [Ok1.bind]
      refine Ok1.mono q fun e s4 q => ?_
      rw [if_pos ⟨q.1, q.2.1⟩]
      exact Ok1.loopC I h0 h1 ds _ _ q.2.2
    | false =>
      rw [if_neg (by decide)] at q
      show Ok1 (if loose s2 vs = true then _ else _) Q
      rw [if_pos q.1]
      exact Ok1.loopC I h0 h1 ds _ _ q.2
theorem Ok1.lc {mi : M (List D)} {f : MG} {mt : M Bool} {me : M Rv} {vs : List Nat} {s : SS} {Q : Rv → SS → Prop} (h : Ok1 (mi s) fun ds s1 => loose s1 vs = true ∧ Ok1 (Cz.loopC f mt me vs ds [] (wipeS s1 vs)) fun acc s2 => Q (.o (.lst acc)) (restS s1 s2 vs)) : Ok1 (mLc mi f mt me vs s) Q := by
  unfold mLc
  rw [Ok1.bind]
  refine h.mono fun ds s1 h => ?_
  rw [if_pos h.1, Ok1.bind]
  exact h.2.mono fun _ _ z => Ok1.ok.mpr z
/-- a def by its body -/
theorem OkF.run {np n : Nat} {mb : MS} {as : List SV} {Q : Rv → List SV → Prop} (hl : as.length = np) (h : Oo (mb (as.map some ++ List.replicate (n - np) none)) (fun s => ∃ as', endS as s = some as' ∧ Q (.d .non) as') (fun r s => ∃ as', endS as s = some as' ∧ (∀ i, r ≠ .b i) ∧ Q r as') (fun _ => False) (fun _ => False)) : OkF (runN np n mb) as Q := by
  unfold OkF
  show Ok1 (noEx (runF np n mb as)) _
  rw [Ok1.noEx]
  unfold runF
  rw [if_pos hl]
  unfold Oo Ok1 at *
  cases e : mb (as.map some ++ List.replicate (n - np) none) with
  | nx s =>
    rw [e] at h
    obtain ⟨as', h1, h3⟩ := h
    dsimp only
    rw [h1]
    exact ⟨as', svs_map as', (fun i z => by cases z), h3⟩
  | rt r s =>
    rw [e] at h
    obtain ⟨as', h1, h2, h3⟩ := h
    dsimp only
    rw [h1]
    exact ⟨as', svs_map as', h2, h3⟩
  | bk s => rw [e] at h; exact h.elim
  | ct s => rw [e] at h; exact h.elim
  | ex c l s => rw [e] at h; exact h.elim
  | no => rw [e] at h; exact h.elim
end Cz

/-! # CzU -/
namespace Cz
open L2 PyProof.Rows PySem.Spec PySem

/-! ## to run a mirror: rules that fire on what is known only -/
def rdS : Option (Option SV) → SS → Nat → R Rv
  | some (some (.fz d)), s, _ => .ok (.d d) s
  | some (some (.ow _)), s, i => .ok (.b i) s
  | some (some (.br _)), s, i => .ok (.b i) s
  | _, _, _ => .no
theorem e_var {i : Nat} {s : SS} : mVar i s = rdS (s[i]?) s i := by
  unfold mVar
  cases s[i]? with
  | none => rfl
  | some x =>
    cases x with
    | none => rfl
    | some sv => cases sv <;> rfl
section
variable {s : SS} {i : Nat} {d : D} {o : OD} {l m : List D} {x y : Str} {a b : Int} {p q : Bool}
theorem e_rd1 : rdS (some (some (.fz d))) s i = .ok (.d d) s := rfl
theorem e_rd2 : rdS (some (some (.ow o))) s i = .ok (.b i) s := rfl
theorem e_rd3 : rdS (some (some (.br o))) s i = .ok (.b i) s := rfl
theorem e_c : mC d s = .ok (.d d) s := rfl
def pkS : Option (Option SV) → Option D
  | some (some (.fz d)) => some d
  | some (some (.ow o)) => some o.fz
  | some (some (.br o)) => some o.fz
  | _ => none
theorem e_pk1 : pk (.d d) s = some d := rfl
theorem e_pk2 : pk (.o o) s = some o.fz := rfl
theorem e_pk3 : pk (.b i) s = pkS (s[i]?) := by
  simp only [pk]
  cases s[i]? with
  | none => rfl
  | some x =>
    cases x with
    | none => rfl
    | some sv => cases sv <;> rfl
theorem e_pk4 : pkS (some (some (.fz d))) = some d := rfl
theorem e_pk5 : pkS (some (some (.ow o))) = some o.fz := rfl
theorem e_pk6 : pkS (some (some (.br o))) = some o.fz := rfl
theorem e_nr1 : nrm (.d d) = .d d := rfl
theorem e_nr2 : nrm (.o o) = .d o.fz := rfl
theorem e_nr3 : nrm (.b i) = .b i := rfl
def frS : Option (Option SV) → SS → Nat → R D
  | some (some (.fz d)), s, _ => .ok d s
  | some (some (.ow o)), s, i => .ok o.fz (s.set i (some (.fz o.fz)))
  | _, _, _ => .no
theorem e_fr1 : frz (.d d) s = .ok d s := rfl
theorem e_fr2 : frz (.o o) s = .ok o.fz s := rfl
theorem e_fr3 : frz (.b i) s = frS (s[i]?) s i := by
  simp only [frz]
  cases s[i]? with
  | none => rfl
  | some x =>
    cases x with
    | none => rfl
    | some sv => cases sv <;> rfl
theorem e_fr4 : frS (some (some (.fz d))) s i = .ok d s := rfl
theorem e_fr5 : frS (some (some (.ow o))) s i = .ok o.fz (s.set i (some (.fz o.fz))) := rfl
theorem e_fz1 : (OD.lst l).fz = .lst l := rfl
theorem e_fz2 {k : Bool} {t : List (Key × D)} : (OD.dk k t).fz = .dk t := rfl
theorem e_fz3 {k : Bool} {t : List (List Key × D)} : (OD.dt k t).fz = .dt t := rfl
theorem e_fz4 {C : Addr} {t : List (Str × D)} : (OD.obj C t).fz = .obj C t := rfl
def owS : Option (Option SV) → Option (SV × OD)
  | some (some (.ow o)) => some (.ow o, o)
  | some (some (.br o)) => some (.br o, o)
  | _ => none
theorem e_ow : ownAt s i = owS (s[i]?) := by
  unfold ownAt
  cases s[i]? with
  | none => rfl
  | some x =>
    cases x with
    | none => rfl
    | some sv => cases sv <;> rfl
theorem e_ow1 : owS (some (some (.ow o))) = some (.ow o, o) := rfl
theorem e_ow2 : owS (some (some (.br o))) = some (.br o, o) := rfl
def lsS : Option (Option SV) → Option (SV × List D)
  | some (some (.ow (.lst l))) => some (.ow (.lst l), l)
  | some (some (.br (.lst l))) => some (.br (.lst l), l)
  | _ => none
theorem e_ls : lstAt s i = lsS (s[i]?) := by
  unfold lstAt ownAt
  cases s[i]? with
  | none => rfl
  | some x =>
    cases x with
    | none => rfl
    | some sv =>
      cases sv with
      | fz d => rfl
      | ow o => cases o <;> rfl
      | br o => cases o <;> rfl
theorem e_ls1 : lsS (some (some (.ow (.lst l)))) = some (.ow (.lst l), l) := rfl
theorem e_ls2 : lsS (some (some (.br (.lst l)))) = some (.br (.lst l), l) := rfl
theorem e_pt1 {o' : OD} : SV.put (.ow o) o' = .ow o' := rfl
theorem e_pt2 {o' : OD} : SV.put (.br o) o' = .br o' := rfl
def feS : Option (Option SV) → Bool
  | some (some (.br _)) => false
  | some _ => true
  | none => false
theorem e_fe : free s i = feS (s[i]?) := by
  unfold free
  cases s[i]? with
  | none => rfl
  | some x =>
    cases x with
    | none => rfl
    | some sv => cases sv <;> rfl
theorem e_fe1 : feS (some none) = true := rfl
theorem e_fe2 : feS (some (some (.fz d))) = true := rfl
theorem e_fe3 : feS (some (some (.ow o))) = true := rfl
/-! parts of expressions -/
variable {α : Type} {Q : Rv → SS → Prop} {f g : D → D → Option Rv} {ma mb mc : M Rv} {h : D → Option Rv}
theorem k_op : Ok1 (mOp f ma mb s) Q ↔ Ok1 (ma s) fun r1 s1 => Ok1 (mb s1) fun r2 s2 => ∃ x, pk (nrm r1) s2 = some x ∧ ∃ y, pk r2 s2 = some y ∧ Ok1 (outR (f x y) s2) Q := by
  unfold mOp
  simp only [Ok1.bind, Ok1.opt]
theorem k_un : Ok1 (mUn h ma s) Q ↔ Ok1 (ma s) fun r1 s1 => ∃ x, pk r1 s1 = some x ∧ Ok1 (outR (h x) s1) Q := by
  unfold mUn
  simp only [Ok1.bind, Ok1.opt]
theorem k_cb1 : Ok1 (mCB1 h ma s) Q ↔ Ok1 (ma s) fun r1 s1 => ∃ x, pk r1 s1 = some x ∧ Ok1 (outR (h x) s1) Q := k_un
theorem k_o1 : Ok1 (outR (some (.d d)) s) Q ↔ Q (.d d) s := Ok1.ok
theorem k_o2 : Ok1 (outR (some (.o o)) s) Q ↔ Q (.o o) s := Ok1.ok
theorem k_tr {Q : Bool → SS → Prop} {h : D → Option Bool} : Ok1 (mTr h ma s) Q ↔ Ok1 (ma s) fun r1 s1 => ∃ x, pk r1 s1 = some x ∧ ∃ b, h x = some b ∧ Q b s1 := by
  unfold mTr
  simp only [Ok1.bind, Ok1.opt, Ok1.ok]
theorem k_and {Q : Bool → SS → Prop} {u v : M Bool} : Ok1 (mAnd u v s) Q ↔ Ok1 (u s) fun b s1 => if b = true then Ok1 (v s1) Q else Q false s1 := by
  unfold mAnd
  simp only [Ok1.bind, Ok1.ite, Ok1.ok]
theorem k_or {Q : Bool → SS → Prop} {u v : M Bool} : Ok1 (mOr u v s) Q ↔ Ok1 (u s) fun b s1 => if b = true then Q true s1 else Ok1 (v s1) Q := by
  unfold mOr
  simp only [Ok1.bind, Ok1.ite, Ok1.ok]
theorem k_not {Q : Bool → SS → Prop} {u : M Bool} : Ok1 (mNot u s) Q ↔ Ok1 (u s) fun b s1 => Q (!b) s1 := by
  unfold mNot
  simp only [Ok1.bind, Ok1.ok]
theorem k_andV : Ok1 (mAndV ma mb s) Q ↔ Ok1 (ma s) fun r s1 => ∃ b, (pk r s1).bind blD = some b ∧ if b = true then Ok1 (mb s1) Q else Q (.d (.bl false)) s1 := by
  unfold mAndV
  simp only [Ok1.bind, Ok1.opt, Ok1.ite, Ok1.ok]
theorem k_orV : Ok1 (mOrV ma mb s) Q ↔ Ok1 (ma s) fun r s1 => ∃ b, (pk r s1).bind blD = some b ∧ if b = true then Q (.d (.bl true)) s1 else Ok1 (mb s1) Q := by
  unfold mOrV
  simp only [Ok1.bind, Ok1.opt, Ok1.ite, Ok1.ok]
theorem k_notV : Ok1 (mNotV ma s) Q ↔ Ok1 (ma s) fun r s1 => ∃ b, (pk r s1).bind blD = some b ∧ Q (.d (.bl !b)) s1 := by
  unfold mNotV
  simp only [Ok1.bind, Ok1.opt, Ok1.ok]
theorem k_if {u : M Bool} : Ok1 (mIf u ma mb s) Q ↔ Ok1 (u s) fun b s1 => if b = true then Ok1 (ma s1) Q else Ok1 (mb s1) Q := by
  unfold mIf
  simp only [Ok1.bind, Ok1.ite]
variable {A : List Rv → SS → Prop} {mr : M (List Rv)}
theorem k_nil : Ok1 (mANil s) A ↔ A [] s := Ok1.ok
theorem k_cons : Ok1 (mACons ma mr s) A ↔ Ok1 (ma s) fun r s1 => Ok1 (frz r s1) fun d s2 => Ok1 (mr s2) fun rs s3 => A (.d d :: rs) s3 := by
  unfold mACons
  simp only [Ok1.bind, Ok1.ok]
theorem k_ref : Ok1 (mARef i mr s) A ↔ Ok1 (rdS (s[i]?) s i) fun r s1 => Ok1 (mr s1) fun rs s2 => A (r :: rs) s2 := by
  unfold mARef
  cases s[i]? with
  | none => (unfold Ok1; exact Iff.rfl)
  | some z =>
    cases z with
    | none => (unfold Ok1; exact Iff.rfl)
    | some sv =>
      cases sv with
      | fz d => simp only [Ok1.bind, Ok1.ok, e_rd1]
      | ow d => simp only [Ok1.bind, Ok1.ok, e_rd2]
      | br d => simp only [Ok1.bind, Ok1.ok, e_rd3]
theorem k_tup : Ok1 (mTup mr s) Q ↔ Ok1 (mr s) fun rs s1 => ∃ ds, allD rs = some ds ∧ if ds.length ≤ 100000 then Q (.d (.tup ds)) s1 else False := by
  unfold mTup
  simp only [Ok1.bind, Ok1.opt, Ok1.ite, Ok1.ok, Ok1.no]
theorem k_lst : Ok1 (mLst mr s) Q ↔ Ok1 (mr s) fun rs s1 => ∃ ds, allD rs = some ds ∧ if ds.length ≤ 100000 then Q (.o (.lst ds)) s1 else False := by
  unfold mLst
  simp only [Ok1.bind, Ok1.opt, Ok1.ite, Ok1.ok, Ok1.no]
theorem e_al1 : allD [] = some [] := rfl
theorem e_al2 {rs : List Rv} : allD (.d d :: rs) = (allD rs).map (d :: ·) := rfl
theorem e_mp {β γ : Type} {z : β} {k : β → γ} : (some z).map k = some (k z) := rfl
theorem e_bd {β γ : Type} {z : β} {k : β → Option γ} : (some z).bind k = k z := rfl
theorem k_cb {h : List D → Option Rv} : Ok1 (mCB h mr s) Q ↔ Ok1 (mr s) fun rs s1 => ∃ ds, allD rs = some ds ∧ Ok1 (outR (h ds) s1) Q := by
  unfold mCB
  simp only [Ok1.bind, Ok1.opt]
theorem k_call {F : MF} {ds : List D} : Ok1 (mCall F ds mr s) Q ↔ Ok1 (mr s) fun rs s1 => Ok1 (noEx (callS F (rs ++ ds.map .d) s1)) Q := by
  unfold mCall
  simp only [Ok1.bind]
theorem k_lm {h : List D → List D → Option (D × List D)} : Ok1 (mLm i h mr s) Q ↔ ∃ z, lsS (s[i]?) = some z ∧ Ok1 (mr s) fun rs s1 => ∃ as, allD rs = some as ∧ ∃ p, lsS (s1[i]?) = some p ∧ ∃ q, h as p.2 = some q ∧ Q (.d q.1) (s1.set i (some (p.1.put (.lst q.2)))) := by
  unfold mLm
  simp only [Ok1.bind, Ok1.opt, Ok1.ok, e_ls]
variable {P : Option Int → SS → Prop}
theorem k_yes {Q : Bool → SS → Prop} : Ok1 (mYes s) Q ↔ Q true s := Ok1.ok
theorem k_np : Ok1 (mNoPart s) P ↔ P none s := Ok1.ok
theorem k_pt : Ok1 (mPart ma s) P ↔ Ok1 (ma s) fun r s1 => ∃ k, (pk r s1).bind intOf = some k ∧ P (some k) s1 := by
  unfold mPart
  simp only [Ok1.bind, Ok1.opt, Ok1.ok]
theorem k_sl {ml mh : M (Option Int)} : Ok1 (mSl ma ml mh s) Q ↔ Ok1 (ma s) fun r s1 => Ok1 (ml s1) fun lo s2 => Ok1 (mh s2) fun hi s3 => ∃ d, pk (nrm r) s3 = some d ∧ Ok1 (outR (slD d lo hi) s3) Q := by
  unfold mSl
  simp only [Ok1.bind, Ok1.opt]
theorem e_io : intOf (.int a) = some a := rfl
/-! operators -/
theorem e_add1 : addD (.int a) (.int b) = some (.d (.int (a + b))) := rfl
theorem e_add2 : addD (.str x) (.str y) = if small (x.length + y.length) then some (.d (.str (x ++ y))) else none := rfl
theorem e_add3 : addD (.lst l) (.lst m) = if small (l.length + m.length) then some (.o (.lst (l ++ m))) else none := rfl
theorem e_sub : subD (.int a) (.int b) = some (.d (.int (a - b))) := rfl
theorem e_mul (h : mulOk a b = true) : mulD (.int a) (.int b) = some (.d (.int (a * b))) := if_pos h
theorem mulOk_r (h : -(2 ^ 64) < b ∧ b < 2 ^ 64) : mulOk a b = true := by unfold mulOk; rw [decide_eq_true h, Bool.or_true]
theorem mulOk_l (h : -(2 ^ 64) < a ∧ a < 2 ^ 64) : mulOk a b = true := by unfold mulOk; rw [decide_eq_true h, Bool.true_or]
theorem e_fdiv (h : 0 < b ∧ b < 1073741824) : fdivD (.int a) (.int b) = some (.d (.int (a / b))) := if_pos (decide_eq_true h)
theorem e_mod (h : 0 < b) : modD (.int a) (.int b) = some (.d (.int (a % b))) := if_pos (decide_eq_true h)
theorem e_pow (h : 0 ≤ b ∧ b ≤ 1000000 ∧ a.natAbs < 2 ^ 64) : powD (.int a) (.int b) = some (.d (.int (a ^ b.toNat))) := if_pos (decide_eq_true h)
theorem e_neg : negD (.int a) = some (.d (.int (-a))) := rfl
theorem e_lt : ltD (.int a) (.int b) = some (.d (.bl (decide (a < b)))) := rfl
theorem e_le : leD (.int a) (.int b) = some (.d (.bl (decide (a ≤ b)))) := rfl
theorem e_gt : gtD (.int a) (.int b) = some (.d (.bl (decide (b < a)))) := rfl
theorem e_ge : geD (.int a) (.int b) = some (.d (.bl (decide (b ≤ a)))) := rfl
theorem e_ltS : ltD (.str x) (.str y) = some (.d (.bl (sLt x y))) := rfl
theorem e_ix1 : ixD (.lst l) (.int a) = (atI l a).map fun e => .d e := rfl
theorem e_ix2 : ixD (.rol l) (.int a) = (atI l a).map fun e => .d e := rfl
theorem e_ix3 : ixD (.tup l) (.int a) = (atI l a).map fun e => .d e := rfl
theorem e_ix4 : ixD (.tuk l) (.int a) = (atI l a).map fun e => .d e := rfl
theorem e_ix5 : ixD (.str x) (.int a) = if small x.length then (atI x.cps.toList a).map fun c => .d (.str ⟨#[c]⟩) else none := rfl
theorem e_len1 : lenD (.lst l) = some (.d (.int (l.length : Nat))) := rfl
theorem e_len2 : lenD (.rol l) = some (.d (.int (l.length : Nat))) := rfl
theorem e_len3 : lenD (.tup l) = some (.d (.int (l.length : Nat))) := rfl
theorem e_len4 : lenD (.tuk l) = some (.d (.int (l.length : Nat))) := rfl
theorem e_len5 : lenD (.str x) = if small x.length then some (.d (.int (x.length : Nat))) else none := rfl
theorem e_bl : blD (.bl p) = some p := rfl
theorem e_int1 : int1D (.int a) = some (.d (.int a)) := rfl
theorem e_abs : absD (.int a) = some (.d (.int (if a < 0 then -a else a))) := rfl
theorem e_lst1 : listD (.lst l) = some (.o (.lst l)) := rfl
theorem e_lst2 : listD (.rol l) = some (.o (.lst l)) := rfl
theorem e_lst3 : listD (.tup l) = some (.o (.lst l)) := rfl
theorem e_lst4 : listD (.tuk l) = some (.o (.lst l)) := rfl
theorem e_tup1 : tupD (.lst l) = some (.d (.tup l)) := rfl
theorem e_tup2 : tupD (.rol l) = some (.d (.tup l)) := rfl
theorem e_tup3 : tupD (.tup l) = some (.d (.tup l)) := rfl
theorem e_app : appendF [d] l = if l.length < 100000 then some (.non, l ++ [d]) else none := rfl
theorem e_ext : extendF [.lst m] l = if small (l.length + m.length) then some (.non, l ++ m) else none := rfl
/-! indices -/
theorem e_at0 {z : α} {r : List α} : atI (z :: r) 0 = some z := atI_nat (j := 0) rfl
theorem e_at1 {z w : α} {r : List α} : atI (z :: w :: r) 1 = some w := atI_nat (j := 1) rfl
theorem e_at2 {z w v : α} {r : List α} : atI (z :: w :: v :: r) 2 = some v := atI_nat (j := 2) rfl
theorem e_at3 {z w v u : α} {r : List α} : atI (z :: w :: v :: u :: r) 3 = some u := atI_nat (j := 3) rfl
theorem e_in0 {n : Nat} : ixN (n + 1) 0 = some 0 := by
  unfold ixN
  (rw [if_pos (by omega), if_pos (by omega)])
  rfl
theorem e_in1 {n : Nat} : ixN (n + 1 + 1) 1 = some 1 := by
  unfold ixN
  (rw [if_pos (by omega), if_pos (by omega)])
  rfl
theorem e_in2 {n : Nat} : ixN (n + 1 + 1 + 1) 2 = some 2 := by
  unfold ixN
  (rw [if_pos (by omega), if_pos (by omega)])
  rfl
theorem e_ixN {n : Nat} {j : Nat} (h : j < n) : ixN n (j : Int) = some j := by
  unfold ixN
  (rw [if_pos (by omega), if_pos (by omega)])
  simp
theorem e_es1 {s : SS} : endS [] s = some [] := by cases s <;> rfl
theorem e_es2 {as : List SV} {z : Option SV} : endS (.fz d :: as) (z :: s) = (endS as s).map (.fz d :: ·) := rfl
theorem e_es3 {as : List SV} {o o' : OD} : endS (.br o :: as) (some (.br o') :: s) = (endS as s).map (.br o' :: ·) := rfl
theorem e_nb1 : (∀ i, Rv.d d ≠ Rv.b i) ↔ True := ⟨fun _ => trivial, fun _ i z => by cases z⟩
theorem e_nb2 : (∀ i, Rv.o o ≠ Rv.b i) ↔ True := ⟨fun _ => trivial, fun _ i z => by cases z⟩
theorem e_rdd : (Rv.d d = Rv.d (.int a)) ↔ d = .int a := ⟨fun h => by cases h; rfl, fun h => by rw [h]⟩
theorem len_seq {d : D} {l : List D} (h : seqD d = some l) : lenD d = some (.d (.int (l.length : Nat))) := by
  cases d <;> first | (cases h; rfl) | cases h
theorem ix_seqD {d : D} {l : List D} {k : Int} (h : seqD d = some l) : ixD d (.int k) = (atI l k).map fun e => .d e := by
  cases d <;> first | (cases h; rfl) | cases h
theorem lst_seq {d : D} {l : List D} (h : seqD d = some l) : listD d = some (.o (.lst l)) := by
  unfold listD
  rw [h]
  rfl
theorem at_in {α : Type} {l : List α} {k : Int} (h0 : 0 ≤ k) (h1 : k < (l.length : Nat)) : ∃ e, e ∈ l ∧ atI l k = some e := by
  obtain ⟨j, rfl⟩ : ∃ j : Nat, k = (j : Int) := ⟨k.toNat, by omega⟩
  have hj : j < l.length := by omega
  exact ⟨l[j], List.getElem_mem hj, atI_nat (List.getElem?_eq_getElem hj)⟩
end
/-! arguments, and what comes back -/
theorem g_as1 {s : SS} : argS s [] = some [] := rfl
theorem g_as2 {s : SS} {d : D} {rs : List Rv} : argS s (.d d :: rs) = (argS s rs).map (.fz d :: ·) := rfl
def asS : Option (Option SV) → Option (List SV) → Option (List SV)
  | some (some (.ow o)), r => r.map (.br o :: ·)
  | some (some (.br o)), r => r.map (.br o :: ·)
  | some (some (.fz d)), r => r.map (.fz d :: ·)
  | _, _ => none
theorem g_as3 {s : SS} {i : Nat} {rs : List Rv} : argS s (.b i :: rs) = asS (s[i]?) (argS s rs) := by
  simp only [argS]
  cases s[i]? with
  | none => rfl
  | some x =>
    cases x with
    | none => rfl
    | some sv => cases sv <;> rfl
theorem g_as4 {o : OD} {r : Option (List SV)} : asS (some (some (.ow o))) r = r.map (.br o :: ·) := rfl
theorem g_as5 {o : OD} {r : Option (List SV)} : asS (some (some (.br o))) r = r.map (.br o :: ·) := rfl
theorem g_as6 {d : D} {r : Option (List SV)} : asS (some (some (.fz d))) r = r.map (.fz d :: ·) := rfl
theorem g_b1 {s : SS} : backS s [] [] = some s := rfl
theorem g_b2 {s : SS} {d : D} {rs : List Rv} {a : SV} {as : List SV} : backS s (.d d :: rs) (a :: as) = backS s rs as := rfl
def bkS : Option (Option SV) → SV → Option SS → Nat → Option SS
  | some (some (.ow _)), .br o, r, i => r.map fun s' => s'.set i (some (.ow o))
  | some (some (.br _)), .br o, r, i => r.map fun s' => s'.set i (some (.br o))
  | some (some (.fz _)), _, r, _ => r
  | _, _, _, _ => none
theorem g_b3 {s : SS} {i : Nat} {rs : List Rv} {a : SV} {as : List SV} : backS s (.b i :: rs) (a :: as) = bkS (s[i]?) a (backS s rs as) i := by
  simp only [backS]
  cases s[i]? with
  | none => rfl
  | some x =>
    cases x with
    | none => rfl
    | some sv => cases sv <;> cases a <;> rfl
theorem g_b4 {o o' : OD} {r : Option SS} {i : Nat} : bkS (some (some (.ow o))) (.br o') r i = r.map fun s' => s'.set i (some (.ow o')) := rfl
theorem g_b5 {o o' : OD} {r : Option SS} {i : Nat} : bkS (some (some (.br o))) (.br o') r i = r.map fun s' => s'.set i (some (.br o')) := rfl
theorem g_b6 {d : D} {a : SV} {r : Option SS} {i : Nat} : bkS (some (some (.fz d))) a r i = r := rfl
/-! sources of loops -/
theorem k_items {me : M Rv} {s : SS} {Q : List D → SS → Prop} : Ok1 (mItems me s) Q ↔ Ok1 (me s) fun r s1 => Ok1 (frz r s1) fun d s2 => ∃ l, itemsD d = some l ∧ Q l s2 := by
  unfold mItems
  simp only [Ok1.bind, Ok1.opt, Ok1.ok]
theorem k_rng {f : List D → Option (List D)} {ma : M (List Rv)} {s : SS} {Q : List D → SS → Prop} : Ok1 (mRng f ma s) Q ↔ Ok1 (ma s) fun rs s1 => ∃ l, (allD rs).bind f = some l ∧ Q l s1 := by
  unfold mRng
  simp only [Ok1.bind, Ok1.opt, Ok1.ok]
theorem e_it1 {l : List D} : itemsD (.lst l) = some l := rfl
theorem e_it2 {l : List D} : itemsD (.rol l) = some l := rfl
theorem e_it3 {l : List D} : itemsD (.tup l) = some l := rfl
theorem e_it4 {l : List D} : itemsD (.tuk l) = some l := rfl
theorem e_en1 {l : List D} : enumD [.lst l] = some (pairsD (nums l.length) l) := rfl
theorem e_en2 {l : List D} : enumD [.rol l] = some (pairsD (nums l.length) l) := rfl
def upTo (n : Nat) : List D := (List.range n).map fun i => .int (0 + (i : Nat))
theorem e_rg {n : Nat} (h : n < 2 ^ 62) : rng1D [.int (n : Nat)] = some (upTo n) := by
  have q : -(2 ^ 62) ≤ ((n : Nat) : Int) ∧ ((n : Nat) : Int) < 2 ^ 62 := by omega
  simp only [rng1D]
  rw [if_pos q, Int.toNat_natCast]
  rfl
theorem k_for {mi : M (List D)} {f : MG} {b : MS} {s : SS} {N : SS → Prop} {T : Rv → SS → Prop} {B C : SS → Prop} : Oo (mFor mi f b s) N T B C ↔ Ok1 (mi s) fun ds s1 => Oo (Cz.loop f b ds s1) N T B C := Oo.out
/-- two targets -/
theorem e_g1 {i : Nat} {d : D} {s : SS} (h : feS (s[i]?) = true) : mgName i d s = some (s.set i (some (.fz d))) := by
  unfold mgName
  rw [e_fe, h]
  rfl
theorem e_g2 {i j : Nat} {d e : D} {s : SS} (h : feS (s[i]?) = true) (h2 : feS ((s.set i (some (.fz d)))[j]?) = true) : mgTup 2 (mgCons (mgName i) (mgCons (mgName j) mgNil)) (.tup [d, e]) s = some ((s.set i (some (.fz d))).set j (some (.fz e))) := by
  unfold mgTup
  show (if [d, e].length = 2 then mgCons (mgName i) (mgCons (mgName j) mgNil) [d, e] s else none) = _
  rw [if_pos (show [d, e].length = 2 from rfl)]
  show (mgName i d s).bind (fun s1 => (mgName j e s1).bind fun s2 => mgNil [] s2) = _
  rw [e_g1 h]
  show (mgName j e (s.set i (some (.fz d)))).bind (fun s2 => mgNil [] s2) = _
  rw [e_g1 h2]
  rfl
theorem pairs_in {l m : List D} {d : D} (h : d ∈ pairsD l m) : ∃ x y, d = .tup [x, y] ∧ x ∈ l ∧ y ∈ m := by
  unfold pairsD at h
  obtain ⟨⟨x, y⟩, h1, rfl⟩ := List.mem_map.mp h
  exact ⟨x, y, rfl, (List.of_mem_zip h1).1, (List.of_mem_zip h1).2⟩
theorem nums_in {n : Nat} {d : D} (h : d ∈ nums n) : ∃ i : Nat, i < n ∧ d = .int (i : Nat) := by
  unfold nums at h
  obtain ⟨i, h1, rfl⟩ := List.mem_map.mp h
  exact ⟨i, by simpa using h1, rfl⟩
theorem upTo_in {n : Nat} {d : D} (h : d ∈ upTo n) : ∃ i : Nat, i < n ∧ d = .int (i : Nat) := by
  unfold upTo at h
  obtain ⟨i, h1, rfl⟩ := List.mem_map.mp h
  exact ⟨i, by simpa using h1, by rw [Int.zero_add]⟩
theorem ints_in {ns : List Int} {d : D} (h : d ∈ ns.map D.int) : ∃ i, d = .int i := by
  obtain ⟨i, _, rfl⟩ := List.mem_map.mp h
  exact ⟨i, rfl⟩
/-- with an assertion between -/
theorem Oo.cut {a b : MS} {s : SS} {N : SS → Prop} {T : Rv → SS → Prop} {B C : SS → Prop} (M : SS → Prop) (h1 : Oo (a s) M T B C) (h2 : ∀ s, M s → Oo (b s) N T B C) : Oo (mSeq a b s) N T B C :=
  Oo.seq.mpr (h1.mono h2 (fun _ _ h => h) (fun _ h => h) (fun _ h => h))
end Cz

/-! # CzZ -/
namespace Cz
open L2 PyProof.Rows PySem.Spec PySem

/-! ## rows of texts -/
theorem toPys_strs : ∀ ts : List Str, toPys (ts.map D.str) = some (ts.map PyData.str)
  | [] => by simp only [List.map_nil, toPys]
  | t :: ts => by
    simp only [List.map_cons, toPys, toPy, Option.bind_some]
    rw [toPys_strs ts]
    rfl
abbrev okW (w : Str) : Prop := PyData.strOk w = true
abbrev okWs (ts : List Str) : Prop := ∀ t ∈ ts, okW t
theorem lay_strs : ∀ ts : List Str, okWs ts → PyData.canLayAll0 (ts.map PyData.str) = true
  | [], _ => by (simp [PyData.canLayAll0])
  | t :: ts, h => by
    have h1 : PyData.strOk t = true := h t List.mem_cons_self
    have h2 := lay_strs ts fun x hx => h x (List.mem_cons_of_mem _ hx)
    simp [PyData.canLayAll0, PyData.canLay0, h1, h2]
theorem deep_strs : ∀ ts : List Str, PyData.depthAll (ts.map PyData.str) ≤ 1
  | [] => by (simp [PyData.depthAll])
  | t :: ts => by
    have h := deep_strs ts
    (simp only [List.map_cons, PyData.depthAll, PyData.depth])
    omega
theorem shp_str {w : Str} (h : okW w) : SeqAt.shaped (.str w) = true := by
  unfold SeqAt.shaped
  rw [Bool.and_eq_true]
  exact ⟨by simp only [PyData.canLay0]; exact h, by simp [PyData.depth]⟩
theorem shp_strs {ts : List Str} (ho : okWs ts) : SeqAt.shaped (.list (ts.map .str)) = true := by
  have h := deep_strs ts
  unfold SeqAt.shaped
  rw [Bool.and_eq_true]
  refine ⟨by simp only [PyData.canLay0]; exact lay_strs ts ho, decide_eq_true ?_⟩
  simp only [PyData.depth]
  omega
theorem cmpb_str {w : Str} (h : okW w) : cmpb (.str w) = true := by
  unfold cmpb
  simp only [toPy]
  exact shp_str h
theorem cmpb_strs {ts : List Str} (h : okWs ts) : cmpb (.lst (ts.map .str)) = true := by
  unfold cmpb
  simp only [toPy]
  rw [toPys_strs ts]
  exact shp_strs h
theorem str_beq (a b : Str) : (a == b) = decide (a = b) := by
  by_cases h : a = b
  · subst h
    rw [decide_eq_true rfl]
    exact beq_self_eq_true a
  · rw [decide_eq_false h]
    exact beq_eq_false_iff_ne.mpr h
theorem any_strs (w : Str) : ∀ ts : List Str, ((ts.map D.str).any fun e => deq e (.str w)) = decide (w ∈ ts)
  | [] => by simp
  | t :: ts => by
    rw [List.map_cons, List.any_cons, any_strs w ts]
    simp only [deq, str_beq]
    by_cases h : t = w
    · subst h
      simp
    · have h' : ¬ w = t := fun z => h z.symm
      simp [h, h']
theorem e_inS {w : Str} {ts : List Str} (h : okW w) (h2 : okWs ts) : inD (.str w) (.lst (ts.map .str)) = some (.d (.bl (decide (w ∈ ts)))) := by
  unfold inD inB
  simp only [seqD, cmpb_str h, cmpb_strs h2, Bool.and_self, if_true, any_strs]
  rfl
theorem e_notS {w : Str} {ts : List Str} (h : okW w) (h2 : okWs ts) : notInD (.str w) (.lst (ts.map .str)) = some (.d (.bl (!decide (w ∈ ts)))) := by
  unfold notInD inB
  simp only [seqD, cmpb_str h, cmpb_strs h2, Bool.and_self, if_true, any_strs]
  rfl

/-! ## a word that is not taken -/
theorem len_of_nodup {α : Type} [DecidableEq α] : ∀ {l m : List α}, l.Nodup → (∀ x ∈ l, x ∈ m) → l.length ≤ m.length
  | [], m, _, _ => Nat.zero_le _
  | x :: l, m, h, hs => by
    (have h' := List.nodup_cons.mp h)
    have hx : x ∈ m := hs x List.mem_cons_self
    have e : (m.erase x).length = m.length - 1 := List.length_erase_of_mem hx
    have q := len_of_nodup (l := l) (m := m.erase x) h'.2 fun y hy => by
      have ny : y ≠ x := fun z => h'.1 (z ▸ hy)
      exact (List.mem_erase_of_ne ny).mpr (hs y (List.mem_cons_of_mem _ hy))
    have p : 0 < m.length := List.length_pos_of_mem hx
    rw [List.length_cons]
    omega
def abc : List Nat := "abcdefghijklmnopqrstuvxyz".toList.map Char.toNat
/-- the k-th pair of letters -/
def pairW (k : Nat) : Str := ⟨#[abc.getD (k / 25 % 25) 0, abc.getD (k % 25) 0]⟩
theorem abc_inj : ∀ i : Fin 25, ∀ j : Fin 25, abc.getD i.val 0 = abc.getD j.val 0 → i = j := by decide +kernel
theorem pairW_inj {i j : Nat} (hi : i < 625) (hj : j < 625) (h : pairW i = pairW j) : i = j := by
  unfold pairW at h
  have h1 : abc.getD (i / 25 % 25) 0 = abc.getD (j / 25 % 25) 0 := by
    (have := congrArg (fun s : Str => s.cps.getD 0 0) h)
    simpa using this
  have h2 : abc.getD (i % 25) 0 = abc.getD (j % 25) 0 := by
    have := congrArg (fun s : Str => s.cps.getD 1 0) h
    simpa using this
  have q1 := congrArg Fin.val (abc_inj ⟨i / 25 % 25, by omega⟩ ⟨j / 25 % 25, by omega⟩ h1)
  have q2 := congrArg Fin.val (abc_inj ⟨i % 25, by omega⟩ ⟨j % 25, by omega⟩ h2)
  simp only at q1 q2
  omega
/-- of the first n + 1 pairs one is not taken, n the number of what is taken -/
theorem pair_new {ts : List Str} (h : ts.length < 625) : ∃ k, k ≤ ts.length ∧ pairW k ∉ ts := by
  (refine Classical.byContradiction fun hn => ?_)
  have all : ∀ k, k ≤ ts.length → pairW k ∈ ts := fun k hk => Classical.byContradiction fun z => hn ⟨k, hk, z⟩
  have nd : ((List.range (ts.length + 1)).map pairW).Nodup := by
    rw [List.nodup_iff_pairwise_ne, List.pairwise_map]
    refine List.Pairwise.imp_of_mem (fun {a b} ha hb hab => ?_) (List.nodup_iff_pairwise_ne.mp List.nodup_range)
    intro z
    exact hab (pairW_inj (by have := List.mem_range.mp ha; omega) (by have := List.mem_range.mp hb; omega) z)
  have q := len_of_nodup nd fun x hx => by
    obtain ⟨k, hk, rfl⟩ := List.mem_map.mp hx
    exact all k (by have := List.mem_range.mp hk; omega)
  rw [List.length_map, List.length_range] at q
  omega
end Cz

/-! # DaG -/
namespace Cz
open L2 PyProof.Rows PySem.Spec PySem

/-! ## more rules to run a mirror -/
section
variable {s : SS} {i : Nat} {d e : D} {o : OD} {l m : List D} {x y : Str} {a b : Int} {p q : Bool} {C C' : Addr} {fs : List (Str × D)}
variable {α : Type} {Q : Rv → SS → Prop} {f g : D → D → Option Rv} {ma mb mc : M Rv} {h : D → Option Rv} {mr : M (List Rv)} {rs : List Rv}
theorem Ok1.congr {r : R α} {P P' : α → SS → Prop} (h : ∀ a s, P a s ↔ P' a s) : Ok1 r P ↔ Ok1 r P' := ⟨fun z => Ok1.mono z fun a s => (h a s).mp, fun z => Ok1.mono z fun a s => (h a s).mpr⟩
/-! calls -/
def nbQ (Q : Rv → SS → Prop) : Rv → SS → Prop
  | .b _, _ => False
  | r, s => Q r s
theorem e_nq1 : nbQ Q (.d d) s ↔ Q (.d d) s := Iff.rfl
theorem e_nq2 : nbQ Q (.o o) s ↔ Q (.o o) s := Iff.rfl
theorem k_callS {F : MF} : Ok1 (noEx (callS F rs s)) Q ↔ ∃ as, argS s rs = some as ∧ (refs rs).Nodup ∧ Ok1 (F as) fun r s2 => ∃ as', svs s2 = some as' ∧ ∃ s3, backS s rs as' = some s3 ∧ nbQ Q r s3 := by
  rw [Ok1.noEx]
  unfold callS
  rw [Ok1.opt]
  refine exists_congr fun as => and_congr_right fun _ => ?_
  rw [Ok1.ite]
  by_cases n : (refs rs).Nodup
  · rw [if_pos n]
    refine ⟨fun z => ⟨n, ?_⟩, fun z => ?_⟩
    · cases e : F as with
      | ok r s2 =>
        rw [e] at z
        obtain ⟨as', e1, z⟩ := Ok1.opt.mp z
        obtain ⟨s3, e2, z⟩ := Ok1.opt.mp z
        refine Ok1.ok.mpr ⟨as', e1, s3, e2, ?_⟩
        cases r with
        | b i => exact z.elim
        | d d => exact (Ok1.ok (Q := Q)).mp z
        | o o => exact (Ok1.ok (Q := Q)).mp z
      | ex c l s2 =>
        rw [e] at z
        obtain ⟨as', e1, z⟩ := Ok1.opt.mp z
        obtain ⟨s3, e2, z⟩ := Ok1.opt.mp z
        exact z.elim
      | no => rw [e] at z; exact Ok1.elim (r := R.no) z
    · obtain ⟨_, z⟩ := z
      cases e : F as with
      | ok r s2 =>
        rw [e] at z
        obtain ⟨as', e1, s3, e2, z⟩ := Ok1.ok.mp z
        refine Ok1.opt.mpr ⟨as', e1, Ok1.opt.mpr ⟨s3, e2, ?_⟩⟩
        cases r with
        | b i => exact z.elim
        | _ => exact Ok1.ok.mpr z
      | ex c l s2 => rw [e] at z; exact z.elim
      | no => rw [e] at z; exact z.elim
  · rw [if_neg n]
    exact ⟨fun z => z.elim, fun z => (n z.1).elim⟩
theorem e_sv1 : svs [] = some [] := rfl
theorem e_sv2 {v : SV} {r : SS} : svs (some v :: r) = (svs r).map (v :: ·) := rfl
theorem e_rf1 : refs [] = [] := rfl
theorem e_rf2 : refs (.d d :: rs) = refs rs := rfl
theorem e_rf3 : refs (.b i :: rs) = i :: refs rs := rfl
theorem OkF.use {F : MF} {as : List SV} {P : Rv → List SV → Prop} (h : OkF F as P) (k : ∀ r as', (∀ i, r ≠ .b i) → P r as' → Q r (as'.map some)) : Ok1 (F as) Q := by
  refine Ok1.mono h fun r s z => ?_
  obtain ⟨as', h1, h2, h3⟩ := z
  rw [svs_eq h1]
  exact k r as' h2 h3
theorem k_make {F : MF} {ds : List D} : Ok1 (mMake C F ds mr s) Q ↔ Ok1 (mr s) fun rs s1 => ∃ as, argS s1 (rs ++ ds.map .d) = some as ∧ (refs (rs ++ ds.map .d)).Nodup ∧ Ok1 (F (.br (.obj C []) :: as)) fun r s2 => r = .d .non ∧ ∃ o as2, svs s2 = some (.br o :: as2) ∧ ∃ s3, backS s1 (rs ++ ds.map .d) as2 = some s3 ∧ Q (.o o) s3 := by
  unfold mMake
  rw [Ok1.bind]
  have key : ∀ rs s1, Ok1 (makeS C F rs s1) Q ↔ ∃ as, argS s1 rs = some as ∧ (refs rs).Nodup ∧ Ok1 (F (.br (.obj C []) :: as)) fun r s2 => r = .d .non ∧ ∃ o as2, svs s2 = some (.br o :: as2) ∧ ∃ s3, backS s1 rs as2 = some s3 ∧ Q (.o o) s3 := by
    intro rs s1
    unfold makeS
    rw [Ok1.opt]
    refine exists_congr fun as => and_congr_right fun _ => ?_
    rw [Ok1.ite]
    by_cases n : (refs rs).Nodup
    · rw [if_pos n]
      cases e : F (.br (.obj C []) :: as) with
      | no => exact ⟨fun z => z.elim, fun z => z.2.elim⟩
      | ex c l s2 => exact ⟨fun z => z.elim, fun z => z.2.elim⟩
      | ok r s2 =>
        cases r with
        | o o => exact ⟨fun z => z.elim, fun z => by cases (Ok1.ok.mp z.2).1⟩
        | b j => exact ⟨fun z => z.elim, fun z => by cases (Ok1.ok.mp z.2).1⟩
        | d d =>
          cases d with
          | non =>
            constructor
            · intro z
              obtain ⟨as', e1, z⟩ := Ok1.opt.mp z
              split at z
              · obtain ⟨s3, e2, z⟩ := Ok1.opt.mp z
                exact ⟨n, Ok1.ok.mpr ⟨rfl, _, _, e1, s3, e2, Ok1.ok.mp z⟩⟩
              · exact z.elim
            · rintro ⟨_, z⟩
              obtain ⟨_, o, as2, e1, s3, e2, z⟩ := Ok1.ok.mp z
              refine Ok1.opt.mpr ⟨_, e1, ?_⟩
              exact Ok1.opt.mpr ⟨s3, e2, Ok1.ok.mpr z⟩
          | _ => exact ⟨fun z => z.elim, fun z => by cases (Ok1.ok.mp z.2).1⟩
    · rw [if_neg n]
      exact ⟨fun z => z.elim, fun z => (n z.1).elim⟩
  exact Ok1.congr fun rs s1 => key _ s1
theorem e_cn {β : Type} {z w : β} {r t : List β} : (z :: r = w :: t) ↔ (z = w ∧ r = t) := List.cons.injEq .. ▸ Iff.rfl
/-! attributes -/
def fldD (Cs : List Addr) (f : Str) : D → Option D
  | .obj C fs => if C ∈ Cs then fs.lookup f else none
  | _ => none
theorem k_fld {Cs : List Addr} : Ok1 (mFld Cs x ma s) Q ↔ Ok1 (ma s) fun r s1 => ∃ z, pk r s1 = some z ∧ ∃ d, fldD Cs x z = some d ∧ Q (.d d) s1 := by
  unfold mFld
  rw [Ok1.bind]
  have key : ∀ r s1, Ok1 (opt (pk r s1) fun z => match z with
    | .obj C fs => if C ∈ Cs then opt (fs.lookup x) fun d => .ok (.d d) s1 else .no
    | _ => .no) Q ↔ ∃ z, pk r s1 = some z ∧ ∃ d, fldD Cs x z = some d ∧ Q (.d d) s1 := by
    intro r s1
    rw [Ok1.opt]
    refine exists_congr fun z => and_congr_right fun _ => ?_
    cases z with
    | obj C fs =>
      dsimp only [fldD]
      split
      · rw [Ok1.opt]
        simp only [Ok1.ok]
      · exact ⟨fun z => z.elim, fun ⟨_, z, _⟩ => by cases z⟩
    | _ => exact ⟨fun z => z.elim, fun ⟨_, z, _⟩ => by cases z⟩
  exact Ok1.congr fun r s1 => key r s1
theorem e_fld {Cs : List Addr} : fldD Cs x (.obj C fs) = if C ∈ Cs then fs.lookup x else none := rfl
variable {N : SS → Prop} {T : Rv → SS → Prop} {B E : SS → Prop} {me mk : M Rv} {G : MG}
def objS : SV × OD → Option (SV × Addr × List (Str × D))
  | (v, .obj C l) => some (v, C, l)
  | _ => none
theorem k_setA {Cs : List Addr} : Oo (mSetA Cs i x me s) N T B E ↔ Ok1 (me s) fun r s1 => Ok1 (frz r s1) fun d s2 => ∃ z, (owS (s2[i]?)).bind objS = some z ∧ z.2.1 ∈ Cs ∧ z.2.2.length < 1000 ∧ N (s2.set i (some (z.1.put (.obj z.2.1 (putA x d z.2.2))))) := by
  unfold mSetA
  rw [Oo.out]
  have key : ∀ d s2, Oo (optO (ownAt s2 i) fun p => match p.2 with
    | .obj C l => if C ∈ Cs ∧ l.length < 1000 then .nx (s2.set i (some (p.1.put (.obj C (putA x d l))))) else .no
    | _ => .no) N T B E ↔ ∃ z, (owS (s2[i]?)).bind objS = some z ∧ z.2.1 ∈ Cs ∧ z.2.2.length < 1000 ∧ N (s2.set i (some (z.1.put (.obj z.2.1 (putA x d z.2.2))))) := by
    intro d s2
    rw [Oo.opt, e_ow]
    cases owS (s2[i]?) with
    | none => exact ⟨fun ⟨_, z, _⟩ => (by cases z), fun ⟨_, z, _⟩ => (by cases z)⟩
    | some p =>
      obtain ⟨v, o⟩ := p
      cases o with
      | obj C l =>
        constructor
        · rintro ⟨z, e, w⟩
          cases e
          dsimp only at w
          split at w
          · rename_i c
            exact ⟨_, rfl, c.1, c.2, Oo.nx.mp w⟩
          · exact w.elim
        · rintro ⟨z, e, c1, c2, w⟩
          cases e
          refine ⟨_, rfl, ?_⟩
          dsimp only
          rw [if_pos ⟨c1, c2⟩]
          exact Oo.nx.mpr w
      | _ => exact ⟨fun ⟨_, e, w⟩ => (by cases e; exact w.elim), fun ⟨_, z, _⟩ => (by cases z)⟩
  have k2 : ∀ r s1, Oo ((frz r s1).out fun d s2 => optO (ownAt s2 i) fun p => match p.2 with
    | .obj C l => if C ∈ Cs ∧ l.length < 1000 then .nx (s2.set i (some (p.1.put (.obj C (putA x d l))))) else .no
    | _ => .no) N T B E ↔ Ok1 (frz r s1) fun d s2 => ∃ z, (owS (s2[i]?)).bind objS = some z ∧ z.2.1 ∈ Cs ∧ z.2.2.length < 1000 ∧ N (s2.set i (some (z.1.put (.obj z.2.1 (putA x d z.2.2))))) := by
    intro r s1
    rw [Oo.out]
    exact Ok1.congr fun d s2 => key d s2
  exact Ok1.congr fun r s1 => k2 r s1
theorem e_ob1 {v : SV} : objS (v, .obj C fs) = some (v, C, fs) := rfl
theorem e_pa1 : putA x d [] = [(x, d)] := rfl
theorem e_pa2 {r : List (Str × D)} {z : D} : putA x d ((y, z) :: r) = if y = x then (y, d) :: r else (y, z) :: putA x d r := rfl
/-! targets -/
theorem k_asgG : Oo (mAsgG G me s) N T B E ↔ Ok1 (me s) fun r s1 => Ok1 (frz r s1) fun d s2 => ∃ s3, G d s2 = some s3 ∧ N s3 := by
  unfold mAsgG
  simp only [Oo.out, Oo.opt, Oo.nx]
theorem e_gn : mgName i d s = if feS (s[i]?) = true then some (s.set i (some (.fz d))) else none := by
  unfold mgName
  rw [e_fe]
theorem e_gnil : mgNil [] s = some s := rfl
theorem e_gcons {F : MG} {R : MGs} : mgCons F R (d :: l) s = (F d s).bind fun s1 => R l s1 := rfl
theorem e_gtup {n : Nat} {R : MGs} : mgTup n R (.tup l) s = if l.length = n then R l s else none := rfl
theorem e_gtuk {n : Nat} {R : MGs} : mgTup n R (.tuk l) s = if l.length = n then R l s else none := rfl
theorem e_gany1 {n : Nat} {R : MGs} : mgAny n R (.tup l) s = if l.length = n then R l s else none := rfl
theorem e_gany2 {n : Nat} {R : MGs} : mgAny n R (.lst l) s = if l.length = n then R l s else none := rfl
theorem e_gany3 {n : Nat} {R : MGs} : mgAny n R (.tuk l) s = if l.length = n then R l s else none := rfl
/-! dicts -/
theorem k_dput : Oo (mDPut i mk me s) N T B E ↔ Ok1 (me s) fun r s1 => Ok1 (frz r s1) fun d s2 => ∃ z, owS (s2[i]?) = some z ∧ Ok1 (mk s2) fun k s3 => ∃ y, pk k s3 = some y ∧ ∃ w, owS (s3[i]?) = some w ∧ ∃ o', oputD w.2 y d = some o' ∧ N (s3.set i (some (w.1.put o'))) := by
  unfold mDPut
  simp only [Oo.out, Oo.opt, Oo.nx, e_ow]
theorem e_opk {t : List (Key × D)} : oputD (.dk false t) d e = if t.length < 100000 then (keyK d).map fun k => .dk false (putD t k e) else none := rfl
theorem e_opt {t : List (List Key × D)} : oputD (.dt false t) d e = if t.length < 100000 then (keyT d).map fun k => .dt false (putD t k e) else none := rfl
theorem e_kt {l : List D} : keyT (.tup l) = keysK l := rfl
theorem e_kk1 : keyK (.int a) = some (.inl a) := rfl
theorem e_kk2 : keyK (.str x) = some (.inr x) := rfl
theorem e_ks1 : keysK [] = some [] := rfl
theorem e_ks2 {d : D} {l : List D} : keysK (d :: l) = (keyK d).bind fun k => (keysK l).map (k :: ·) := rfl
theorem e_dg1 {t : List (Key × D)} : dgetD (.dk t) d = (keyK d).map fun k => valD t k := rfl
theorem e_dg2 {t : List (List Key × D)} : dgetD (.dt t) d = (keyT d).map fun k => valD t k := rfl
theorem e_ixk : ixDk d e = (dgetD d e).bind fun o => o.map .d := rfl
theorem e_din : dinD d e = (dgetD e d).map fun o => .d (.bl o.isSome) := rfl
theorem e_dno : dnotD d e = (dgetD e d).map fun o => .d (.bl !o.isSome) := rfl
theorem k_dnT : Ok1 (mDNewT s) Q ↔ Q (.o (.dt false [])) s := Ok1.ok
theorem k_dnK : Ok1 (mDNewK s) Q ↔ Q (.o (.dk false [])) s := Ok1.ok
theorem k_get2 : Ok1 (mGet2 ma mb mc s) Q ↔ Ok1 (ma s) fun r1 s1 => ∃ x0, pk r1 s1 = some x0 ∧ if isDD x0 = true then Ok1 (mb s1) fun r2 s2 => Ok1 (mc s2) fun r3 s3 => Ok1 (frz r3 s3) fun z s4 => ∃ x, pk (nrm r1) s4 = some x ∧ ∃ y, pk (nrm r2) s4 = some y ∧ ∃ o, dgetD x y = some o ∧ Q (.d (o.getD z)) s4 else False := by
  unfold mGet2
  simp only [Ok1.bind, Ok1.opt, Ok1.ite, Ok1.ok, Ok1.no]
theorem e_dd1 {t : List (Key × D)} : isDD (.dk t) = true := rfl
theorem e_dd2 {t : List (List Key × D)} : isDD (.dt t) = true := rfl
def pairsM : List (Key × M Rv) → SS → (List (Key × D) → SS → Prop) → Prop
  | [], s, A => A [] s
  | (k, m) :: r, s, A => Ok1 (m s) fun v s1 => Ok1 (frz v s1) fun d s2 => pairsM r s2 fun ps s3 => A ((k, d) :: ps) s3
theorem pairsM_eq : ∀ {ps : List (Key × M Rv)} {s : SS} {A : List (Key × D) → SS → Prop}, Ok1 (mPairs ps s) A ↔ pairsM ps s A
  | [], _, _ => Ok1.ok
  | (k, m) :: r, s, A => by
    show Ok1 ((m s).bind fun v s1 => (frz v s1).bind fun d s2 => (mPairs r s2).bind fun ps s3 => .ok ((k, d) :: ps) s3) A ↔ _
    simp only [Ok1.bind, pairsM_eq, Ok1.ok]
    exact Iff.rfl
theorem e_pm1 {A : List (Key × D) → SS → Prop} : pairsM [] s A ↔ A [] s := Iff.rfl
theorem e_pm2 {k : Key} {r : List (Key × M Rv)} {A : List (Key × D) → SS → Prop} : pairsM ((k, ma) :: r) s A ↔ Ok1 (ma s) fun v s1 => Ok1 (frz v s1) fun d s2 => pairsM r s2 fun ps s3 => A ((k, d) :: ps) s3 := Iff.rfl
theorem k_disp {ps : List (Key × M Rv)} : Ok1 (mDisp ps s) Q ↔ if ps.length ≤ 15 then pairsM ps s fun l s1 => Q (.o (.dk false (mergeD [] l))) s1 else False := by
  unfold mDisp
  simp only [Ok1.ite, Ok1.bind, pairsM_eq, Ok1.ok, Ok1.no]
/-! own [] and in, snapshots -/
def isOb (C : Addr) : D → Prop
  | .obj C' _ => C' = C
  | _ => False
theorem k_og {F : MF} : Ok1 (mOG C F ma mb s) Q ↔ Ok1 (ma s) fun r s1 => Ok1 (mb s1) fun r2 s2 => Ok1 (frz r2 s2) fun d s3 => ∃ z, pk (nrm r) s3 = some z ∧ isOb C z ∧ Ok1 (noEx (callS F [nrm r, .d d] s3)) Q := by
  unfold mOG
  simp only [Ok1.bind]
  have key : ∀ r d s3, Ok1 (opt (pk (nrm r) s3) fun x => match x with
    | .obj C' _ => if C' = C then noEx (callS F [nrm r, .d d] s3) else .no
    | _ => .no) Q ↔ ∃ z, pk (nrm r) s3 = some z ∧ isOb C z ∧ Ok1 (noEx (callS F [nrm r, .d d] s3)) Q := by
    intro r d s3
    rw [Ok1.opt]
    refine exists_congr fun z => and_congr_right fun _ => ?_
    cases z with
    | obj C' l =>
      dsimp only [isOb]
      split
      · rename_i c
        exact ⟨fun w => ⟨c, w⟩, fun w => w.2⟩
      · rename_i c
        exact ⟨fun w => w.elim, fun w => (c w.1).elim⟩
    | _ => exact ⟨fun w => w.elim, fun w => w.1.elim⟩
  exact Ok1.congr fun r s1 => Ok1.congr fun r2 s2 => Ok1.congr fun d s3 => key r d s3
theorem e_iob : isOb C (.obj C' fs) ↔ C' = C := Iff.rfl
theorem k_oi {neg : Bool} {F : MF} : Ok1 (mOI neg C F ma mb s) Q ↔ Ok1 (ma s) fun r1 s1 => Ok1 (frz r1 s1) fun d s2 => Ok1 (mb s2) fun r s3 => ∃ z, pk (nrm r) s3 = some z ∧ isOb C z ∧ Ok1 (noEx (callS F [nrm r, .d d] s3)) fun r4 s4 => ∃ b, (pk r4 s4).bind blD = some b ∧ Q (.d (.bl (if neg = true then !b else b))) s4 := by
  unfold mOI
  simp only [Ok1.bind]
  have key : ∀ r d s3, Ok1 (opt (pk (nrm r) s3) fun x => match x with
    | .obj C' _ => if C' = C then (noEx (callS F [nrm r, .d d] s3)).bind fun r4 s4 => opt ((pk r4 s4).bind blD) fun b => .ok (.d (.bl (if neg then !b else b))) s4 else .no
    | _ => .no) Q ↔ ∃ z, pk (nrm r) s3 = some z ∧ isOb C z ∧ Ok1 (noEx (callS F [nrm r, .d d] s3)) fun r4 s4 => ∃ b, (pk r4 s4).bind blD = some b ∧ Q (.d (.bl (if neg = true then !b else b))) s4 := by
    intro r d s3
    rw [Ok1.opt]
    refine exists_congr fun z => and_congr_right fun _ => ?_
    cases z with
    | obj C' l =>
      dsimp only [isOb]
      split
      · rename_i c
        rw [Ok1.bind]
        simp only [Ok1.opt, Ok1.ok]
        exact ⟨fun w => ⟨c, w⟩, fun w => w.2⟩
      · rename_i c
        exact ⟨fun w => w.elim, fun w => (c w.1).elim⟩
    | _ => exact ⟨fun w => w.elim, fun w => w.1.elim⟩
  exact Ok1.congr fun r1 s1 => Ok1.congr fun d s2 => Ok1.congr fun r s3 => key r d s3
theorem snap_d {F : MF} {t : SS} {z : SV × OD} {d : D} (h0 : owS (s[i]?) = some z) (h1 : isDo z.2 = true) (h2 : F [.fz z.2.fz] = .ok (.d d) t) (h3 : ∃ as, svs t = some as) (h4 : noD d = true) : mSnap i F s = .ok (.d d) s := by
  unfold mSnap
  rw [e_ow, h0]
  show (if isDo z.2 = true then _ else _) = _
  rw [if_pos h1, h2]
  obtain ⟨as, h3⟩ := h3
  show opt (svs t) _ = _
  rw [h3]
  exact if_pos h4
theorem k_index : Ok1 (mIndex ma mb s) Q ↔ Ok1 (ma s) fun r1 s1 => ∃ l, (pk (nrm r1) s1).bind lstD = some l ∧ Ok1 (mb s1) fun r2 s2 => ∃ x, pk (nrm r1) s2 = some x ∧ ∃ y, pk r2 s2 = some y ∧ Ok1 (outR (indexD x y) s2) Q := by
  unfold mIndex
  simp only [Ok1.bind, Ok1.opt]
theorem k_isi {Tb : IsTab} : Ok1 (mIsi Tb ma s) Q ↔ Ok1 (ma s) fun r1 s1 => ∃ z, pk r1 s1 = some z ∧ ∃ b, isiB Tb z = some b ∧ Q (.d (.bl b)) s1 := by
  unfold mIsi
  rw [k_un]
  have key : ∀ z s1, Ok1 (outR ((isiB Tb z).map fun b => .d (.bl b)) s1) Q ↔ ∃ b, isiB Tb z = some b ∧ Q (.d (.bl b)) s1 := by
    intro z s1
    cases isiB Tb z with
    | none => exact ⟨fun w => w.elim, fun ⟨_, w, _⟩ => (by cases w)⟩
    | some b => exact ⟨fun w => ⟨b, rfl, Ok1.ok.mp w⟩, fun ⟨_, w, z⟩ => (by cases w; exact Ok1.ok.mpr z)⟩
  simp only [key]
theorem k_chain {mx : M Rv} : Ok1 (mChain f g ma mb mx s) Q ↔ Ok1 (ma s) fun r1 s1 => Ok1 (mb s1) fun r2 s2 => ∃ x, pk (nrm r1) s2 = some x ∧ ∃ y, pk (nrm r2) s2 = some y ∧ ∃ c, f x y = some (.d (.bl c)) ∧ if c = true then Ok1 (mx s2) fun r3 s3 => ∃ y, pk (nrm r2) s3 = some y ∧ ∃ z, pk r3 s3 = some z ∧ Ok1 (outR (g y z) s3) Q else Q (.d (.bl false)) s2 := by
  unfold mChain
  simp only [Ok1.bind, Ok1.opt]
  have key : ∀ r2 s2 x y, Ok1 (match f x y with
    | some (.d (.bl true)) => (mx s2).bind fun r3 s3 => opt (pk (nrm r2) s3) fun y => opt (pk r3 s3) fun z => outR (g y z) s3
    | some (.d (.bl false)) => .ok (.d (.bl false)) s2
    | _ => .no) Q ↔ ∃ c, f x y = some (.d (.bl c)) ∧ if c = true then Ok1 (mx s2) fun r3 s3 => ∃ y, pk (nrm r2) s3 = some y ∧ ∃ z, pk r3 s3 = some z ∧ Ok1 (outR (g y z) s3) Q else Q (.d (.bl false)) s2 := by
    intro r2 s2 x y
    cases e : f x y with
    | none => exact ⟨fun w => w.elim, fun ⟨_, w, _⟩ => (by cases w)⟩
    | some r =>
      cases r with
      | d d =>
        cases d with
        | bl c =>
          cases c with
          | true =>
            dsimp only
            simp only [Ok1.bind, Ok1.opt]
            exact ⟨fun w => ⟨true, rfl, w⟩, fun ⟨c, e, w⟩ => (by cases e; exact w)⟩
          | false => exact ⟨fun w => ⟨false, rfl, Ok1.ok.mp w⟩, fun ⟨c, e, w⟩ => (by cases e; exact Ok1.ok.mpr w)⟩
        | _ => exact ⟨fun w => w.elim, fun ⟨_, w, _⟩ => (by cases w)⟩
      | _ => exact ⟨fun w => w.elim, fun ⟨_, w, _⟩ => (by cases w)⟩
  exact Ok1.congr fun r1 s1 => Ok1.congr fun r2 s2 => exists_congr fun x => and_congr_right fun _ => exists_congr fun y => and_congr_right fun _ => key r2 s2 x y
end
end Cz

/-! # DaH -/
namespace Cz
open L2 PyProof.Rows PySem.Spec PySem

/-! ## comprehensions whose parts change nothing -/
section
variable {s : SS} {i : Nat} {Q : Rv → SS → Prop} {f : MG} {mt : M Bool} {me mk : M Rv} {vs : List Nat} {α : Type}
theorem Ok1.get {r : R α} {P : α → SS → Prop} (h : Ok1 r P) : ∃ a s, r = .ok a s ∧ P a s := by
  cases r with
  | ok a s => exact ⟨a, s, rfl, Ok1.ok.mp h⟩
  | ex c l s => exact h.elim
  | no => exact h.elim
/-- one turn that gives v of d where t says so -/
def TurnP (f : MG) (mt : M Bool) (me : M Rv) (vs : List Nat) (t : D → Bool) (v : D → D) (s : SS) (d : D) : Prop :=
  ∃ s1, f d s = some s1 ∧ Ok1 (mt s1) fun b s2 => b = t d ∧ if b = true then Ok1 (me s2) fun r s3 => Ok1 (frz r s3) fun e s4 => e = v d ∧ loose s4 vs = true ∧ wipeS s4 vs = s else loose s2 vs = true ∧ wipeS s2 vs = s
theorem loopC_pure {t : D → Bool} {v : D → D} : ∀ {ds acc : List D}, acc.length + ds.length ≤ 100000 → (∀ d ∈ ds, TurnP f mt me vs t v s d) → loopC f mt me vs ds acc s = .ok (acc ++ (ds.filter t).map v) s
  | [], acc, _, _ => by
    show R.ok acc s = _
    simp
  | d :: ds, acc, hl, h => by
    obtain ⟨s1, e1, q⟩ := h d List.mem_cons_self
    obtain ⟨b, s2, e2, hb, q⟩ := q.get
    show opt (f d s) _ = _
    rw [e1]
    show (noX (mt s1)).bind _ = _
    rw [e2]
    have hl' : acc.length + (ds.length + 1) ≤ 100000 := hl
    cases b with
    | true =>
      rw [if_pos rfl] at q
      obtain ⟨r, s3, e3, q⟩ := q.get
      obtain ⟨e, s4, e4, q1, q2, q3⟩ := q.get
      show (noX (me s2)).bind _ = _
      rw [e3]
      show (frz r s3).bind _ = _
      rw [e4]
      show (if loose s4 vs = true ∧ acc.length < 100000 then _ else _) = _
      rw [if_pos ⟨q2, by omega⟩, q3, loopC_pure (by rw [List.length_append, List.length_singleton]; omega) fun c hc => h c (List.mem_cons_of_mem _ hc), List.filter_cons, if_pos hb.symm, List.map_cons, q1, List.append_assoc]
      rfl
    | false =>
      rw [if_neg (by decide)] at q
      show (if loose s2 vs = true then _ else _) = _
      rw [if_pos q.1, q.2, loopC_pure (by omega) fun c hc => h c (List.mem_cons_of_mem _ hc), List.filter_cons, if_neg (by rw [← hb]; decide)]
theorem Ok1.lcP {mi : M (List D)} (t : D → Bool) (v : D → D) (h : Ok1 (mi s) fun ds s1 => loose s1 vs = true ∧ ds.length ≤ 100000 ∧ (∀ d ∈ ds, TurnP f mt me vs t v (wipeS s1 vs) d) ∧ Q (.o (.lst ((ds.filter t).map v))) (restS s1 (wipeS s1 vs) vs)) : Ok1 (mLc mi f mt me vs s) Q := by
  refine Ok1.lc (h.mono fun ds s1 z => ?_)
  obtain ⟨h1, h2, h3, h4⟩ := z
  refine ⟨h1, ?_⟩
  rw [loopC_pure (by simpa using h2) h3]
  exact Ok1.ok.mpr h4
/-- without a test -/
theorem Ok1.lcM {mi : M (List D)} (v : D → D) (h : Ok1 (mi s) fun ds s1 => loose s1 vs = true ∧ ds.length ≤ 100000 ∧ (∀ d ∈ ds, ∃ s2, f d (wipeS s1 vs) = some s2 ∧ Ok1 (me s2) fun r s3 => Ok1 (frz r s3) fun e s4 => e = v d ∧ loose s4 vs = true ∧ wipeS s4 vs = wipeS s1 vs) ∧ Q (.o (.lst (ds.map v))) (restS s1 (wipeS s1 vs) vs)) : Ok1 (mLc mi f mYes me vs s) Q := by
  refine Ok1.lcP (fun _ => true) v (h.mono fun ds s1 z => ?_)
  obtain ⟨h1, h2, h3, h4⟩ := z
  refine ⟨h1, h2, fun d hd => ?_, ?_⟩
  · obtain ⟨s2, e, q⟩ := h3 d hd
    exact ⟨s2, e, Ok1.ok.mpr ⟨rfl, by rw [if_pos rfl]; exact q⟩⟩
  · rw [List.filter_eq_self.mpr fun _ _ => rfl]
    exact h4
theorem Ok1.lcD {Q : Rv → SS → Prop} (h : Ok1 (mLc (mKeys i) f mt me vs s) Q) : Ok1 (mLcD i f mt me vs s) Q := by
  unfold mLcD
  rw [Ok1.noEx]
  exact h
def fzS : Option (Option SV) → Prop
  | some (some (.fz _)) => True
  | _ => False
theorem k_keys {P : List D → SS → Prop} : Ok1 (mKeys i s) P ↔ Ok1 (frz (.b i) s) fun d s1 => fzS (s1[i]?) ∧ ∃ ks, keysD d = some ks ∧ P ks s1 := by
  unfold mKeys
  rw [Ok1.bind]
  refine Ok1.congr fun d s1 => ?_
  cases s1[i]? with
  | none => exact ⟨fun w => w.elim, fun w => w.1.elim⟩
  | some x =>
    cases x with
    | none => exact ⟨fun w => w.elim, fun w => w.1.elim⟩
    | some sv =>
      cases sv with
      | fz d' =>
        dsimp only
        simp only [Ok1.opt, Ok1.ok]
        exact ⟨fun w => ⟨trivial, w⟩, fun w => w.2⟩
      | _ => exact ⟨fun w => w.elim, fun w => w.1.elim⟩
theorem e_fzs {d : D} : fzS (some (some (.fz d))) ↔ True := Iff.rfl
variable {N : SS → Prop} {T : Rv → SS → Prop} {B E : SS → Prop} {b : MS}
theorem k_forD : Oo (mForD i f b s) N T B E ↔ Ok1 (frz (.b i) s) fun d s1 => fzS (s1[i]?) ∧ ∃ ks, keysD d = some ks ∧ Oo (loop f b ks s1) N T B E := by
  unfold mForD
  rw [Oo.out]
  refine Ok1.congr fun d s1 => ?_
  have ne : ∀ o : Out, Oo (noE o) N T B E ↔ Oo o N T B E := fun o => by (unfold Oo; cases o <;> exact Iff.rfl)
  cases s1[i]? with
  | none => exact ⟨fun w => w.elim, fun w => w.1.elim⟩
  | some x =>
    cases x with
    | none => exact ⟨fun w => w.elim, fun w => w.1.elim⟩
    | some sv =>
      cases sv with
      | fz d' =>
        dsimp only
        rw [Oo.opt]
        simp only [ne]
        exact ⟨fun w => ⟨trivial, w⟩, fun w => w.2⟩
      | _ => exact ⟨fun w => w.elim, fun w => w.1.elim⟩
/-- a dict by a comprehension, all parts of which change nothing; tuple keys -/
theorem loopD_pure {kk : D → List Key} {k v : D → D} : ∀ {ds : List D} {t : List (List Key × D)}, (∀ d ∈ ds, keyT (k d) = some (kk d)) → t.length + ds.length < 100000 →
    (∀ d ∈ ds, ∃ s1, f d s = some s1 ∧ Ok1 (mk s1) fun r s2 => Ok1 (frz r s2) fun e s3 => e = k d ∧ Ok1 (me s3) fun r2 s4 => Ok1 (frz r2 s4) fun e2 s5 => e2 = v d ∧ loose s5 vs = true ∧ wipeS s5 vs = s) →
    loopD f mYes mk me vs ds (.dt false t) s = .ok (.dt false (ds.foldl (fun t d => putD t (kk d) (v d)) t)) s
  | [], t, _, _, _ => rfl
  | d :: ds, t, hk, hl, h => by
    obtain ⟨s1, e1, q⟩ := h d List.mem_cons_self
    have hl' : t.length + (ds.length + 1) < 100000 := hl
    obtain ⟨r, s2, e2, q⟩ := q.get
    obtain ⟨e, s3, e3, rfl, q⟩ := q.get
    obtain ⟨r2, s4, e4, q⟩ := q.get
    obtain ⟨z, s5, e5, rfl, q2, q3⟩ := q.get
    show opt (f d s) _ = _
    rw [e1]
    show (noX (mk s1)).bind _ = _
    rw [e2]
    show (frz r s2).bind _ = _
    rw [e3]
    show (noX (me s3)).bind _ = _
    rw [e4]
    show (frz r2 s4).bind _ = _
    rw [e5]
    have eo : oputD (.dt false t) (k d) (v d) = some (.dt false (putD t (kk d) (v d))) := by
      rw [e_opt, if_pos (by omega), hk d List.mem_cons_self]
      rfl
    show opt (oputD (.dt false t) (k d) (v d)) _ = _
    rw [eo]
    show (if loose s5 vs = true then _ else _) = _
    have lp : (putD t (kk d) (v d)).length ≤ t.length + 1 := by
      unfold putD
      split
      · rw [List.length_map]
        omega
      · (rw [List.length_append, List.length_singleton])
        exact Nat.le_refl _
    rw [if_pos q2, q3, loopD_pure (fun c hc => hk c (List.mem_cons_of_mem _ hc)) (by omega) fun c hc => h c (List.mem_cons_of_mem _ hc)]
    rfl
theorem Ok1.dcM {mi : M (List D)} (kk : D → List Key) (k v : D → D) (h : Ok1 (mi s) fun ds s1 => loose s1 vs = true ∧ ds.length < 100000 ∧ (∀ d ∈ ds, keyT (k d) = some (kk d)) ∧
    (∀ d ∈ ds, ∃ s2, f d (wipeS s1 vs) = some s2 ∧ Ok1 (mk s2) fun r s3 => Ok1 (frz r s3) fun e s4 => e = k d ∧ Ok1 (me s4) fun r2 s5 => Ok1 (frz r2 s5) fun e2 s6 => e2 = v d ∧ loose s6 vs = true ∧ wipeS s6 vs = wipeS s1 vs) ∧
    Q (.o (.dt false (ds.foldl (fun t d => putD t (kk d) (v d)) []))) (restS s1 (wipeS s1 vs) vs)) : Ok1 (mDc (.dt false []) mi f mYes mk me vs s) Q := by
  unfold mDc
  rw [Ok1.bind]
  refine h.mono fun ds s1 z => ?_
  obtain ⟨h1, h2, hk, h3, h4⟩ := z
  rw [if_pos h1, Ok1.bind, loopD_pure hk (by simpa using h2) h3]
  exact Ok1.ok.mpr (Ok1.ok.mpr h4)
end
theorem e_lo1 {s : SS} : loose s [] = true := rfl
def lsB : Option (Option SV) → Bool
  | some (some (.fz _)) => true
  | some none => true
  | _ => false
theorem e_lo2 {s : SS} {v : Nat} {vs : List Nat} : loose s (v :: vs) = (lsB (s[v]?) && loose s vs) := by
  unfold loose
  rw [List.all_cons]
  congr 1
theorem e_lb1 {d : D} : lsB (some (some (.fz d))) = true := rfl
theorem e_lb2 : lsB (some none) = true := rfl
theorem e_wi1 {s : SS} : wipeS s [] = s := rfl
theorem e_wi2 {s : SS} {v : Nat} {vs : List Nat} : wipeS s (v :: vs) = (wipeS s vs).set v none := rfl
theorem e_re1 {s t : SS} : restS s t [] = t := rfl
theorem e_re2 {s t : SS} {v : Nat} {vs : List Nat} : restS s t (v :: vs) = (restS s t vs).set v ((s[v]?).getD none) := rfl
/-! ranges, enumerate -/
@[irreducible] def InR (k : Int) : Prop := -(2 ^ 62) ≤ k ∧ k < 2 ^ 62
theorem e_inr {k : Int} (h1 : -1000000 ≤ k) (h2 : k ≤ 1000000) : InR k := by
  unfold InR
  omega
theorem e_inrN {n : Nat} (h2 : n ≤ 1000000) : InR (n : Int) := e_inr (by omega) (by omega)
def int1 : List D → Option Int
  | [.int k] => some k
  | _ => none
theorem e_i1 {k : Int} : int1 [.int k] = some k := rfl
theorem k_rng1 {ma : M (List Rv)} {s : SS} {Q : List D → SS → Prop} : Ok1 (mRng rng1D ma s) Q ↔ Ok1 (ma s) fun rs s1 => ∃ l, allD rs = some l ∧ ∃ k, int1 l = some k ∧ InR k ∧ Q (upTo k.toNat) s1 := by
  unfold mRng
  rw [Ok1.bind]
  refine Ok1.congr fun rs s1 => ?_
  rw [Ok1.opt]
  constructor
  · rintro ⟨l, e, q⟩
    rw [Option.bind_eq_some_iff] at e
    obtain ⟨ds, e1, e2⟩ := e
    refine ⟨ds, e1, ?_⟩
    unfold rng1D at e2
    split at e2
    · split at e2
      · rename_i k c
        cases e2
        exact ⟨k, rfl, by (unfold InR; exact c), Ok1.ok.mp q⟩
      · cases e2
    · cases e2
  · rintro ⟨l, e1, k, e2, c, q⟩
    have el : l = [.int k] := by
      unfold int1 at e2
      split at e2
      · cases e2
        rfl
      · cases e2
    subst el
    refine ⟨upTo k.toNat, ?_, Ok1.ok.mpr q⟩
    rw [e1]
    unfold InR at c
    exact if_pos c
theorem k_rngE {ma : M (List Rv)} {s : SS} {Q : List D → SS → Prop} : Ok1 (mRng enumA ma s) Q ↔ Ok1 (ma s) fun rs s1 => ∃ l, allD rs = some l ∧ ∃ m, enumA l = some m ∧ Q m s1 := by
  unfold mRng
  rw [Ok1.bind]
  refine Ok1.congr fun rs s1 => ?_
  rw [Ok1.opt]
  exact ⟨fun ⟨m, e, q⟩ => by rw [Option.bind_eq_some_iff] at e; obtain ⟨l, e1, e2⟩ := e; exact ⟨l, e1, m, e2, Ok1.ok.mp q⟩, fun ⟨l, e1, m, e2, q⟩ => ⟨m, by rw [e1]; exact e2, Ok1.ok.mpr q⟩⟩
theorem e_ea1 {l : List D} : enumA [.tup l] = some (pairsD (nums l.length) l) := rfl
theorem e_ea2 {l : List D} : enumA [.lst l] = some (pairsD (nums l.length) l) := rfl
theorem e_ea3 {l : List D} : enumA [.rol l] = some (pairsD (nums l.length) l) := rfl
theorem e_ea4 {l : List D} : enumA [.tuk l] = some (pairsD (nums l.length) l) := rfl
theorem e_gd {α : Type} {x y : α} : (some x).getD y = x := rfl
end Cz

/-! # DbF -/
namespace Cz
open L2 PyProof.Rows PySem.Spec PySem

/-! ## rules that run the newer mirrors -/
section
variable {s : SS} {i j : Nat} {d : D} {o : OD} {l : List D} {C : Addr} {Q : Rv → SS → Prop} {f : MG} {ma mb me : M Rv} {fl : Str} {fs : List (Str × D)}
variable {N : SS → Prop} {T : Rv → SS → Prop} {B E : SS → Prop}
theorem k_ol {F : MF} : Ok1 (mOL C F ma s) Q ↔ Ok1 (ma s) fun r s1 => ∃ z, pk (nrm r) s1 = some z ∧ isOb C z ∧ Ok1 (noEx (callS F [nrm r] s1)) fun r4 s4 => ∃ n, (pk r4 s4).bind intOf = some n ∧ (0 ≤ n ∧ n < 2 ^ 63) ∧ Q (.d (.int n)) s4 := by
  unfold mOL
  simp only [Ok1.bind]
  refine Ok1.congr fun r s1 => ?_
  rw [Ok1.opt]
  refine exists_congr fun z => and_congr_right fun _ => ?_
  cases z with
  | obj C' l =>
    dsimp only [isOb]
    split
    · rename_i c
      rw [Ok1.bind]
      simp only [Ok1.opt, Ok1.ite, Ok1.ok, Ok1.no]
      refine ⟨fun w => ⟨c, w.mono fun r4 s4 ⟨n, h, q⟩ => ⟨n, h, ?_⟩⟩, fun w => w.2.mono fun r4 s4 ⟨n, h, q1, q2⟩ => ⟨n, h, by rw [if_pos q1]; exact q2⟩⟩
      split at q
      · rename_i c2
        exact ⟨c2, q⟩
      · exact q.elim
    · rename_i c
      exact ⟨fun w => w.elim, fun w => (c w.1).elim⟩
  | _ => exact ⟨fun w => w.elim, fun w => w.1.elim⟩
theorem k_ob {F : MF} : Ok1 (mOB C F ma s) Q ↔ Ok1 (ma s) fun r s1 => ∃ z, pk (nrm r) s1 = some z ∧ isOb C z ∧ Ok1 (noEx (callS F [nrm r] s1)) fun r4 s4 => ∃ b, (pk r4 s4).bind blD = some b ∧ Q (.d (.bl b)) s4 := by
  unfold mOB
  simp only [Ok1.bind]
  refine Ok1.congr fun r s1 => ?_
  rw [Ok1.opt]
  refine exists_congr fun z => and_congr_right fun _ => ?_
  cases z with
  | obj C' l =>
    dsimp only [isOb]
    split
    · rename_i c
      rw [Ok1.bind]
      simp only [Ok1.opt, Ok1.ok]
      exact ⟨fun w => ⟨c, w⟩, fun w => w.2⟩
    · rename_i c
      exact ⟨fun w => w.elim, fun w => (c w.1).elim⟩
  | _ => exact ⟨fun w => w.elim, fun w => w.1.elim⟩
def ownIt (C : Addr) (fl : Str) : D → Option (List D)
  | .obj C' l => if C' = C then (l.lookup fl).bind tupL else none
  | _ => none
theorem k_oit {P : List D → SS → Prop} : Ok1 (mOwnIt C fl ma s) P ↔ Ok1 (ma s) fun r s1 => ∃ z, pk r s1 = some z ∧ ∃ ds, ownIt C fl z = some ds ∧ P ds s1 := by
  unfold mOwnIt
  rw [Ok1.bind]
  refine Ok1.congr fun r s1 => ?_
  rw [Ok1.opt]
  refine exists_congr fun z => and_congr_right fun _ => ?_
  cases z with
  | obj C' l =>
    unfold ownIt
    dsimp only
    split
    · rw [Ok1.opt]
      simp only [Ok1.ok]
    · exact ⟨fun w => w.elim, fun ⟨_, w, _⟩ => by cases w⟩
  | _ => exact ⟨fun w => w.elim, fun ⟨_, w, _⟩ => by cases w⟩
theorem e_oit {C' : Addr} : ownIt C fl (.obj C' fs) = if C' = C then (fs.lookup fl).bind tupL else none := rfl
theorem e_tpl {l : List D} : tupL (.tup l) = some l := rfl
theorem k_par : Oo (mPar i j ma mb s) N T B E ↔ Ok1 (ma s) fun r1 s1 => Ok1 (mb s1) fun r2 s2 => ∃ s3, stV i r1 s2 = some s3 ∧ ∃ s4, stV j r2 s3 = some s4 ∧ N s4 := by
  unfold mPar
  simp only [Oo.out, Oo.opt, Oo.nx]
theorem e_st1 : stV i (.d d) s = if feS (s[i]?) = true then some (s.set i (some (.fz d))) else none := by
  unfold stV
  rw [e_fe]
theorem e_st2 : stV i (.o o) s = if feS (s[i]?) = true then some (s.set i (some (.ow o))) else none := by
  unfold stV
  rw [e_fe]
theorem k_star {A : List Rv → SS → Prop} {mr : M (List Rv)} : Ok1 (mAStar me mr s) A ↔ Ok1 (me s) fun r s1 => Ok1 (frz r s1) fun d s2 => ∃ l, seqD d = some l ∧ Ok1 (mr s2) fun rs s3 => A (l.map .d ++ rs) s3 := by
  unfold mAStar
  simp only [Ok1.bind, Ok1.opt, Ok1.ok]
theorem e_sq1 {l : List D} : seqD (.tup l) = some l := rfl
theorem e_sq2 {l : List D} : seqD (.lst l) = some l := rfl
theorem k_tupRg : Ok1 (mTupRg ma s) Q ↔ Ok1 (ma s) fun r s1 => ∃ n, (pk r s1).bind intOf = some n ∧ (0 ≤ n ∧ n ≤ 16777216) ∧ Q (.d (.tup (rgD n))) s1 := by
  unfold mTupRg
  rw [Ok1.bind]
  refine Ok1.congr fun r s1 => ?_
  rw [Ok1.opt]
  refine exists_congr fun n => and_congr_right fun _ => ?_
  rw [Ok1.ite, Ok1.ok, Ok1.no]
  split
  · rename_i c
    exact ⟨fun w => ⟨c, w⟩, fun w => w.2⟩
  · rename_i c
    exact ⟨fun w => w.elim, fun w => c w.1⟩
theorem e_sset {ns : List Int} (h : ns.length < 60) : sortSetD (.lst (ns.map .int)) = some (.o (.lst ((ascI ns).map .int))) := by
  show (intsL (ns.map D.int)).bind _ = _
  rw [intsL_map, Option.bind_some, if_pos h]
theorem e_mint {a : Int} {ns : List Int} : minTD (.tup (.int a :: ns.map .int)) = some (.d (.int (least a ns))) := by
  show (intsD ((a :: ns).map D.int)).bind _ = _
  rw [show intsD ((a :: ns).map D.int) = some (a :: ns) from ?_]
  · rfl
  · generalize a :: ns = l
    induction l with
    | nil => rfl
    | cons x l ih =>
      show (intsD (l.map D.int)).map (x :: ·) = _
      rw [ih]
      rfl
theorem e_min2 {a b : Int} : minTD (.tup [.int a, .int b]) = some (.d (.int (if b < a then b else a))) := rfl
theorem e_max2 {a b : Int} : maxTD (.tup [.int a, .int b]) = some (.d (.int (if b > a then b else a))) := rfl
theorem intsD_map : ∀ ns : List Int, intsD (ns.map D.int) = some ns
  | [] => rfl
  | x :: l => by
    show (intsD (l.map D.int)).map (x :: ·) = _
    rw [intsD_map l]
    rfl
theorem e_minL {a : Int} {ns : List Int} : minD (.lst ((a :: ns).map .int)) = some (.d (.int (least a ns))) := by
  show (intsD ((a :: ns).map D.int)).bind _ = _
  rw [intsD_map]
  rfl
theorem e_maxL {a : Int} {ns : List Int} : maxD (.lst ((a :: ns).map .int)) = some (.d (.int (most a ns))) := by
  show (intsD ((a :: ns).map D.int)).bind _ = _
  rw [intsD_map]
  rfl
end
def mthS (C : Addr) (m : Str) : D → Prop
  | .obj C' fs => C' = C ∧ fs.lookup m = none
  | _ => False
theorem k_meth {C : Addr} {m : Str} {f : MF} {ds : List D} {mo : M Rv} {ma : M (List Rv)} {s : SS} {Q : Rv → SS → Prop} : Ok1 (mMeth C m f ds mo ma s) Q ↔ Ok1 (mo s) fun r s1 => ∃ x, pk (nrm r) s1 = some x ∧ mthS C m x ∧ Ok1 (ma s1) fun rs s2 => Ok1 (noEx (callS f (nrm r :: (rs ++ ds.map .d)) s2)) Q := by
  unfold mMeth
  rw [Ok1.bind]
  have key : ∀ r s1, Ok1 (opt (pk (nrm r) s1) fun x => match x with
    | .obj C' fs => if C' = C ∧ fs.lookup m = none then (ma s1).bind fun rs s2 => noEx (callS f (nrm r :: (rs ++ ds.map .d)) s2) else .no
    | _ => .no) Q ↔ ∃ x, pk (nrm r) s1 = some x ∧ mthS C m x ∧ Ok1 (ma s1) fun rs s2 => Ok1 (noEx (callS f (nrm r :: (rs ++ ds.map .d)) s2)) Q := by
    intro r s1
    rw [Ok1.opt]
    refine exists_congr fun z => and_congr_right fun _ => ?_
    cases z with
    | obj C' l =>
      dsimp only [mthS]
      split
      · rename_i c
        rw [Ok1.bind]
        exact ⟨fun w => ⟨c, w⟩, fun w => w.2⟩
      · rename_i c
        exact ⟨fun w => w.elim, fun w => (c w.1).elim⟩
    | _ => exact ⟨fun w => w.elim, fun w => w.1.elim⟩
  exact Ok1.congr fun r s1 => key r s1
theorem e_mth {C C' : Addr} {m : Str} {fs : List (Str × D)} : mthS C m (.obj C' fs) ↔ C' = C ∧ fs.lookup m = none := Iff.rfl
end Cz

/-! # DbG -/
namespace Cz
open L2 PyProof.Rows PySem.Spec PySem
variable {K : PySem.W.Frag}
/-! ## an expression that only reads a list that is written to later: it is data for that time -/
mutual
def noL : D → Bool
  | .tup l => noLs l
  | .tuk l => noLs l
  | .non => true
  | .bl _ => true
  | .int _ => true
  | .str _ => true
  | _ => false
def noLs : List D → Bool
  | [] => true
  | d :: ds => noL d && noLs ds
end
section
variable {F : Hp} {p : Addr} {ys : List V}
mutual
theorem Rp.outL (h : F p = some (.lst ys)) : ∀ {d : D} {v : V}, Rp K F d v → noL d = true → Rp K (outF F p) d v
  | _, _, .non, _ => .non
  | _, _, .bl b, _ => .bl b
  | _, _, .int i, _ => .int i
  | _, _, .str x, _ => .str x
  | _, _, .ref a, q => by simp only [noL, reduceCtorEq] at q
  | _, _, .ty t, q => by simp only [noL, reduceCtorEq] at q
  | _, _, .tup (a := a) (xs := xs) e r, q => by
    have n : a ≠ p := fun z => by
      rw [z, h] at e
      cases e
    exact .tup (by rw [outF_ne n]; exact e) (r.outL h (by simpa only [noL] using q))
  | _, _, .tuk (a := a) (xs := xs) e r, q => by
    refine .tuk ?_ (r.outL h (by simpa only [noL] using q))
    rcases e with e | e
    · refine .inl (outF_rd (fun z => ?_) e)
      rcases e with e | ⟨_, e⟩ <;> rw [z, h] at e <;> cases e
    · exact .inr e
  | _, _, .lst _ _, q => by simp only [noL, reduceCtorEq] at q
  | _, _, .rol _ _, q => by simp only [noL, reduceCtorEq] at q
  | _, _, .dk _ _, q => by simp only [noL, reduceCtorEq] at q
  | _, _, .dt _ _, q => by simp only [noL, reduceCtorEq] at q
  | _, _, .obj _ _, q => by simp only [noL, reduceCtorEq] at q
theorem RpL.outL (h : F p = some (.lst ys)) : ∀ {d : List D} {v : List V}, RpL K F d v → noLs d = true → RpL K (outF F p) d v
  | _, _, .nil, _ => .nil
  | _, _, .cons a r, q => by
    rw [noLs, Bool.and_eq_true] at q
    exact .cons (a.outL h q.1) (r.outL h q.2)
end
end
def onlyFz : Option SV → Option SV
  | some (.fz d) => some (.fz d)
  | _ => none
def snapS (s : SS) (i : Nat) (d : D) : SS := (s.map onlyFz).set i (some (.fz d))
def mSnapE (i : Nat) (me : M Rv) : M Rv := fun s => opt (lstAt s i) fun p => match me (snapS s i (.lst p.2)) with
  | .ok (.d d) _ => if noL d = true then .ok (.d d) s else .no
  | .ok (.o (.lst l)) _ => if noLs l = true then .ok (.o (.lst l)) s else .no
  | _ => .no
theorem snap_get {s : SS} {i j : Nat} {d : D} {sv : SV} (h : (snapS s i d)[j]? = some (some sv)) (n : j ≠ i) : ∃ e, sv = .fz e ∧ s[j]? = some (some (.fz e)) := by
  unfold snapS at h
  rw [get_set_ne (Ne.symm n), List.getElem?_map, Option.map_eq_some_iff] at h
  obtain ⟨x, h1, h2⟩ := h
  cases x with
  | none => cases h2
  | some y =>
    cases y with
    | fz e => cases h2; exact ⟨e, rfl, h1⟩
    | ow o => cases h2
    | br o => cases h2
theorem ev_snapE {W : WX} {i : Nat} {te : TE} {me : M Rv} (h : EvX K W te me) : EvX K W te (mSnapE i me) := by
  intro F H σ s Q rs w
  unfold mSnapE at w
  obtain ⟨⟨sv, l⟩, e0, w1⟩ := opt_wn w
  obtain ⟨a1, a2, p, xs, hσ, fp, hp, rl⟩ := lstAt_ok rs e0
  have s1 : Sub F (upd F p (.lst xs)) := fun a u q => by
    rw [upd_ne (ne_of_none q fp)]
    exact q
  have s2 : Sub (upd F p (.lst xs)) H := fun a u q => by
    by_cases z : a = p
    · rw [z, upd_same] at q
      rw [z, hp]
      exact q
    · rw [upd_ne z] at q
      exact rs.sub _ _ q
  have il : i < s.length := by
    rw [← rs.len]
    exact lt_of_get hσ
  have gi : (snapS s i (.lst l))[i]? = some (some (.fz (.lst l))) := by
    unfold snapS
    exact List.getElem?_set_self (by rw [List.length_map]; exact il)
  have noS : ∀ (j : Nat) (sv : SV) (u : OD), (snapS s i (.lst l))[j]? = some (some sv) → SV.own sv = some u → False := fun j sv u h1 h2 => by
    by_cases z : j = i
    · rw [z, gi] at h1
      cases h1
      cases h2
    · obtain ⟨e, rfl, _⟩ := snap_get h1 z
      cases h2
  have noO : ∀ a, ¬ Ow σ (snapS s i (.lst l)) a := by
    rintro a ⟨j, sv, u, h1, h2, _⟩
    exact noS j sv u h1 h2
  have rs1 : RS K (upd F p (.lst xs)) H σ (snapS s i (.lst l)) := by
    refine ⟨s2, ?_, fun j d q => ?_, fun j sv u h1 h2 => (noS j sv u h1 h2).elim, fun j k si sj oi oj x h1 h2 => (noS j si oi h1 h2).elim⟩
    · unfold snapS
      rw [List.length_set, List.length_map]
      exact rs.len
    · by_cases z : j = i
      · rw [z, gi] at q
        cases q
        exact ⟨.ref p, by rw [z]; exact hσ, .lst upd_same (rl.mono s1)⟩
      · obtain ⟨e, e1, e2⟩ := snap_get q z
        cases e1
        obtain ⟨v, h1, h2⟩ := rs.fz j d e2
        exact ⟨v, h1, h2.mono s1⟩
  have key : ∀ {F2 H2 : Hp} {t : SS}, Go K (upd F p (.lst xs)) H σ (snapS s i (.lst l)) F2 H2 σ t → Go K F H σ s (outF F2 p) H2 σ s ∧ F2 p = some (.lst xs) := fun {F2 H2 t} g => by
    have e2 : F2 p = some (.lst xs) := g.fr _ _ upd_same
    have fs : Sub F (outF F2 p) := fun a u q => by
      have n : a ≠ p := fun z => by
        rw [z, fp] at q
        cases q
      rw [outF_ne n]
      exact g.fr _ _ (s1 _ _ q)
    refine ⟨⟨⟨fun a u q => ?_, rs.len, fun j d q => ?_, fun j sv u h1 h2 => ?_, rs.ne⟩, fs, fun a u q _ => g.kp a u q (noO a), fun a q => ?_, fun a q => .inl q, fun j u q => ⟨rfl, u, q⟩, g.dm⟩, e2⟩
    · by_cases z : a = p
      · unfold outF at q
        rw [if_pos z] at q
        cases q
      · rw [outF_ne z] at q
        exact g.rs.sub _ _ q
    · obtain ⟨v, h1, h2⟩ := rs.fz j d q
      exact ⟨v, h1, h2.mono fs⟩
    · obtain ⟨q, hq, a1, a2, a3, a4⟩ := rs.ow j sv u h1 h2
      refine ⟨q, hq, a1, ?_, g.kp q hq a3 (noO q), a4.mono fs⟩
      by_cases z : q = p
      · unfold outF
        rw [if_pos z]
      · rw [outF_ne z]
        cases e : F2 q with
        | none => rfl
        | some x =>
          rcases g.nw q (by rw [e]; exact fun z => nomatch z) with y | y | y | y
          · rw [upd_ne z, a2] at y
            exact absurd rfl y
          · rw [a3] at y; cases y
          · exact absurd y (noO q)
          · exact absurd y (a4.notTup a3)
    · by_cases z : a = p
      · unfold outF at q
        rw [if_pos z] at q
        exact absurd rfl q
      · rw [outF_ne z] at q
        rcases g.nw a q with y | y | y | y
        · rw [upd_ne z] at y
          exact .inl y
        · exact .inr (.inl y)
        · exact absurd y (noO a)
        · exact .inr (.inr (.inr y))
  refine h (upd F p (.lst xs)) H σ (snapS s i (.lst l)) Q rs1 ?_
  dsimp only at w1
  cases e : me (snapS s i (.lst l)) with
  | no => rw [e] at w1; exact w1.elim
  | ex c l t => rw [e] at w1; exact w1.elim
  | ok r t =>
    rw [e] at w1
    intro v F' H' g1 h1
    obtain ⟨g2, nq⟩ := key g1
    cases r with
    | b j => exact w1.elim
    | d d =>
      obtain ⟨nd, w4⟩ := if_inv (Z := fun r => Wn K W Q F H σ s r) (fun z => z) w1
      exact w4 v _ H' g2 (Rp.outL nq h1 nd)
    | o u =>
      cases u with
      | lst m =>
        obtain ⟨nd, w4⟩ := if_inv (Z := fun r => Wn K W Q F H σ s r) (fun z => z) w1
        obtain ⟨q, hq, rfl, b1, b2, b3, b4, _⟩ := h1
        refine w4 _ _ H' g2 ⟨q, hq, rfl, ?_, b2, ?_, b4, fun z => ?_⟩
        · by_cases z : q = p
          · unfold outF
            rw [if_pos z]
          · rw [outF_ne z]
            exact b1
        · cases b3 with | lst r => exact .lst (r.outL nq nd)
        · obtain ⟨_, y, z⟩ := rs.owF z
          rw [b4] at z
          cases z
      | _ => exact w1.elim
section
variable {X : Cx} {W : WX} {e : Expr} {pos p1 p2 : Pos} {te : TE} {me : M Rv}
theorem c_snapE (i : Nat) (h : CE X K W e te me) : CE X K W e te (mSnapE i me) := ⟨h.p, ev_snapE h.v⟩
theorem s_setLcS (i j : Nat) {y : Str} {tg iter elt : Expr} {ifs : List Expr} {scope : Scope} {own : List (Str × Nat)} {wi : TI} {g : TG} {tt : TT} {mi : M (List D)} {f : MG} {tv : List Nat} {mt : M Bool} (hc : X.calm = true) (hN : X.N.Nodup) (hy : X.N[i]? = some y) (hyl : X.env.scope.names.lookup y = some .local)
    (hsw : swapsWith (.ListComp elt [⟨tg, iter, ifs, 0⟩] scope p2) (some (.Name y p1)) pos.line X.env = pure true) (ok : BlkOk X.N X.env.scope scope own) (ht : ∀ j ∈ tv, j ∈ own.map (·.2)) (hi : CI X K W tg iter wi mi)
    (hg : ∀ (s : Shared) (H : Hp) (C : Addr) (cl : List (Str × Addr)) (fp : List Addr), CG (X.blk s H scope (compEnvC scope cl C X.env) fp) K tg g f tv) (hts : ∀ (s : Shared) (H : Hp) (C : Addr) (cl : List (Str × Addr)) (fp : List Addr), CTs (X.blk s H scope (compEnvC scope cl C X.env) fp) K W0 ifs tt mt)
    (he : ∀ (s : Shared) (H : Hp) (C : Addr) (cl : List (Str × Addr)) (fp : List Addr), CE (X.blk s H scope (compEnvC scope cl C X.env) fp) K W0 elt te me) (hs : ∀ x, foldedSetIterable iter X.env x = pure x := by intro _; rfl) (s0 : Shared) (H0 : Hp) :
    CS X K W (.Assign [.Name y p1] (.ListComp elt [⟨tg, iter, ifs, 0⟩] scope p2) pos) (tAsg (tLc wi g tt te (own.map (·.2))) (gName i)) (mAsg i (mSnapE j (mLc mi f mt me (own.map (·.2))))) :=
  ⟨ps_setLc hc hN hy hyl hsw hi.p ok (fun s H C cl fp => (hg s H C cl fp).p) (fun s H C cl fp => (hts s H C cl fp).p) (fun s H C cl fp => (he s H C cl fp).p) hs, es_asg (ev_snapE (ev_lc hi.v (hg s0 H0 0 [] []).v ht (hts s0 H0 0 [] []).v (he s0 H0 0 [] []).v))⟩
end
theorem k_snapE {i : Nat} {me : M Rv} {s : SS} {Q : Rv → SS → Prop} : Ok1 (mSnapE i me s) Q ↔ ∃ p, lsS (s[i]?) = some p ∧ Ok1 (me (snapS s i (.lst p.2))) fun r _ => match r with
    | .d d => noL d = true ∧ Q (.d d) s
    | .o (.lst l) => noLs l = true ∧ Q (.o (.lst l)) s
    | _ => False := by
  unfold mSnapE
  rw [Ok1.opt, e_ls]
  refine exists_congr fun p => and_congr_right fun _ => ?_
  cases me (snapS s i (.lst p.2)) with
  | no => unfold Ok1; exact Iff.rfl
  | ex c l t => unfold Ok1; exact Iff.rfl
  | ok r t =>
    rw [Ok1.ok]
    cases r with
    | b j => unfold Ok1; exact Iff.rfl
    | d d =>
      dsimp only
      rw [Ok1.ite, Ok1.ok, Ok1.no]
      split
      · rename_i c
        exact ⟨fun w => ⟨c, w⟩, fun w => w.2⟩
      · rename_i c
        exact ⟨fun w => w.elim, fun w => c w.1⟩
    | o u =>
      cases u with
      | lst l =>
        dsimp only
        rw [Ok1.ite, Ok1.ok, Ok1.no]
        split
        · rename_i c
          exact ⟨fun w => ⟨c, w⟩, fun w => w.2⟩
        · rename_i c
          exact ⟨fun w => w.elim, fun w => c w.1⟩
      | _ => unfold Ok1; exact Iff.rfl
end Cz

/-! # Mk73 -/
namespace Cz
open L2 PyProof.Rows PySem.Spec PySem
/-! what the top has written -/
structure Ad where
  Cuts : Addr
  Layout : Addr
/-! ### _law_bag_of -/
def m_l_bag_of (A : Ad) : MS := (mSeq (mAsg 2 (mOp addD (mOp mulD (mC (.int 1009)) (mVar 1)) (mC (.int 77))))
  (mSeq (mFor (mRng enumA (mACons (mVar 0) mANil)) (mgTup 2 (mgCons (mgName 3) (mgCons (mgName 4) mgNil)))
  (mAsg 2 (mOp modD (mCB1 int1D (mOp addD (mOp addD (mOp addD (mOp mulD (mVar 2) (mC (.int 31))) (mOp mulD (mCB1 absD (mVar 4)) (mC (.int 2)))) (mIf (mTr blD (mOp ltD (mVar 4) (mC (.int 0)))) (mC (.int 1)) (mC (.int 0)))) (mVar 3))) (mC (.int 2147483647)))))
  (mSeq (mAsg 4 (mIf (mTr blD (mOp ltD (mVar 1) (mCB1 lenD (mVar 0)))) (mOp ixD (mVar 0) (mVar 1)) (mVar 2)))
  (mSeq (mAsg 5 (mOp modD (mCB1 int1D (mOp addD (mOp addD (mOp addD (mOp mulD (mCB1 absD (mVar 4)) (mC (.int 2))) (mIf (mTr blD (mOp ltD (mVar 4) (mC (.int 0)))) (mC (.int 1)) (mC (.int 0)))) (mOp mulD (mC (.int 40503)) (mVar 1))) (mC (.int 77)))) (mC (.int 2147483647))))
  (mSeq (mFor (mRng rng1D (mACons (mC (.int 2)) mANil)) (mgName 3)
  (mAsg 5 (mOp modD (mCB1 int1D (mOp addD (mOp addD (mOp mulD (mVar 5) (mC (.int 16807))) (mC (.int 12345))) (mVar 3))) (mC (.int 2147483647)))))
  (mSeq (mAsg 6 (mIf (mTr blD (mOp geD (mCB1 absD (mVar 4)) (mOp powD (mC (.int 10)) (mC (.int 18))))) (mOp subD (mCB1 absD (mVar 4)) (mOp powD (mC (.int 10)) (mC (.int 18)))) (mC (.int 0))))
  (mRet (mLst (mACons (mVar 6) (mACons (mVar 5) (mACons (mC (.int 0)) mANil)))))))))))
abbrev f_l_bag_of (A : Ad) : MF := runN 2 7 (m_l_bag_of A)
/-! ### _law_pick -/
def m_l_pick (A : Ad) : MS := (mSeq (mIfS (mTr blD (mOp ltD (mVar 1) (mC (.int 2)))) (mRet (mC (.int 0))) mNext)
  (mSeq (mIfS (mTr blD (mOp gtD (mOp ixD (mVar 0) (mC (.int 0))) (mC (.int 0)))) (mSeq (mAsg 2 (mOp modD (mCB1 int1D (mOp ixD (mVar 0) (mC (.int 0)))) (mVar 1)))
  (mSeq (mSetL 0 (mOp fdivD (mOp ixD (mVar 0) (mC (.int 0))) (mVar 1)) (mC (.int 0)))
  (mRet (mVar 2)))) mNext)
  (mSeq (mSetL 0 (mOp addD (mOp ixD (mVar 0) (mC (.int 2))) (mC (.int 1))) (mC (.int 2)))
  (mSeq (mSetL 0 (mOp modD (mCB1 int1D (mOp addD (mOp addD (mOp mulD (mOp ixD (mVar 0) (mC (.int 1))) (mC (.int 48271))) (mOp mulD (mOp ixD (mVar 0) (mC (.int 2))) (mC (.int 7368787)))) (mC (.int 11)))) (mC (.int 2147483647))) (mC (.int 1)))
  (mSeq (mAsg 3 (mOp modD (mCB1 int1D (mOp addD (mOp mulD (mOp ixD (mVar 0) (mC (.int 1))) (mC (.int 69621))) (mOp fdivD (mOp ixD (mVar 0) (mC (.int 1))) (mC (.int 127773))))) (mC (.int 2147483629))))
  (mRet (mOp modD (mCB1 int1D (mOp fdivD (mVar 3) (mC (.int 7)))) (mVar 1))))))))
abbrev f_l_pick (A : Ad) : MF := runN 2 4 (m_l_pick A)
/-! ### _law_wheel -/
def m_l_wheel (A : Ad) : MS := (mSeq (mAsgG (mgTup 2 (mgCons (mgName 2) (mgCons (mgName 3) mgNil))) (mVar 1))
  (mSeq (mAsg 4 (mLst (mACons (mTup (mACons (mC (.int 0)) (mACons (mC (.int 1)) mANil))) (mACons (mTup (mACons (mC (.int 1)) (mACons (mOp addD (mVar 3) (mC (.int 1))) mANil))) (mACons (mTup (mACons (mOp addD (mVar 2) (mC (.int 1))) (mACons (mVar 3) mANil))) (mACons (mTup (mACons (mVar 2) (mACons (mC (.int 0)) mANil))) mANil))))))
  (mSeq (mIfS (mTr blD (mOp eqD (mCall (f_l_pick A) [] (mARef 0 (mACons (mC (.int 2)) mANil))) (mC (.int 0)))) (mAsg 4 (mLst (mACons (mTup (mACons (mC (.int 0)) (mACons (mVar 3) mANil))) (mACons (mTup (mACons (mC (.int 1)) (mACons (mC (.int 0)) mANil))) (mACons (mTup (mACons (mOp addD (mVar 2) (mC (.int 1))) (mACons (mC (.int 1)) mANil))) (mACons (mTup (mACons (mVar 2) (mACons (mOp addD (mVar 3) (mC (.int 1))) mANil))) mANil)))))) mNext)
  (mSeq (mAsgG (mgTup 2 (mgCons (mgName 5) (mgCons (mgName 6) mgNil))) (mTup (mACons (mCall (f_l_pick A) [] (mARef 0 (mACons (mC (.int 4)) mANil))) (mACons (mCall (f_l_pick A) [] (mARef 0 (mACons (mC (.int 4)) mANil))) mANil))))
  (mRet (mLc (mItems (mVar 4)) (mgName 7) mYes (mTup (mACons (mOp addD (mOp ixD (mVar 7) (mC (.int 0))) (mVar 5)) (mACons (mOp addD (mOp ixD (mVar 7) (mC (.int 1))) (mVar 6)) (mACons (mOp eqD (mCall (f_l_pick A) [] (mARef 0 (mACons (mC (.int 2)) mANil))) (mC (.int 0))) mANil)))) [7]))))))
abbrev f_l_wheel (A : Ad) : MF := runN 2 8 (m_l_wheel A)
/-! ### _law_one_of -/
def m_l_one_of (A : Ad) : MS := (mRet (mOp ixD (mVar 1) (mCall (f_l_pick A) [] (mARef 0 (mACons (mCB1 lenD (mVar 1)) mANil)))))
abbrev f_l_one_of (A : Ad) : MF := runN 2 2 (m_l_one_of A)
/-! ### _law_meet -/
def m_l_meet (A : Ad) : MS := (mRet (mAndV (mOp ltD (mCB1 absD (mOp subD (mOp ixD (mVar 0) (mC (.int 0))) (mOp ixD (mVar 1) (mC (.int 0))))) (mOp ixD (mVar 2) (mC (.int 0)))) (mOp ltD (mCB1 absD (mOp subD (mOp ixD (mVar 0) (mC (.int 1))) (mOp ixD (mVar 1) (mC (.int 1))))) (mOp ixD (mVar 2) (mC (.int 1))))))
abbrev f_l_meet (A : Ad) : MF := runN 3 3 (m_l_meet A)
/-! ### _law_copies_of -/
def m_l_copies_of (A : Ad) : MS := (mSeq (mAsg 3 (mLst (mACons (mTup (mACons (mCall (f_l_pick A) [] (mARef 0 (mACons (mC (.int 4)) mANil))) (mACons (mCall (f_l_pick A) [] (mARef 0 (mACons (mC (.int 4)) mANil))) (mACons (mOp eqD (mCall (f_l_pick A) [] (mARef 0 (mACons (mC (.int 2)) mANil))) (mC (.int 1))) mANil)))) mANil)))
  (mSeq (mIfS (mTr blD (mOp eqD (mCall (f_l_pick A) [] (mARef 0 (mACons (mC (.int 2)) mANil))) (mC (.int 0)))) (mAsg 3 (mCall (f_l_wheel A) [] (mARef 0 (mARef 1 mANil)))) mNext)
  (mSeq (mFor (mRng rng1D (mACons (mCall (f_l_one_of A) [] (mARef 0 (mACons (mLst (mACons (mC (.int 0)) (mACons (mC (.int 1)) (mACons (mC (.int 2)) (mACons (mC (.int 3)) (mACons (mC (.int 5)) (mACons (mC (.int 9)) mANil))))))) mANil))) mANil)) (mgName 4)
  (mSeq (mAsg 5 (mCall (f_l_one_of A) [] (mARef 0 (mARef 3 mANil))))
  (mSeq (mAsg 6 (mCall (f_l_one_of A) [] (mARef 0 (mACons (mLst (mACons (mC (.int 0)) (mACons (mC (.int 0)) (mACons (mC (.int 0)) (mACons (mC (.int 1)) (mACons (mC (.int 2)) (mACons (mC (.int 3)) mANil))))))) mANil))))
  (mSeq (mAsg 7 (mOp subD (mCall (f_l_pick A) [] (mARef 0 (mACons (mC (.int 5)) mANil))) (mC (.int 2))))
  (mSeq (mAsg 8 (mCall (f_l_pick A) [] (mARef 0 (mACons (mC (.int 4)) mANil))))
  (mSeq (mAsg 9 (mTup (mACons (mOp addD (mOp ixD (mVar 5) (mC (.int 0))) (mVar 7)) (mACons (mOp addD (mOp addD (mOp ixD (mVar 5) (mC (.int 1))) (mOp ixD (mVar 1) (mC (.int 1)))) (mVar 6)) mANil))))
  (mSeq (mIfS (mTr blD (mOp eqD (mVar 8) (mC (.int 1)))) (mAsg 9 (mTup (mACons (mOp addD (mOp addD (mOp ixD (mVar 5) (mC (.int 0))) (mOp ixD (mVar 1) (mC (.int 0)))) (mVar 6)) (mACons (mOp addD (mOp ixD (mVar 5) (mC (.int 1))) (mVar 7)) mANil)))) mNext)
  (mSeq (mIfS (mTr blD (mOp eqD (mVar 8) (mC (.int 2)))) (mAsg 9 (mTup (mACons (mOp addD (mOp ixD (mVar 5) (mC (.int 0))) (mVar 7)) (mACons (mOp subD (mOp subD (mOp ixD (mVar 5) (mC (.int 1))) (mOp ixD (mVar 1) (mC (.int 1)))) (mVar 6)) mANil)))) mNext)
  (mSeq (mIfS (mTr blD (mOp eqD (mVar 8) (mC (.int 3)))) (mAsg 9 (mTup (mACons (mOp subD (mOp subD (mOp ixD (mVar 5) (mC (.int 0))) (mOp ixD (mVar 1) (mC (.int 0)))) (mVar 6)) (mACons (mOp addD (mOp ixD (mVar 5) (mC (.int 1))) (mVar 7)) mANil)))) mNext)
  (mSeq (mIfS (mTr blD (mOp eqD (mCall (f_l_pick A) [] (mARef 0 (mACons (mC (.int 12)) mANil))) (mC (.int 0)))) (mAsg 9 (mTup (mACons (mCall (f_l_pick A) [] (mARef 0 (mACons (mC (.int 61)) mANil))) (mACons (mCall (f_l_pick A) [] (mARef 0 (mACons (mC (.int 61)) mANil))) mANil)))) mNext)
  (mSeq (mAsg 10 (mOp eqD (mCall (f_l_pick A) [] (mARef 0 (mACons (mC (.int 2)) mANil))) (mC (.int 1))))
  (mSeq (mAsg 11 (mSnapE 3 (mLc (mItems (mVar 3)) (mgName 12) (mTr blD (mCall (f_l_meet A) [] (mACons (mVar 12) (mACons (mVar 9) (mARef 1 mANil))))) (mVar 12) [12])))
  (mIfS (mAnd (mTr blD (mOp leD (mC (.int 0)) (mCB1 minTD (mVar 9)))) (mAnd (mTr blD (mOp leD (mCB1 maxTD (mVar 9)) (mC (.int 60)))) (mAnd (mTr blD (mOp eqD (mCB1 lenD (mVar 11)) (mC (.int 0)))) (mTr blD (mOp ltD (mCB1 lenD (mVar 3)) (mVar 2)))))) (mDrop (mLm 3 appendF (mACons (mTup (mACons (mOp ixD (mVar 9) (mC (.int 0))) (mACons (mOp ixD (mVar 9) (mC (.int 1))) (mACons (mVar 10) mANil)))) mANil))) mNext)))))))))))))
  (mRet (mVar 3)))))
abbrev f_l_copies_of (A : Ad) : MF := runN 3 13 (m_l_copies_of A)
/-! ### _law_mixed_of -/
def m_l_mixed_of (A : Ad) : MS := (mSeq (mAsg 2 (mCB1 listD (mVar 1)))
  (mSeq (mAsg 3 (mLst mANil))
  (mSeq (mFor (mRng rng1D (mACons (mCB1 lenD (mVar 1)) mANil)) (mgName 4)
  (mDrop (mLm 3 appendF (mACons (mLm 2 popF (mACons (mCall (f_l_pick A) [] (mARef 0 (mACons (mCB1 lenD (mVar 2)) mANil))) mANil)) mANil))))
  (mRet (mVar 3)))))
abbrev f_l_mixed_of (A : Ad) : MF := runN 2 5 (m_l_mixed_of A)
/-! ### plain -/
def m_plain_g (A : Ad) (self : MF) : MS := (mSeq (mIfS (mTr blD (mIsi tab_lt (mVar 0))) (mRet (mCB1 tupD (mLc (mItems (mVar 0)) (mgName 1) mYes (mCall self [] (mACons (mVar 1) mANil)) [1]))) mNext)
  (mRet (mVar 0)))
def fr_plain_g (A : Ad) : Nat → MF
  | 0 => runN 1 2 mNever
  | n + 1 => runN 1 2 (m_plain_g A (fr_plain_g A n))
abbrev f_plain_g (A : Ad) : MF := fr_plain_g A 6
/-! ### is_integer -/
def m_is_integer_g (A : Ad) : MS := (mRet (mAndV (mIsi tab_int (mVar 0)) (mNotV (mIsi tab_bool (mVar 0)))))
abbrev f_is_integer_g (A : Ad) : MF := runN 1 1 (m_is_integer_g A)
/-! ### is_within -/
def m_is_within_g (A : Ad) : MS := (mRet (mAndV (mCall (f_is_integer_g A) [] (mARef 0 mANil)) (mChain leD leD (mVar 1) (mVar 0) (mVar 2))))
abbrev f_is_within_g (A : Ad) : MF := runN 3 3 (m_is_within_g A)
/-! ### is_tuple -/
def m_is_tuple_g (A : Ad) : MS := (mRet (mAndV (mIsi tab_tuple (mVar 0)) (mChain leD leD (mVar 1) (mCB1 lenD (mVar 0)) (mVar 2))))
abbrev f_is_tuple_g (A : Ad) : MF := runN 3 3 (m_is_tuple_g A)
/-! ### _is_copy -/
def m_is_copy_f (A : Ad) : MS := (mSeq (mIfS (mOr (mNot (mTr blD (mCall (f_is_tuple_g A) [] (mARef 0 (mACons (mC (.int 3)) (mACons (mC (.int 3)) mANil)))))) (mNot (mTr blD (mIsi tab_bool (mOp ixD (mVar 0) (mC (.int 2))))))) (mRet (mC (.bl false))) mNext)
  (mRet (mAndV (mCall (f_is_within_g A) [] (mACons (mOp ixD (mVar 0) (mC (.int 0))) (mACons (mC (.int 0)) (mACons (mC (.int 60)) mANil)))) (mCall (f_is_within_g A) [] (mACons (mOp ixD (mVar 0) (mC (.int 1))) (mACons (mC (.int 0)) (mACons (mC (.int 60)) mANil)))))))
abbrev f_is_copy_f (A : Ad) : MF := runN 1 1 (m_is_copy_f A)
/-! ### _meet -/
def m_meet_f (A : Ad) : MS := (mRet (mAndV (mOp ltD (mCB1 absD (mOp subD (mOp ixD (mVar 0) (mC (.int 0))) (mOp ixD (mVar 1) (mC (.int 0))))) (mVar 2)) (mOp ltD (mCB1 absD (mOp subD (mOp ixD (mVar 0) (mC (.int 1))) (mOp ixD (mVar 1) (mC (.int 1))))) (mVar 3))))
abbrev f_meet_f (A : Ad) : MF := runN 4 4 (m_meet_f A)
/-! ### Layout.__init__ -/
def m_Layout_init (A : Ad) : MS := (mSeq (mAsg 4 (mCall (f_plain_g A) [] (mARef 3 mANil)))
  (mSeq (mIfS (mOr (mNot (mTr blD (mCall (f_is_within_g A) [] (mARef 1 (mACons (mC (.int 1)) (mACons (mC (.int 12)) mANil)))))) (mOr (mNot (mTr blD (mCall (f_is_within_g A) [] (mARef 2 (mACons (mC (.int 1)) (mACons (mC (.int 12)) mANil)))))) (mNot (mTr blD (mCall (f_is_tuple_g A) [] (mACons (mVar 4) (mACons (mC (.int 1)) (mACons (mC (.int 8)) mANil)))))))) mNever mNext)
  (mSeq (mFor (mRng enumA (mACons (mVar 4) mANil)) (mgTup 2 (mgCons (mgName 5) (mgCons (mgName 6) mgNil)))
  (mIfS (mOr (mNot (mTr blD (mCall (f_is_copy_f A) [] (mACons (mVar 6) mANil)))) (mTr blD (mCB1 anyB (mLc (mItems (mSl (mVar 4) mNoPart (mPart (mVar 5)))) (mgName 7) mYes (mCall (f_meet_f A) [] (mACons (mVar 6) (mACons (mVar 7) (mARef 1 (mARef 2 mANil))))) [7])))) mNever mNext))
  (mSeq (mSetA [A.Layout] 0 "height" (mVar 1))
  (mSeq (mSetA [A.Layout] 0 "width" (mVar 2))
  (mSetA [A.Layout] 0 "copies" (mVar 4)))))))
abbrev f_Layout_init (A : Ad) : MF := runN 4 8 (m_Layout_init A)
/-! ### Layout.__len__ -/
def m_Layout_len (A : Ad) : MS := (mRet (mCB1 lenD (mFld [A.Layout] "copies" (mVar 0))))
abbrev f_Layout_len (A : Ad) : MF := runN 1 1 (m_Layout_len A)
/-! ### is_number_of -/
def m_is_number_of_g (A : Ad) : MS := (mRet (mCall (f_is_within_g A) [] (mARef 0 (mACons (mC (.int 0)) (mACons (mOp subD (mCB1 lenD (mVar 1)) (mC (.int 1))) mANil)))))
abbrev f_is_number_of_g (A : Ad) : MF := runN 2 2 (m_is_number_of_g A)
/-! ### Layout.__getitem__ -/
def m_Layout_getitem (A : Ad) : MS := (mSeq (mIfS (mNot (mTr blD (mCall (f_is_number_of_g A) [] (mARef 1 (mACons (mFld [A.Layout] "copies" (mVar 0)) mANil))))) mNever mNext)
  (mRet (mOp ixD (mFld [A.Layout] "copies" (mVar 0)) (mVar 1))))
abbrev f_Layout_getitem (A : Ad) : MF := runN 2 2 (m_Layout_getitem A)
/-! ### _parts -/
def m_parts_f (A : Ad) : MS := (mSeq (mPar 4 5 (mLst mANil) (mLst mANil))
  (mSeq (mFor (mItems (mVar 1)) (mgName 6)
  (mSeq (mAsgG (mgTup 3 (mgCons (mgName 7) (mgCons (mgName 8) (mgCons (mgName 9) mgNil)))) (mOG A.Layout (f_Layout_getitem A) (mVar 0) (mVar 6)))
  (mSeq (mAsgG (mgTup 2 (mgCons (mgName 10) (mgCons (mgName 11) mgNil))) (mIf (mTr blD (mOp eqD (mVar 2) (mC (.str "across")))) (mTup (mACons (mVar 7) (mACons (mFld [A.Layout] "height" (mVar 0)) mANil))) (mTup (mACons (mVar 8) (mACons (mFld [A.Layout] "width" (mVar 0)) mANil)))))
  (mIfS (mTr blD (mOp geD (mVar 10) (mVar 3))) (mDrop (mLm 5 appendF (mACons (mVar 6) mANil))) (mIfS (mTr blD (mOp leD (mOp addD (mVar 10) (mVar 11)) (mVar 3))) (mDrop (mLm 4 appendF (mACons (mVar 6) mANil))) (mRet (mC .non)))))))
  (mRet (mTup (mACons (mCB1 tupD (mVar 4)) (mACons (mCB1 tupD (mVar 5)) mANil))))))
abbrev f_parts_f (A : Ad) : MF := runN 4 12 (m_parts_f A)
/-! ### first_cut -/
def m_first_cut_g (A : Ad) : MS := (mSeq (mFor (mItems (mTup (mACons (mC (.str "across")) (mACons (mC (.str "down")) mANil)))) (mgName 2)
  (mSeq (mAsg 3 (mLc (mItems (mVar 1)) (mgName 4) mYes (mIf (mTr blD (mOp eqD (mVar 2) (mC (.str "across")))) (mOp addD (mOp ixD (mOG A.Layout (f_Layout_getitem A) (mVar 0) (mVar 4)) (mC (.int 0))) (mFld [A.Layout] "height" (mVar 0))) (mOp addD (mOp ixD (mOG A.Layout (f_Layout_getitem A) (mVar 0) (mVar 4)) (mC (.int 1))) (mFld [A.Layout] "width" (mVar 0)))) [4]))
  (mFor (mItems (mUn sortSetD (mVar 3))) (mgName 5)
  (mSeq (mAsg 6 (mCall (f_parts_f A) [] (mARef 0 (mARef 1 (mACons (mVar 2) (mACons (mVar 5) mANil))))))
  (mIfS (mAnd (mTr blD (mOp isNotD (mVar 6) (mC .non))) (mTr blD (mOp notInD (mTup mANil) (mVar 6)))) (mRet (mTup (mACons (mVar 2) (mACons (mVar 5) mANil)))) mNext)))))
  (mRet (mC .non)))
abbrev f_first_cut_g (A : Ad) : MF := runN 2 7 (m_first_cut_g A)
/-! ### _cut_through -/
def m_cut_through_f (A : Ad) (self : MF) : MS := (mSeq (mAsg 2 (mCall (f_first_cut_g A) [] (mARef 0 (mARef 1 mANil))))
  (mSeq (mIfS (mTr blD (mOp isD (mVar 2) (mC .non))) (mRet (mTup (mACons (mLst (mACons (mVar 1) mANil)) (mACons (mLst mANil) mANil)))) mNext)
  (mSeq (mPar 3 4 (mLst mANil) (mLst (mACons (mTup (mACons (mVar 1) (mACons (mVar 2) mANil))) mANil)))
  (mSeq (mFor (mItems (mCall (f_parts_f A) [] (mARef 0 (mARef 1 (mAStar (mVar 2) mANil))))) (mgName 5)
  (mSeq (mAsgG (mgTup 2 (mgCons (mgName 6) (mgCons (mgName 7) mgNil))) (mCall self [] (mARef 0 (mACons (mVar 5) mANil))))
  (mSeq (mAsg 3 (mOp addD (mVar 3) (mVar 6)))
  (mAsg 4 (mOp addD (mVar 4) (mVar 7))))))
  (mRet (mTup (mACons (mVar 3) (mACons (mVar 4) mANil))))))))
def fr_cut_through_f (A : Ad) : Nat → MF
  | 0 => runN 2 8 mNever
  | n + 1 => runN 2 8 (m_cut_through_f A (fr_cut_through_f A n))
abbrev f_cut_through_f (A : Ad) : MF := fr_cut_through_f A 9
/-! ### Cuts.__init__ -/
def m_Cuts_init (A : Ad) : MS := (mSeq (mAsgG (mgTup 2 (mgCons (mgName 2) (mgCons (mgName 3) mgNil))) (mCall (f_cut_through_f A) [] (mARef 1 (mACons (mTupRg (mOL A.Layout (f_Layout_len A) (mVar 1))) mANil))))
  (mSeq (mSetA [A.Cuts] 0 "blocks" (mCB1 tupD (mCB1 sortG (mVar 2))))
  (mSetA [A.Cuts] 0 "parting" (mCB1 tupD (mVar 3)))))
abbrev f_Cuts_init (A : Ad) : MF := runN 2 4 (m_Cuts_init A)
/-! ### _law_all_cuts -/
def m_l_all_cuts (A : Ad) : MS := (mSeq (mAsg 3 (mLst mANil))
  (mSeq (mFor (mRng rng1D (mACons (mC (.int 2)) mANil)) (mgName 4)
  (mSeq (mAsg 5 (mLc (mItems (mVar 2)) (mgName 6) mYes (mOp ixD (mOp ixD (mVar 1) (mVar 6)) (mVar 4)) [6]))
  (mFor (mRng rng2D (mACons (mOp addD (mCB1 minD (mVar 5)) (mC (.int 1))) (mACons (mOp addD (mCB1 maxD (mVar 5)) (mC (.int 1))) mANil))) (mgName 7)
  (mSeq (mAsg 8 (mLc (mItems (mVar 5)) (mgName 9) (mTr blD (mChain ltD ltD (mVar 9) (mVar 7) (mOp addD (mVar 9) (mOp ixD (mVar 0) (mVar 4))))) (mVar 9) [9]))
  (mIfS (mTr blD (mOp eqD (mCB1 lenD (mVar 8)) (mC (.int 0)))) (mDrop (mLm 3 appendF (mACons (mTup (mACons (mOp ixD (mLst (mACons (mC (.str "across")) (mACons (mC (.str "down")) mANil))) (mVar 4)) (mACons (mVar 7) mANil))) mANil))) mNext)))))
  (mRet (mVar 3))))
abbrev f_l_all_cuts (A : Ad) : MF := runN 3 10 (m_l_all_cuts A)
/-! ### _law_is_int -/
def m_l_is_int (A : Ad) : MS := (mRet (mAndV (mIsi tab_int (mVar 0)) (mNotV (mIsi tab_bool (mVar 0)))))
abbrev f_l_is_int (A : Ad) : MF := runN 1 1 (m_l_is_int A)
/-! ### _law_same -/
def m_l_same (A : Ad) (self : MF) : MS := (mSeq (mIfS (mTr blD (mIsi tab_tuple (mVar 1))) (mSeq (mIfS (mOr (mNot (mTr blD (mIsi tab_tuple (mVar 0)))) (mTr blD (mOp neD (mCB1 lenD (mVar 0)) (mCB1 lenD (mVar 1))))) (mRet (mC (.bl false))) mNext)
  (mRet (mOp eqD (mCB1 lenD (mLc (mRng rng1D (mACons (mCB1 lenD (mVar 1)) mANil)) (mgName 2) (mNot (mTr blD (mCall self [] (mACons (mOp ixD (mVar 0) (mVar 2)) (mACons (mOp ixD (mVar 1) (mVar 2)) mANil))))) (mVar 2) [2])) (mC (.int 0))))) mNext)
  (mSeq (mIfS (mTr blD (mOp isD (mVar 1) (mC .non))) (mRet (mOp isD (mVar 0) (mC .non))) mNext)
  (mSeq (mIfS (mTr blD (mOp isD (mVar 1) (mC (.bl true)))) (mRet (mOp isD (mVar 0) (mC (.bl true)))) mNext)
  (mSeq (mIfS (mTr blD (mOp isD (mVar 1) (mC (.bl false)))) (mRet (mOp isD (mVar 0) (mC (.bl false)))) mNext)
  (mSeq (mIfS (mTr blD (mIsi tab_str (mVar 1))) (mRet (mAndV (mIsi tab_str (mVar 0)) (mOp eqD (mVar 0) (mVar 1)))) mNext)
  (mRet (mAndV (mCall (f_l_is_int A) [] (mARef 0 mANil)) (mOp eqD (mVar 0) (mVar 1)))))))))
def fr_l_same (A : Ad) : Nat → MF
  | 0 => runN 2 3 mNever
  | n + 1 => runN 2 3 (m_l_same A (fr_l_same A n))
abbrev f_l_same (A : Ad) : MF := fr_l_same A 6
/-! ### _law_sides -/
def m_l_sides (A : Ad) : MS := (mSeq (mAsg 4 (mIf (mTr blD (mOp eqD (mOp ixD (mVar 3) (mC (.int 0))) (mC (.str "across")))) (mC (.int 0)) (mC (.int 1))))
  (mSeq (mAsg 5 (mCB1 tupD (mLc (mItems (mVar 2)) (mgName 6) (mTr blD (mOp leD (mOp addD (mOp ixD (mOp ixD (mVar 1) (mVar 6)) (mVar 4)) (mOp ixD (mVar 0) (mVar 4))) (mOp ixD (mVar 3) (mC (.int 1))))) (mVar 6) [6])))
  (mSeq (mAsg 7 (mCB1 tupD (mLc (mItems (mVar 2)) (mgName 6) (mTr blD (mOp geD (mOp ixD (mOp ixD (mVar 1) (mVar 6)) (mVar 4)) (mOp ixD (mVar 3) (mC (.int 1))))) (mVar 6) [6])))
  (mRet (mTup (mACons (mVar 5) (mACons (mVar 7) mANil)))))))
abbrev f_l_sides (A : Ad) : MF := runN 4 8 (m_l_sides A)
/-! ### _law_walked -/
def m_l_walked (A : Ad) : MS := (mSeq (mAsg 3 (mLst (mACons (mCB1 tupD (mLc (mRng rng1D (mACons (mCB1 lenD (mVar 1)) mANil)) (mgName 4) mYes (mVar 4) [4])) mANil)))
  (mSeq (mAsg 5 (mLst mANil))
  (mSeq (mAsg 6 (mC (.int 0)))
  (mSeq (mFor (mRng rng1D (mACons (mOp mulD (mC (.int 2)) (mCB1 lenD (mVar 1))) mANil)) (mgName 4)
  (mSeq (mIfS (mTr blD (mOp eqD (mCB1 lenD (mVar 3)) (mC (.int 0)))) mBreak mNext)
  (mSeq (mAsg 7 (mLm 3 popF mANil))
  (mSeq (mAsg 8 (mCall (f_l_all_cuts A) [] (mARef 0 (mARef 1 (mACons (mVar 7) mANil)))))
  (mSeq (mIfS (mTr blD (mOp eqD (mCB1 lenD (mVar 8)) (mC (.int 0)))) (mSeq (mDrop (mLm 5 appendF (mACons (mVar 7) mANil)))
  mCont) mNext)
  (mSeq (mIfS (mOr (mTr blD (mOp geD (mVar 6) (mCB1 lenD (mVar 2)))) (mNot (mTr blD (mCall (f_l_same A) [] (mACons (mOp ixD (mVar 2) (mVar 6)) (mACons (mTup (mACons (mVar 7) (mACons (mOp ixD (mVar 8) (mC (.int 0))) mANil))) mANil)))))) (mRet (mC .non)) mNext)
  (mSeq (mAsgG (mgTup 2 (mgCons (mgName 9) (mgCons (mgName 10) mgNil))) (mCall (f_l_sides A) [] (mARef 0 (mARef 1 (mACons (mVar 7) (mACons (mOp ixD (mVar 8) (mC (.int 0))) mANil))))))
  (mSeq (mDrop (mLm 3 appendF (mACons (mVar 10) mANil)))
  (mSeq (mDrop (mLm 3 appendF (mACons (mVar 9) mANil)))
  (mAsg 6 (mOp addD (mVar 6) (mC (.int 1)))))))))))))
  (mRet (mIf (mTr blD (mOp eqD (mVar 6) (mCB1 lenD (mVar 2)))) (mCB1 tupD (mCB1 sortG (mVar 5))) (mC .non)))))))
abbrev f_l_walked (A : Ad) : MF := runN 3 11 (m_l_walked A)
/-! ### Cuts.__len__ -/
def m_Cuts_len (A : Ad) : MS := (mRet (mCB1 lenD (mFld [A.Cuts] "blocks" (mVar 0))))
abbrev f_Cuts_len (A : Ad) : MF := runN 1 1 (m_Cuts_len A)
/-! ### Cuts.__bool__ -/
def m_Cuts_bool (A : Ad) : MS := (mRet (mCB1 allB (mLc (mItems (mFld [A.Cuts] "blocks" (mVar 0))) (mgName 1) mYes (mOp eqD (mCB1 lenD (mVar 1)) (mC (.int 1))) [1])))
abbrev f_Cuts_bool (A : Ad) : MF := runN 1 2 (m_Cuts_bool A)
/-! ### _law_told_right -/
def m_l_told_right (A : Ad) : MS := (mSeq (mIfS (mOr (mNot (mTr blD (mCall (f_l_same A) [] (mACons (mFld [A.Cuts] "blocks" (mVar 0)) (mARef 1 mANil))))) (mNot (mTr blD (mCall (f_l_same A) [] (mACons (mFld [A.Cuts] "parting" (mVar 0)) (mARef 2 mANil)))))) (mRet (mC (.bl false))) mNext)
  (mSeq (mIfS (mOr (mTr blD (mOp neD (mOL A.Cuts (f_Cuts_len A) (mVar 0)) (mCB1 lenD (mVar 1)))) (mNot (mTr blD (mCall (f_l_same A) [] (mACons (mCB1 tupD (mLc (mOwnIt A.Cuts "blocks" (mVar 0)) (mgName 3) mYes (mVar 3) [3])) (mARef 1 mANil)))))) (mRet (mC (.bl false))) mNext)
  (mRet (mOp eqD (mOB A.Cuts (f_Cuts_bool A) (mVar 0)) (mOp eqD (mCB1 lenD (mLc (mItems (mVar 1)) (mgName 3) (mTr blD (mOp gtD (mCB1 lenD (mVar 3)) (mC (.int 1)))) (mVar 3) [3])) (mC (.int 0)))))))
abbrev f_l_told_right (A : Ad) : MF := runN 3 4 (m_l_told_right A)
/-! ### _law_parted -/
def m_l_parted (A : Ad) : MS := (mSeq (mAsg 3 (mLst (mACons (mCB1 tupD (mLc (mRng rng1D (mACons (mCB1 lenD (mVar 2)) mANil)) (mgName 4) mYes (mVar 4) [4])) mANil)))
  (mSeq (mAsg 5 (mLst mANil))
  (mSeq (mFor (mRng rng1D (mACons (mOp mulD (mC (.int 2)) (mCB1 lenD (mVar 2))) mANil)) (mgName 4)
  (mIfS (mTr blD (mOp gtD (mCB1 lenD (mVar 3)) (mC (.int 0)))) (mSeq (mAsg 6 (mLm 3 popF (mACons (mCall (f_l_pick A) [] (mARef 0 (mACons (mCB1 lenD (mVar 3)) mANil))) mANil)))
  (mSeq (mAsg 7 (mCall (f_l_all_cuts A) [] (mARef 1 (mARef 2 (mACons (mVar 6) mANil)))))
  (mIfS (mTr blD (mOp eqD (mCB1 lenD (mVar 7)) (mC (.int 0)))) (mDrop (mLm 5 appendF (mACons (mVar 6) mANil))) (mDrop (mLm 3 extendF (mACons (mCB1 listD (mCall (f_l_sides A) [] (mARef 1 (mARef 2 (mACons (mVar 6) (mACons (mCall (f_l_one_of A) [] (mARef 0 (mACons (mVar 7) mANil))) mANil)))))) mANil)))))) mNext))
  (mRet (mCB1 tupD (mCB1 sortG (mVar 5)))))))
abbrev f_l_parted (A : Ad) : MF := runN 3 8 (m_l_parted A)
/-! ### _law_cut_right -/
def m_l_cut_right (A : Ad) : MS := (mSeq (mAsg 4 (mCall (f_l_all_cuts A) [] (mARef 0 (mARef 1 (mARef 3 mANil)))))
  (mSeq (mAsg 5 (mIf (mTr trD (mVar 4)) (mOp ixD (mVar 4) (mC (.int 0))) (mC .non)))
  (mRet (mAndV (mCall (f_l_same A) [] (mACons (mCall (f_first_cut_g A) [] (mARef 2 (mARef 3 mANil))) (mACons (mVar 5) mANil))) (mCall (f_l_same A) [] (mACons (mCall (f_first_cut_g A) [] (mARef 2 (mACons (mCB1 listD (mVar 3)) mANil))) (mACons (mVar 5) mANil)))))))
abbrev f_l_cut_right (A : Ad) : MF := runN 4 6 (m_l_cut_right A)
/-! ### law -/
def m_law_g (A : Ad) : MS := (mSeq (mAsg 1 (mCall (f_l_bag_of A) [] (mARef 0 (mACons (mC (.int 0)) mANil))))
  (mSeq (mAsg 2 (mTup (mACons (mOp addD (mC (.int 1)) (mCall (f_l_pick A) [] (mARef 1 (mACons (mC (.int 4)) mANil)))) (mACons (mOp addD (mC (.int 1)) (mCall (f_l_pick A) [] (mARef 1 (mACons (mC (.int 4)) mANil)))) mANil))))
  (mSeq (mIfS (mTr blD (mOp eqD (mCall (f_l_pick A) [] (mARef 1 (mACons (mC (.int 8)) mANil))) (mC (.int 0)))) (mAsg 2 (mTup (mACons (mOp addD (mC (.int 1)) (mCall (f_l_pick A) [] (mARef 1 (mACons (mC (.int 12)) mANil)))) (mACons (mOp addD (mC (.int 1)) (mCall (f_l_pick A) [] (mARef 1 (mACons (mC (.int 12)) mANil)))) mANil)))) mNext)
  (mSeq (mAsg 3 (mCall (f_l_mixed_of A) [] (mARef 1 (mACons (mCall (f_l_copies_of A) [] (mARef 1 (mACons (mVar 2) (mACons (mC (.int 8)) mANil)))) mANil))))
  (mSeq (mAsg 4 (mMake A.Layout (f_Layout_init A) [] (mACons (mOp ixD (mVar 2) (mC (.int 0))) (mACons (mOp ixD (mVar 2) (mC (.int 1))) (mACons (mVar 3) mANil)))))
  (mSeq (mAsg 5 (mMake A.Cuts (f_Cuts_init A) [] (mACons (mVar 4) mANil)))
  (mSeq (mIfS (mNot (mTr blD (mIsi tab_tuple (mFld [A.Cuts] "parting" (mVar 5))))) (mRet (mC (.bl false))) mNext)
  (mSeq (mAsg 6 (mCall (f_l_walked A) [] (mACons (mVar 2) (mACons (mVar 3) (mACons (mFld [A.Cuts] "parting" (mVar 5)) mANil)))))
  (mSeq (mIfS (mOr (mTr blD (mOp isD (mVar 6) (mC .non))) (mTr blD (mOp neD (mCB1 lenD (mFld [A.Cuts] "parting" (mVar 5))) (mOp subD (mCB1 lenD (mVar 6)) (mC (.int 1)))))) (mRet (mC (.bl false))) mNext)
  (mSeq (mIfS (mNot (mTr blD (mCall (f_l_told_right A) [] (mACons (mVar 5) (mACons (mVar 6) (mACons (mFld [A.Cuts] "parting" (mVar 5)) mANil)))))) (mRet (mC (.bl false))) mNext)
  (mSeq (mAsg 1 (mCall (f_l_bag_of A) [] (mARef 0 (mACons (mC (.int 1)) mANil))))
  (mSeq (mFor (mRng rng1D (mACons (mC (.int 3)) mANil)) (mgName 7)
  (mIfS (mTr blD (mOp neD (mCall (f_l_parted A) [] (mARef 1 (mACons (mVar 2) (mACons (mVar 3) mANil)))) (mVar 6))) (mRet (mC (.bl false))) mNext))
  (mSeq (mAsg 8 (mCall (f_l_pick A) [] (mARef 1 (mACons (mOp subD (mC (.int 61)) (mCB1 maxD (mLc (mItems (mVar 3)) (mgName 9) mYes (mOp ixD (mVar 9) (mC (.int 0))) [9]))) mANil))))
  (mSeq (mAsg 10 (mCall (f_l_pick A) [] (mARef 1 (mACons (mOp subD (mC (.int 61)) (mCB1 maxD (mLc (mItems (mVar 3)) (mgName 9) mYes (mOp ixD (mVar 9) (mC (.int 1))) [9]))) mANil))))
  (mSeq (mAsg 11 (mLc (mItems (mVar 3)) (mgName 9) mYes (mTup (mACons (mOp addD (mOp ixD (mVar 9) (mC (.int 0))) (mVar 8)) (mACons (mOp addD (mOp ixD (mVar 9) (mC (.int 1))) (mVar 10)) (mACons (mNotV (mOp ixD (mVar 9) (mC (.int 2)))) mANil)))) [9]))
  (mSeq (mAsg 12 (mMake A.Cuts (f_Cuts_init A) [] (mACons (mMake A.Layout (f_Layout_init A) [] (mACons (mOp ixD (mVar 2) (mC (.int 0))) (mACons (mOp ixD (mVar 2) (mC (.int 1))) (mACons (mVar 11) mANil)))) mANil)))
  (mSeq (mAsg 13 (mLst mANil))
  (mSeq (mFor (mItems (mFld [A.Cuts] "parting" (mVar 5))) (mgTup 2 (mgCons (mgName 14) (mgCons (mgName 15) mgNil)))
  (mDrop (mLm 13 appendF (mACons (mTup (mACons (mVar 14) (mACons (mTup (mACons (mOp ixD (mVar 15) (mC (.int 0))) (mACons (mOp addD (mOp ixD (mVar 15) (mC (.int 1))) (mIf (mTr blD (mOp eqD (mOp ixD (mVar 15) (mC (.int 0))) (mC (.str "across")))) (mVar 8) (mVar 10))) mANil))) mANil))) mANil))))
  (mSeq (mIfS (mNot (mTr blD (mCall (f_l_told_right A) [] (mACons (mVar 12) (mACons (mVar 6) (mACons (mCB1 tupD (mVar 13)) mANil)))))) (mRet (mC (.bl false))) mNext)
  (mSeq (mFor (mItems (mVar 6)) (mgName 16)
  (mIfS (mNot (mTr blD (mCall (f_l_cut_right A) [] (mACons (mVar 2) (mACons (mVar 3) (mACons (mVar 4) (mACons (mVar 16) mANil))))))) (mRet (mC (.bl false))) mNext))
  (mSeq (mFor (mRng rng1D (mACons (mC (.int 4)) mANil)) (mgName 7)
  (mSeq (mAsg 14 (mCB1 tupD (mLc (mRng rng1D (mACons (mCB1 lenD (mVar 3)) mANil)) (mgName 17) (mTr blD (mOp eqD (mCall (f_l_pick A) [] (mARef 1 (mACons (mC (.int 2)) mANil))) (mC (.int 0)))) (mVar 17) [17])))
  (mIfS (mAnd (mTr blD (mOp gtD (mCB1 lenD (mVar 14)) (mC (.int 0)))) (mNot (mTr blD (mCall (f_l_cut_right A) [] (mACons (mVar 2) (mACons (mVar 3) (mACons (mVar 4) (mACons (mVar 14) mANil)))))))) (mRet (mC (.bl false))) mNext)))
  (mRet (mCall (f_l_told_right A) [] (mACons (mVar 5) (mACons (mVar 6) (mACons (mFld [A.Cuts] "parting" (mVar 5)) mANil))))))))))))))))))))))))))
abbrev f_law_g (A : Ad) : MF := runN 1 18 (m_law_g A)
end Cz

/-! # Gk73 -/
namespace Cz
open L2 PyProof.Rows PySem.Spec PySem
def top (i : Nat) : Stmt := PySem.Challenge.pw_strayplates_k73_whole_cuts.main.body.getD i (.Pass ⟨0, 0, 0, 0⟩)
/-! _law_bag_of -/
abbrev s_l_bag_of : Stmt := top 21
theorem sc_l_bag_of : FnScope ["_law_script", "_law_at", "_law_total", "_law_k", "_law_cell", "_law_state", "_law_source"] ["_law_script", "_law_at"] (defScope s_l_bag_of) := ⟨rfl, rfl, rfl, by decide +kernel, rfl, by decide +kernel, by decide +kernel⟩
/-! _law_pick -/
abbrev s_l_pick : Stmt := top 22
theorem sc_l_pick : FnScope ["_law_bag", "_law_many", "_law_drawn", "_law_mixed"] ["_law_bag", "_law_many"] (defScope s_l_pick) := ⟨rfl, rfl, rfl, by decide +kernel, rfl, by decide +kernel, by decide +kernel⟩
/-! _law_wheel -/
abbrev s_l_wheel : Stmt := top 28
theorem sc_l_wheel : FnScope ["_law_bag", "_law_size", "_law_high", "_law_wide", "_law_places", "_law_down", "_law_side", "_law_place"] ["_law_bag", "_law_size"] (defScope s_l_wheel) := ⟨rfl, rfl, rfl, by decide +kernel, rfl, by decide +kernel, by decide +kernel⟩
/-! _law_one_of -/
abbrev s_l_one_of : Stmt := top 23
theorem sc_l_one_of : FnScope ["_law_bag", "_law_row"] ["_law_bag", "_law_row"] (defScope s_l_one_of) := ⟨rfl, rfl, rfl, by decide +kernel, rfl, by decide +kernel, by decide +kernel⟩
/-! _law_meet -/
abbrev s_l_meet : Stmt := top 27
theorem sc_l_meet : FnScope ["_law_one", "_law_other", "_law_size"] ["_law_one", "_law_other", "_law_size"] (defScope s_l_meet) := ⟨rfl, rfl, rfl, by decide +kernel, rfl, by decide +kernel, by decide +kernel⟩
/-! _law_copies_of -/
abbrev s_l_copies_of : Stmt := top 29
theorem sc_l_copies_of : FnScope ["_law_bag", "_law_size", "_law_most", "_law_found", "_law_k", "_law_base", "_law_gap", "_law_slip", "_law_way", "_law_place", "_law_half", "_law_near", "_law_one"] ["_law_bag", "_law_size", "_law_most"] (defScope s_l_copies_of) := ⟨rfl, rfl, rfl, by decide +kernel, rfl, by decide +kernel, by decide +kernel⟩
/-! _law_mixed_of -/
abbrev s_l_mixed_of : Stmt := top 24
theorem sc_l_mixed_of : FnScope ["_law_bag", "_law_row", "_law_rest", "_law_found", "_law_k"] ["_law_bag", "_law_row"] (defScope s_l_mixed_of) := ⟨rfl, rfl, rfl, by decide +kernel, rfl, by decide +kernel, by decide +kernel⟩
/-! plain -/
abbrev s_plain_g : Stmt := top 11
theorem sc_plain_g : FnScope ["thing", "part"] ["thing"] (defScope s_plain_g) := ⟨rfl, rfl, rfl, by decide +kernel, rfl, by decide +kernel, by decide +kernel⟩
/-! is_integer -/
abbrev s_is_integer_g : Stmt := top 12
theorem sc_is_integer_g : FnScope ["thing"] ["thing"] (defScope s_is_integer_g) := ⟨rfl, rfl, rfl, by decide +kernel, rfl, by decide +kernel, by decide +kernel⟩
/-! is_within -/
abbrev s_is_within_g : Stmt := top 13
theorem sc_is_within_g : FnScope ["thing", "low", "high"] ["thing", "low", "high"] (defScope s_is_within_g) := ⟨rfl, rfl, rfl, by decide +kernel, rfl, by decide +kernel, by decide +kernel⟩
/-! is_tuple -/
abbrev s_is_tuple_g : Stmt := top 15
theorem sc_is_tuple_g : FnScope ["thing", "least", "most"] ["thing", "least", "most"] (defScope s_is_tuple_g) := ⟨rfl, rfl, rfl, by decide +kernel, rfl, by decide +kernel, by decide +kernel⟩
/-! _is_copy -/
abbrev s_is_copy_f : Stmt := top 17
theorem sc_is_copy_f : FnScope ["thing"] ["thing"] (defScope s_is_copy_f) := ⟨rfl, rfl, rfl, by decide +kernel, rfl, by decide +kernel, by decide +kernel⟩
/-! _meet -/
abbrev s_meet_f : Stmt := top 18
theorem sc_meet_f : FnScope ["one", "other", "height", "width"] ["one", "other", "height", "width"] (defScope s_meet_f) := ⟨rfl, rfl, rfl, by decide +kernel, rfl, by decide +kernel, by decide +kernel⟩
/-! Layout.__init__ -/
abbrev s_Layout_init : Stmt := inClass (top 19) 0
theorem sc_Layout_init : FnScope ["self", "height", "width", "copies", "told", "number", "copy", "earlier"] ["self", "height", "width", "copies"] (defScope s_Layout_init) := ⟨rfl, rfl, rfl, by decide +kernel, rfl, by decide +kernel, by decide +kernel⟩
/-! Layout.__len__ -/
abbrev s_Layout_len : Stmt := inClass (top 19) 2
theorem sc_Layout_len : FnScope ["self"] ["self"] (defScope s_Layout_len) := ⟨rfl, rfl, rfl, by decide +kernel, rfl, by decide +kernel, by decide +kernel⟩
/-! is_number_of -/
abbrev s_is_number_of_g : Stmt := top 14
theorem sc_is_number_of_g : FnScope ["thing", "row"] ["thing", "row"] (defScope s_is_number_of_g) := ⟨rfl, rfl, rfl, by decide +kernel, rfl, by decide +kernel, by decide +kernel⟩
/-! Layout.__getitem__ -/
abbrev s_Layout_getitem : Stmt := inClass (top 19) 1
theorem sc_Layout_getitem : FnScope ["self", "at"] ["self", "at"] (defScope s_Layout_getitem) := ⟨rfl, rfl, rfl, by decide +kernel, rfl, by decide +kernel, by decide +kernel⟩
/-! _parts -/
abbrev s_parts_f : Stmt := top 2
theorem sc_parts_f : FnScope ["layout", "lot", "way", "number", "low", "high", "copy", "top", "left", "_", "first", "size"] ["layout", "lot", "way", "number"] (defScope s_parts_f) := ⟨rfl, rfl, rfl, by decide +kernel, rfl, by decide +kernel, by decide +kernel⟩
/-! first_cut -/
abbrev s_first_cut_g : Stmt := top 3
theorem sc_first_cut_g : FnScope ["layout", "lot", "way", "ends", "copy", "number", "parts"] ["layout", "lot"] (defScope s_first_cut_g) := ⟨rfl, rfl, rfl, by decide +kernel, rfl, by decide +kernel, by decide +kernel⟩
/-! _cut_through -/
abbrev s_cut_through_f : Stmt := top 4
theorem sc_cut_through_f : FnScope ["layout", "lot", "cut", "blocks", "steps", "part", "further", "more"] ["layout", "lot"] (defScope s_cut_through_f) := ⟨rfl, rfl, rfl, by decide +kernel, rfl, by decide +kernel, by decide +kernel⟩
/-! Cuts.__init__ -/
abbrev s_Cuts_init : Stmt := inClass (top 5) 0
theorem sc_Cuts_init : FnScope ["self", "layout", "blocks", "steps"] ["self", "layout"] (defScope s_Cuts_init) := ⟨rfl, rfl, rfl, by decide +kernel, rfl, by decide +kernel, by decide +kernel⟩
/-! _law_all_cuts -/
abbrev s_l_all_cuts : Stmt := top 31
theorem sc_l_all_cuts : FnScope ["_law_size", "_law_copies", "_law_lot", "_law_found", "_law_at", "_law_places", "_law_k", "_law_number", "_law_through", "_law_place"] ["_law_size", "_law_copies", "_law_lot"] (defScope s_l_all_cuts) := ⟨rfl, rfl, rfl, by decide +kernel, rfl, by decide +kernel, by decide +kernel⟩
/-! _law_is_int -/
abbrev s_l_is_int : Stmt := top 25
theorem sc_l_is_int : FnScope ["_law_thing"] ["_law_thing"] (defScope s_l_is_int) := ⟨rfl, rfl, rfl, by decide +kernel, rfl, by decide +kernel, by decide +kernel⟩
/-! _law_same -/
abbrev s_l_same : Stmt := top 26
theorem sc_l_same : FnScope ["_law_told", "_law_wanted", "_law_k"] ["_law_told", "_law_wanted"] (defScope s_l_same) := ⟨rfl, rfl, rfl, by decide +kernel, rfl, by decide +kernel, by decide +kernel⟩
/-! _law_sides -/
abbrev s_l_sides : Stmt := top 30
theorem sc_l_sides : FnScope ["_law_size", "_law_copies", "_law_lot", "_law_cut", "_law_at", "_law_ahead", "_law_k", "_law_behind"] ["_law_size", "_law_copies", "_law_lot", "_law_cut"] (defScope s_l_sides) := ⟨rfl, rfl, rfl, by decide +kernel, rfl, by decide +kernel, by decide +kernel⟩
/-! _law_walked -/
abbrev s_l_walked : Stmt := top 32
theorem sc_l_walked : FnScope ["_law_size", "_law_copies", "_law_parting", "_law_lots", "_law_k", "_law_blocks", "_law_at", "_law_lot", "_law_cuts", "_law_ahead", "_law_behind"] ["_law_size", "_law_copies", "_law_parting"] (defScope s_l_walked) := ⟨rfl, rfl, rfl, by decide +kernel, rfl, by decide +kernel, by decide +kernel⟩
/-! Cuts.__len__ -/
abbrev s_Cuts_len : Stmt := inClass (top 5) 2
theorem sc_Cuts_len : FnScope ["self"] ["self"] (defScope s_Cuts_len) := ⟨rfl, rfl, rfl, by decide +kernel, rfl, by decide +kernel, by decide +kernel⟩
/-! Cuts.__bool__ -/
abbrev s_Cuts_bool : Stmt := inClass (top 5) 1
theorem sc_Cuts_bool : FnScope ["self", "block"] ["self"] (defScope s_Cuts_bool) := ⟨rfl, rfl, rfl, by decide +kernel, rfl, by decide +kernel, by decide +kernel⟩
/-! _law_told_right -/
abbrev s_l_told_right : Stmt := top 34
theorem sc_l_told_right : FnScope ["_law_told", "_law_blocks", "_law_parting", "_law_block"] ["_law_told", "_law_blocks", "_law_parting"] (defScope s_l_told_right) := ⟨rfl, rfl, rfl, by decide +kernel, rfl, by decide +kernel, by decide +kernel⟩
/-! _law_parted -/
abbrev s_l_parted : Stmt := top 33
theorem sc_l_parted : FnScope ["_law_bag", "_law_size", "_law_copies", "_law_lots", "_law_k", "_law_blocks", "_law_lot", "_law_cuts"] ["_law_bag", "_law_size", "_law_copies"] (defScope s_l_parted) := ⟨rfl, rfl, rfl, by decide +kernel, rfl, by decide +kernel, by decide +kernel⟩
/-! _law_cut_right -/
abbrev s_l_cut_right : Stmt := top 35
theorem sc_l_cut_right : FnScope ["_law_size", "_law_copies", "_law_layout", "_law_lot", "_law_cuts", "_law_due"] ["_law_size", "_law_copies", "_law_layout", "_law_lot"] (defScope s_l_cut_right) := ⟨rfl, rfl, rfl, by decide +kernel, rfl, by decide +kernel, by decide +kernel⟩
/-! law -/
abbrev s_law_g : Stmt := top 36
theorem sc_law_g : FnScope ["_law_script", "_law_bag", "_law_size", "_law_copies", "_law_layout", "_law_told", "_law_blocks", "_law_k", "_law_down", "_law_one", "_law_side", "_law_moved", "_law_again", "_law_shifted", "_law_lot", "_law_cut", "_law_block", "_law_number"] ["_law_script"] (defScope s_law_g) := ⟨rfl, rfl, rfl, by decide +kernel, rfl, by decide +kernel, by decide +kernel⟩
/-! Cuts.__iter__ -/
abbrev s_Cuts_iter : Stmt := inClass (top 5) 3
theorem sc_Cuts_iter : FnScope ["self"] ["self"] (defScope s_Cuts_iter) := ⟨rfl, rfl, rfl, by decide +kernel, rfl, by decide +kernel, by decide +kernel⟩
/-! what the top has written -/
structure Fa where
  l_bag_of : Addr
  l_pick : Addr
  l_wheel : Addr
  l_one_of : Addr
  l_meet : Addr
  l_copies_of : Addr
  l_mixed_of : Addr
  plain_g : Addr
  is_integer_g : Addr
  is_within_g : Addr
  is_tuple_g : Addr
  is_copy_f : Addr
  meet_f : Addr
  Layout_init : Addr
  Layout_len : Addr
  is_number_of_g : Addr
  Layout_getitem : Addr
  parts_f : Addr
  first_cut_g : Addr
  cut_through_f : Addr
  Cuts_init : Addr
  l_all_cuts : Addr
  l_is_int : Addr
  l_same : Addr
  l_sides : Addr
  l_walked : Addr
  Cuts_len : Addr
  Cuts_bool : Addr
  l_told_right : Addr
  l_parted : Addr
  l_cut_right : Addr
  law_g : Addr
  Cuts_iter : Addr
structure Fd where
  l_bag_of : FuncData
  l_pick : FuncData
  l_wheel : FuncData
  l_one_of : FuncData
  l_meet : FuncData
  l_copies_of : FuncData
  l_mixed_of : FuncData
  plain_g : FuncData
  is_integer_g : FuncData
  is_within_g : FuncData
  is_tuple_g : FuncData
  is_copy_f : FuncData
  meet_f : FuncData
  Layout_init : FuncData
  Layout_len : FuncData
  is_number_of_g : FuncData
  Layout_getitem : FuncData
  parts_f : FuncData
  first_cut_g : FuncData
  cut_through_f : FuncData
  Cuts_init : FuncData
  l_all_cuts : FuncData
  l_is_int : FuncData
  l_same : FuncData
  l_sides : FuncData
  l_walked : FuncData
  Cuts_len : FuncData
  Cuts_bool : FuncData
  l_told_right : FuncData
  l_parted : FuncData
  l_cut_right : FuncData
  law_g : FuncData
  Cuts_iter : FuncData
structure Tx (K : PySem.W.Frag) (mg : Str → Option Value) (A : Ad) (fa : Fa) (fd : Fd) : Prop where
  F_l_bag_of : Fun K "_law_bag_of" "_law_bag_of" s_l_bag_of fa.l_bag_of fd.l_bag_of
  B_l_bag_of : Binds K fd.l_bag_of ["_law_script", "_law_at"] []
  g_l_bag_of : mg "_law_bag_of" = some (.ref fa.l_bag_of)
  F_l_pick : Fun K "_law_pick" "_law_pick" s_l_pick fa.l_pick fd.l_pick
  B_l_pick : Binds K fd.l_pick ["_law_bag", "_law_many"] []
  g_l_pick : mg "_law_pick" = some (.ref fa.l_pick)
  F_l_wheel : Fun K "_law_wheel" "_law_wheel" s_l_wheel fa.l_wheel fd.l_wheel
  B_l_wheel : Binds K fd.l_wheel ["_law_bag", "_law_size"] []
  g_l_wheel : mg "_law_wheel" = some (.ref fa.l_wheel)
  F_l_one_of : Fun K "_law_one_of" "_law_one_of" s_l_one_of fa.l_one_of fd.l_one_of
  B_l_one_of : Binds K fd.l_one_of ["_law_bag", "_law_row"] []
  g_l_one_of : mg "_law_one_of" = some (.ref fa.l_one_of)
  F_l_meet : Fun K "_law_meet" "_law_meet" s_l_meet fa.l_meet fd.l_meet
  B_l_meet : Binds K fd.l_meet ["_law_one", "_law_other", "_law_size"] []
  g_l_meet : mg "_law_meet" = some (.ref fa.l_meet)
  F_l_copies_of : Fun K "_law_copies_of" "_law_copies_of" s_l_copies_of fa.l_copies_of fd.l_copies_of
  B_l_copies_of : Binds K fd.l_copies_of ["_law_bag", "_law_size", "_law_most"] []
  g_l_copies_of : mg "_law_copies_of" = some (.ref fa.l_copies_of)
  F_l_mixed_of : Fun K "_law_mixed_of" "_law_mixed_of" s_l_mixed_of fa.l_mixed_of fd.l_mixed_of
  B_l_mixed_of : Binds K fd.l_mixed_of ["_law_bag", "_law_row"] []
  g_l_mixed_of : mg "_law_mixed_of" = some (.ref fa.l_mixed_of)
  F_plain_g : Fun K "plain" "plain" s_plain_g fa.plain_g fd.plain_g
  B_plain_g : Binds K fd.plain_g ["thing"] []
  g_plain_g : mg "plain" = some (.ref fa.plain_g)
  F_is_integer_g : Fun K "is_integer" "is_integer" s_is_integer_g fa.is_integer_g fd.is_integer_g
  B_is_integer_g : Binds K fd.is_integer_g ["thing"] []
  g_is_integer_g : mg "is_integer" = some (.ref fa.is_integer_g)
  F_is_within_g : Fun K "is_within" "is_within" s_is_within_g fa.is_within_g fd.is_within_g
  B_is_within_g : Binds K fd.is_within_g ["thing", "low", "high"] []
  g_is_within_g : mg "is_within" = some (.ref fa.is_within_g)
  F_is_tuple_g : Fun K "is_tuple" "is_tuple" s_is_tuple_g fa.is_tuple_g fd.is_tuple_g
  B_is_tuple_g : Binds K fd.is_tuple_g ["thing", "least", "most"] []
  g_is_tuple_g : mg "is_tuple" = some (.ref fa.is_tuple_g)
  F_is_copy_f : Fun K "_is_copy" "_is_copy" s_is_copy_f fa.is_copy_f fd.is_copy_f
  B_is_copy_f : Binds K fd.is_copy_f ["thing"] []
  g_is_copy_f : mg "_is_copy" = some (.ref fa.is_copy_f)
  F_meet_f : Fun K "_meet" "_meet" s_meet_f fa.meet_f fd.meet_f
  B_meet_f : Binds K fd.meet_f ["one", "other", "height", "width"] []
  g_meet_f : mg "_meet" = some (.ref fa.meet_f)
  F_Layout_init : Fun K "__init__" "Layout.__init__" s_Layout_init fa.Layout_init fd.Layout_init
  B_Layout_init : Binds K fd.Layout_init ["self", "height", "width", "copies"] []
  mk_Layout : Mk K A.Layout fa.Layout_init
  F_Layout_len : Fun K "__len__" "Layout.__len__" s_Layout_len fa.Layout_len fd.Layout_len
  B_Layout_len : Binds K fd.Layout_len ["self"] []
  M_Layout_len : Meth K A.Layout "__len__" fa.Layout_len
  F_is_number_of_g : Fun K "is_number_of" "is_number_of" s_is_number_of_g fa.is_number_of_g fd.is_number_of_g
  B_is_number_of_g : Binds K fd.is_number_of_g ["thing", "row"] []
  g_is_number_of_g : mg "is_number_of" = some (.ref fa.is_number_of_g)
  F_Layout_getitem : Fun K "__getitem__" "Layout.__getitem__" s_Layout_getitem fa.Layout_getitem fd.Layout_getitem
  B_Layout_getitem : Binds K fd.Layout_getitem ["self", "at"] []
  M_Layout_getitem : Meth K A.Layout "__getitem__" fa.Layout_getitem
  F_parts_f : Fun K "_parts" "_parts" s_parts_f fa.parts_f fd.parts_f
  B_parts_f : Binds K fd.parts_f ["layout", "lot", "way", "number"] []
  g_parts_f : mg "_parts" = some (.ref fa.parts_f)
  F_first_cut_g : Fun K "first_cut" "first_cut" s_first_cut_g fa.first_cut_g fd.first_cut_g
  B_first_cut_g : Binds K fd.first_cut_g ["layout", "lot"] []
  g_first_cut_g : mg "first_cut" = some (.ref fa.first_cut_g)
  F_cut_through_f : Fun K "_cut_through" "_cut_through" s_cut_through_f fa.cut_through_f fd.cut_through_f
  B_cut_through_f : Binds K fd.cut_through_f ["layout", "lot"] []
  g_cut_through_f : mg "_cut_through" = some (.ref fa.cut_through_f)
  F_Cuts_init : Fun K "__init__" "Cuts.__init__" s_Cuts_init fa.Cuts_init fd.Cuts_init
  B_Cuts_init : Binds K fd.Cuts_init ["self", "layout"] []
  mk_Cuts : Mk K A.Cuts fa.Cuts_init
  F_l_all_cuts : Fun K "_law_all_cuts" "_law_all_cuts" s_l_all_cuts fa.l_all_cuts fd.l_all_cuts
  B_l_all_cuts : Binds K fd.l_all_cuts ["_law_size", "_law_copies", "_law_lot"] []
  g_l_all_cuts : mg "_law_all_cuts" = some (.ref fa.l_all_cuts)
  F_l_is_int : Fun K "_law_is_int" "_law_is_int" s_l_is_int fa.l_is_int fd.l_is_int
  B_l_is_int : Binds K fd.l_is_int ["_law_thing"] []
  g_l_is_int : mg "_law_is_int" = some (.ref fa.l_is_int)
  F_l_same : Fun K "_law_same" "_law_same" s_l_same fa.l_same fd.l_same
  B_l_same : Binds K fd.l_same ["_law_told", "_law_wanted"] []
  g_l_same : mg "_law_same" = some (.ref fa.l_same)
  F_l_sides : Fun K "_law_sides" "_law_sides" s_l_sides fa.l_sides fd.l_sides
  B_l_sides : Binds K fd.l_sides ["_law_size", "_law_copies", "_law_lot", "_law_cut"] []
  g_l_sides : mg "_law_sides" = some (.ref fa.l_sides)
  F_l_walked : Fun K "_law_walked" "_law_walked" s_l_walked fa.l_walked fd.l_walked
  B_l_walked : Binds K fd.l_walked ["_law_size", "_law_copies", "_law_parting"] []
  g_l_walked : mg "_law_walked" = some (.ref fa.l_walked)
  F_Cuts_len : Fun K "__len__" "Cuts.__len__" s_Cuts_len fa.Cuts_len fd.Cuts_len
  B_Cuts_len : Binds K fd.Cuts_len ["self"] []
  M_Cuts_len : Meth K A.Cuts "__len__" fa.Cuts_len
  F_Cuts_bool : Fun K "__bool__" "Cuts.__bool__" s_Cuts_bool fa.Cuts_bool fd.Cuts_bool
  B_Cuts_bool : Binds K fd.Cuts_bool ["self"] []
  M_Cuts_bool : Meth K A.Cuts "__bool__" fa.Cuts_bool
  F_l_told_right : Fun K "_law_told_right" "_law_told_right" s_l_told_right fa.l_told_right fd.l_told_right
  B_l_told_right : Binds K fd.l_told_right ["_law_told", "_law_blocks", "_law_parting"] []
  g_l_told_right : mg "_law_told_right" = some (.ref fa.l_told_right)
  F_l_parted : Fun K "_law_parted" "_law_parted" s_l_parted fa.l_parted fd.l_parted
  B_l_parted : Binds K fd.l_parted ["_law_bag", "_law_size", "_law_copies"] []
  g_l_parted : mg "_law_parted" = some (.ref fa.l_parted)
  F_l_cut_right : Fun K "_law_cut_right" "_law_cut_right" s_l_cut_right fa.l_cut_right fd.l_cut_right
  B_l_cut_right : Binds K fd.l_cut_right ["_law_size", "_law_copies", "_law_layout", "_law_lot"] []
  g_l_cut_right : mg "_law_cut_right" = some (.ref fa.l_cut_right)
  F_law_g : Fun K "law" "law" s_law_g fa.law_g fd.law_g
  B_law_g : Binds K fd.law_g ["_law_script"] []
  g_law_g : mg "law" = some (.ref fa.law_g)
  F_Cuts_iter : Fun K "__iter__" "Cuts.__iter__" s_Cuts_iter fa.Cuts_iter fd.Cuts_iter
  B_Cuts_iter : Binds K fd.Cuts_iter ["self"] []
  M_Cuts_iter : Meth K A.Cuts "__iter__" fa.Cuts_iter
  fn_Layout_getitem : PySem.W.fnIn K fa.Layout_getitem = true
  L_Cuts : Cls K A.Cuts
  c_Cuts : mg "Cuts" = some (.ref A.Cuts)
  L_Layout : Cls K A.Layout
  c_Layout : mg "Layout" = some (.ref A.Layout)
  n_Cuts_blocks : ∀ C ∈ [A.Cuts], Cls K C ∧ NoAttr K C "blocks"
  n_Cuts_parting : ∀ C ∈ [A.Cuts], Cls K C ∧ NoAttr K C "parting"
  n_Layout_copies : ∀ C ∈ [A.Layout], Cls K C ∧ NoAttr K C "copies"
  n_Layout_height : ∀ C ∈ [A.Layout], Cls K C ∧ NoAttr K C "height"
  n_Layout_width : ∀ C ∈ [A.Layout], Cls K C ∧ NoAttr K C "width"
  b_abs : mg "abs" = none
  b_all : mg "all" = none
  b_any : mg "any" = none
  b_bool : mg "bool" = none
  b_enumerate : mg "enumerate" = none
  b_int : mg "int" = none
  b_isinstance : mg "isinstance" = none
  b_iter : mg "iter" = none
  b_len : mg "len" = none
  b_list : mg "list" = none
  b_max : mg "max" = none
  b_min : mg "min" = none
  b_range : mg "range" = none
  b_set : mg "set" = none
  b_sorted : mg "sorted" = none
  b_str : mg "str" = none
  b_tuple : mg "tuple" = none
variable {P : Program} {w : World} {K : PySem.W.Frag} {mg : Str → Option Value} {base : Heap} {A : Ad} {fa : Fa} {fd : Fd}
theorem it_Cuts_iter (T : Tx K mg A fa fd) : ItD P w K mg base A.Cuts fa.Cuts_iter s_Cuts_iter "blocks" := ⟨T.M_Cuts_iter.at_, T.M_Cuts_iter.fn, T.L_Cuts, (T.n_Cuts_blocks _ List.mem_cons_self).2, fd.Cuts_iter, "Cuts.__iter__", T.F_Cuts_iter, T.B_Cuts_iter, sc_Cuts_iter, fun cdv B outer s H E => pss_one (ps_ret (pe_callB call_iterT rfl T.b_iter boot_iterB (pa_cons (pe_fld (pv 0 rfl (Or.inl rfl)) rfl) pa_nil) (by decide) (by decide)))⟩
/-! ### _law_bag_of -/
theorem ok_l_bag_of (T : Tx K mg A fa fd) : FnOk P w K mg base CX0 1 fa.l_bag_of fd.l_bag_of ["_law_script", "_law_at"] (spM K (f_l_bag_of A)) := by
  refine fn_okN2 rfl rfl T.F_l_bag_of sc_l_bag_of (fun cdv B outer s H E hr => ?_)
  have C : CSs (cxOf CX0 P w K mg base ["_law_script", "_law_at", "_law_total", "_law_k", "_law_cell", "_law_state", "_law_source"] "_law_bag_of" (defScope s_l_bag_of) fa.l_bag_of cdv B outer s H E).nox K W0 (defBody s_l_bag_of) _ (m_l_bag_of A) := (s_cons (s_set 2 sc_l_bag_of.nd rfl (by first | exact Or.inl rfl | exact Or.inr rfl) (c_add rfl (c_mul c_i (c_v 1)) c_i))
  (s_cons (s_for PassesOwn.never rfl (i_enumA rfl T.b_enumerate rfl (a_cons (c_v 0) a_nil)) (g_tup rfl rfl (g_cons (g_n 3 sc_l_bag_of.nd rfl (by first | exact Or.inl rfl | exact Or.inr rfl)) (g_cons (g_n 4 sc_l_bag_of.nd rfl (by first | exact Or.inl rfl | exact Or.inr rfl)) g_nil))) (s_one (s_set 2 sc_l_bag_of.nd rfl (by first | exact Or.inl rfl | exact Or.inr rfl) (c_mod (c_int rfl T.b_int (c_add rfl (c_add rfl (c_add rfl (c_mul (c_v 2) c_i) (c_mul (c_abs rfl T.b_abs (c_v 4)) c_i)) (c_if (t_lt (c_v 4) c_i) c_i c_i)) (c_v 3))) c_i))))
  (s_cons (s_set 4 sc_l_bag_of.nd rfl (by first | exact Or.inl rfl | exact Or.inr rfl) (c_if (t_lt (c_v 1) (c_len rfl T.b_len rfl (c_v 0))) (c_ix (fun _ _ => rfl) rfl (c_v 0) (c_v 1)) (c_v 2)))
  (s_cons (s_set 5 sc_l_bag_of.nd rfl (by first | exact Or.inl rfl | exact Or.inr rfl) (c_mod (c_int rfl T.b_int (c_add rfl (c_add rfl (c_add rfl (c_mul (c_abs rfl T.b_abs (c_v 4)) c_i) (c_if (t_lt (c_v 4) c_i) c_i c_i)) (c_mul c_i (c_v 1))) c_i)) c_i))
  (s_cons (s_for PassesOwn.never rfl (i_r1 rfl T.b_range (a_cons c_i a_nil)) (g_n 3 sc_l_bag_of.nd rfl (by first | exact Or.inl rfl | exact Or.inr rfl)) (s_one (s_set 5 sc_l_bag_of.nd rfl (by first | exact Or.inl rfl | exact Or.inr rfl) (c_mod (c_int rfl T.b_int (c_add rfl (c_add rfl (c_mul (c_v 5) c_i) c_i) (c_v 3))) c_i))))
  (s_cons (s_set 6 sc_l_bag_of.nd rfl (by first | exact Or.inl rfl | exact Or.inr rfl) (c_if (t_ge (c_abs rfl T.b_abs (c_v 4)) (c_pow c_i c_i)) (c_sub (c_abs rfl T.b_abs (c_v 4)) (c_pow c_i c_i)) c_i))
  (s_one (s_ret (c_lst (a_cons (c_v 6) (a_cons (c_v 5) (a_cons c_i a_nil))))))))))))
  exact ⟨_, C.p, C.v⟩
/-! ### _law_pick -/
theorem ok_l_pick (T : Tx K mg A fa fd) : FnOk P w K mg base CX0 1 fa.l_pick fd.l_pick ["_law_bag", "_law_many"] (spM K (f_l_pick A)) := by
  refine fn_okN2 rfl rfl T.F_l_pick sc_l_pick (fun cdv B outer s H E hr => ?_)
  have C : CSs (cxOf CX0 P w K mg base ["_law_bag", "_law_many", "_law_drawn", "_law_mixed"] "_law_pick" (defScope s_l_pick) fa.l_pick cdv B outer s H E).nox K W0 (defBody s_l_pick) _ (m_l_pick A) := (s_cons (s_if (t_lt (c_v 1) c_i) (s_one (s_ret c_i)) s_nil)
  (s_cons (s_if (t_gt (c_ix (fun _ _ => rfl) rfl (c_v 0) c_i) c_i) (s_cons (s_set 2 sc_l_pick.nd rfl (by first | exact Or.inl rfl | exact Or.inr rfl) (c_mod (c_int rfl T.b_int (c_ix (fun _ _ => rfl) rfl (c_v 0) c_i)) (c_v 1)))
  (s_cons (s_setL 0 rfl (by first | exact Or.inl rfl | exact Or.inr (Or.inl rfl) | exact Or.inr (Or.inr rfl)) (c_fdiv (c_ix (fun _ _ => rfl) rfl (c_v 0) c_i) (c_v 1)) c_i)
  (s_one (s_ret (c_v 2))))) s_nil)
  (s_cons (s_setL 0 rfl (by first | exact Or.inl rfl | exact Or.inr (Or.inl rfl) | exact Or.inr (Or.inr rfl)) (c_add rfl (c_ix (fun _ _ => rfl) rfl (c_v 0) c_i) c_i) c_i)
  (s_cons (s_setL 0 rfl (by first | exact Or.inl rfl | exact Or.inr (Or.inl rfl) | exact Or.inr (Or.inr rfl)) (c_mod (c_int rfl T.b_int (c_add rfl (c_add rfl (c_mul (c_ix (fun _ _ => rfl) rfl (c_v 0) c_i) c_i) (c_mul (c_ix (fun _ _ => rfl) rfl (c_v 0) c_i) c_i)) c_i)) c_i) c_i)
  (s_cons (s_set 3 sc_l_pick.nd rfl (by first | exact Or.inl rfl | exact Or.inr rfl) (c_mod (c_int rfl T.b_int (c_add rfl (c_mul (c_ix (fun _ _ => rfl) rfl (c_v 0) c_i) c_i) (c_fdiv (c_ix (fun _ _ => rfl) rfl (c_v 0) c_i) c_i))) c_i))
  (s_one (s_ret (c_mod (c_int rfl T.b_int (c_fdiv (c_v 3) c_i)) (c_v 1)))))))))
  exact ⟨_, C.p, C.v⟩
/-! ### _law_wheel -/
theorem ok_l_wheel (T : Tx K mg A fa fd) : FnOk P w K mg base CX0 2 fa.l_wheel fd.l_wheel ["_law_bag", "_law_size"] (spM K (f_l_wheel A)) := by
  refine fn_okN2 rfl rfl T.F_l_wheel sc_l_wheel (fun cdv B outer s H E hr => ?_)
  have C : CSs (cxOf CX0 P w K mg base ["_law_bag", "_law_size", "_law_high", "_law_wide", "_law_places", "_law_down", "_law_side", "_law_place"] "_law_wheel" (defScope s_l_wheel) fa.l_wheel cdv B outer s H E).nox K W0 (defBody s_l_wheel) _ (m_l_wheel A) := (s_cons (s_setG (c_v 1) (g_tup rfl rfl (g_cons (g_n 2 sc_l_wheel.nd rfl (by first | exact Or.inl rfl | exact Or.inr rfl)) (g_cons (g_n 3 sc_l_wheel.nd rfl (by first | exact Or.inl rfl | exact Or.inr rfl)) g_nil))))
  (s_cons (s_set 4 sc_l_wheel.nd rfl (by first | exact Or.inl rfl | exact Or.inr rfl) (c_lst (a_cons (c_tup (a_cons c_i (a_cons c_i a_nil))) (a_cons (c_tup (a_cons c_i (a_cons (c_add rfl (c_v 3) c_i) a_nil))) (a_cons (c_tup (a_cons (c_add rfl (c_v 2) c_i) (a_cons (c_v 3) a_nil))) (a_cons (c_tup (a_cons (c_v 2) (a_cons c_i a_nil))) a_nil))))))
  (s_cons (s_if (t_eq hr rfl (c_call (ok_l_pick T) (hr.mono (by first | decide | omega)) rfl T.g_l_pick T.F_l_pick.kp T.B_l_pick .nil (fun _ => .nil) (a_ref 0 (a_cons c_i a_nil))) c_i) (s_one (s_set 4 sc_l_wheel.nd rfl (by first | exact Or.inl rfl | exact Or.inr rfl) (c_lst (a_cons (c_tup (a_cons c_i (a_cons (c_v 3) a_nil))) (a_cons (c_tup (a_cons c_i (a_cons c_i a_nil))) (a_cons (c_tup (a_cons (c_add rfl (c_v 2) c_i) (a_cons c_i a_nil))) (a_cons (c_tup (a_cons (c_v 2) (a_cons (c_add rfl (c_v 3) c_i) a_nil))) a_nil))))))) s_nil)
  (s_cons (s_setG (c_tup (a_cons (c_call (ok_l_pick T) (hr.mono (by first | decide | omega)) rfl T.g_l_pick T.F_l_pick.kp T.B_l_pick .nil (fun _ => .nil) (a_ref 0 (a_cons c_i a_nil))) (a_cons (c_call (ok_l_pick T) (hr.mono (by first | decide | omega)) rfl T.g_l_pick T.F_l_pick.kp T.B_l_pick .nil (fun _ => .nil) (a_ref 0 (a_cons c_i a_nil))) a_nil))) (g_tup rfl rfl (g_cons (g_n 5 sc_l_wheel.nd rfl (by first | exact Or.inl rfl | exact Or.inr rfl)) (g_cons (g_n 6 sc_l_wheel.nd rfl (by first | exact Or.inl rfl | exact Or.inr rfl)) g_nil))))
  (s_one (s_ret (c_lc (own := [("_law_place", 7)]) rfl sc_l_wheel.nd (blkOk_by (N := ["_law_bag", "_law_size", "_law_high", "_law_wide", "_law_places", "_law_down", "_law_side", "_law_place"]) (sc := defScope s_l_wheel) (by decide +kernel)) (by decide) (i_seq rfl (c_v 4)) (fun _ _ _ _ _ => (g_n 7 sc_l_wheel.nd rfl (by first | exact Or.inl rfl | exact Or.inr rfl))) (fun _ _ _ _ _ => ts_nil) (fun _ _ _ _ _ => (c_tup (a_cons (c_add rfl (c_ix (fun _ _ => rfl) rfl (c_v 7) c_i) (c_v 5)) (a_cons (c_add rfl (c_ix (fun _ _ => rfl) rfl (c_v 7) c_i) (c_v 6)) (a_cons (c_eq hr rfl (c_call (ok_l_pick T) (hr.mono (by first | decide | omega)) rfl T.g_l_pick T.F_l_pick.kp T.B_l_pick .nil (fun _ => .nil) (a_ref 0 (a_cons c_i a_nil))) c_i) a_nil))))) (fun _ => rfl) s H)))))))
  exact ⟨_, C.p, C.v⟩
/-! ### _law_one_of -/
theorem ok_l_one_of (T : Tx K mg A fa fd) : FnOk P w K mg base CX0 2 fa.l_one_of fd.l_one_of ["_law_bag", "_law_row"] (spM K (f_l_one_of A)) := by
  refine fn_okN2 rfl rfl T.F_l_one_of sc_l_one_of (fun cdv B outer s H E hr => ?_)
  have C : CSs (cxOf CX0 P w K mg base ["_law_bag", "_law_row"] "_law_one_of" (defScope s_l_one_of) fa.l_one_of cdv B outer s H E).nox K W0 (defBody s_l_one_of) _ (m_l_one_of A) := (s_one (s_ret (c_ix (fun _ _ => rfl) rfl (c_v 1) (c_call (ok_l_pick T) (hr.mono (by first | decide | omega)) rfl T.g_l_pick T.F_l_pick.kp T.B_l_pick .nil (fun _ => .nil) (a_ref 0 (a_cons (c_len rfl T.b_len rfl (c_v 1)) a_nil))))))
  exact ⟨_, C.p, C.v⟩
/-! ### _law_meet -/
theorem ok_l_meet (T : Tx K mg A fa fd) : FnOk P w K mg base CX0 1 fa.l_meet fd.l_meet ["_law_one", "_law_other", "_law_size"] (spM K (f_l_meet A)) := by
  refine fn_okN2 rfl rfl T.F_l_meet sc_l_meet (fun cdv B outer s H E hr => ?_)
  have C : CSs (cxOf CX0 P w K mg base ["_law_one", "_law_other", "_law_size"] "_law_meet" (defScope s_l_meet) fa.l_meet cdv B outer s H E).nox K W0 (defBody s_l_meet) _ (m_l_meet A) := (s_one (s_ret (c_and (c_lt (c_abs rfl T.b_abs (c_sub (c_ix (fun _ _ => rfl) rfl (c_v 0) c_i) (c_ix (fun _ _ => rfl) rfl (c_v 1) c_i))) (c_ix (fun _ _ => rfl) rfl (c_v 2) c_i)) (c_one (c_lt (c_abs rfl T.b_abs (c_sub (c_ix (fun _ _ => rfl) rfl (c_v 0) c_i) (c_ix (fun _ _ => rfl) rfl (c_v 1) c_i))) (c_ix (fun _ _ => rfl) rfl (c_v 2) c_i))))))
  exact ⟨_, C.p, C.v⟩
/-! ### _law_copies_of -/
theorem ok_l_copies_of (T : Tx K mg A fa fd) : FnOk P w K mg base CX0 3 fa.l_copies_of fd.l_copies_of ["_law_bag", "_law_size", "_law_most"] (spM K (f_l_copies_of A)) := by
  refine fn_okN2 rfl rfl T.F_l_copies_of sc_l_copies_of (fun cdv B outer s H E hr => ?_)
  have C : CSs (cxOf CX0 P w K mg base ["_law_bag", "_law_size", "_law_most", "_law_found", "_law_k", "_law_base", "_law_gap", "_law_slip", "_law_way", "_law_place", "_law_half", "_law_near", "_law_one"] "_law_copies_of" (defScope s_l_copies_of) fa.l_copies_of cdv B outer s H E).nox K W0 (defBody s_l_copies_of) _ (m_l_copies_of A) := (s_cons (s_set 3 sc_l_copies_of.nd rfl (by first | exact Or.inl rfl | exact Or.inr rfl) (c_lst (a_cons (c_tup (a_cons (c_call (ok_l_pick T) (hr.mono (by first | decide | omega)) rfl T.g_l_pick T.F_l_pick.kp T.B_l_pick .nil (fun _ => .nil) (a_ref 0 (a_cons c_i a_nil))) (a_cons (c_call (ok_l_pick T) (hr.mono (by first | decide | omega)) rfl T.g_l_pick T.F_l_pick.kp T.B_l_pick .nil (fun _ => .nil) (a_ref 0 (a_cons c_i a_nil))) (a_cons (c_eq hr rfl (c_call (ok_l_pick T) (hr.mono (by first | decide | omega)) rfl T.g_l_pick T.F_l_pick.kp T.B_l_pick .nil (fun _ => .nil) (a_ref 0 (a_cons c_i a_nil))) c_i) a_nil)))) a_nil)))
  (s_cons (s_if (t_eq hr rfl (c_call (ok_l_pick T) (hr.mono (by first | decide | omega)) rfl T.g_l_pick T.F_l_pick.kp T.B_l_pick .nil (fun _ => .nil) (a_ref 0 (a_cons c_i a_nil))) c_i) (s_one (s_set 3 sc_l_copies_of.nd rfl (by first | exact Or.inl rfl | exact Or.inr rfl) (c_call (ok_l_wheel T) (hr.mono (by first | decide | omega)) rfl T.g_l_wheel T.F_l_wheel.kp T.B_l_wheel .nil (fun _ => .nil) (a_ref 0 (a_ref 1 a_nil))))) s_nil)
  (s_cons (s_for PassesOwn.never rfl (i_r1 rfl T.b_range (a_cons (c_call (ok_l_one_of T) (hr.mono (by first | decide | omega)) rfl T.g_l_one_of T.F_l_one_of.kp T.B_l_one_of .nil (fun _ => .nil) (a_ref 0 (a_cons (c_lst (a_cons c_i (a_cons c_i (a_cons c_i (a_cons c_i (a_cons c_i (a_cons c_i a_nil))))))) a_nil))) a_nil)) (g_n 4 sc_l_copies_of.nd rfl (by first | exact Or.inl rfl | exact Or.inr rfl)) (s_cons (s_set 5 sc_l_copies_of.nd rfl (by first | exact Or.inl rfl | exact Or.inr rfl) (c_call (ok_l_one_of T) (hr.mono (by first | decide | omega)) rfl T.g_l_one_of T.F_l_one_of.kp T.B_l_one_of .nil (fun _ => .nil) (a_ref 0 (a_ref 3 a_nil))))
  (s_cons (s_set 6 sc_l_copies_of.nd rfl (by first | exact Or.inl rfl | exact Or.inr rfl) (c_call (ok_l_one_of T) (hr.mono (by first | decide | omega)) rfl T.g_l_one_of T.F_l_one_of.kp T.B_l_one_of .nil (fun _ => .nil) (a_ref 0 (a_cons (c_lst (a_cons c_i (a_cons c_i (a_cons c_i (a_cons c_i (a_cons c_i (a_cons c_i a_nil))))))) a_nil))))
  (s_cons (s_set 7 sc_l_copies_of.nd rfl (by first | exact Or.inl rfl | exact Or.inr rfl) (c_sub (c_call (ok_l_pick T) (hr.mono (by first | decide | omega)) rfl T.g_l_pick T.F_l_pick.kp T.B_l_pick .nil (fun _ => .nil) (a_ref 0 (a_cons c_i a_nil))) c_i))
  (s_cons (s_set 8 sc_l_copies_of.nd rfl (by first | exact Or.inl rfl | exact Or.inr rfl) (c_call (ok_l_pick T) (hr.mono (by first | decide | omega)) rfl T.g_l_pick T.F_l_pick.kp T.B_l_pick .nil (fun _ => .nil) (a_ref 0 (a_cons c_i a_nil))))
  (s_cons (s_set 9 sc_l_copies_of.nd rfl (by first | exact Or.inl rfl | exact Or.inr rfl) (c_tup (a_cons (c_add rfl (c_ix (fun _ _ => rfl) rfl (c_v 5) c_i) (c_v 7)) (a_cons (c_add rfl (c_add rfl (c_ix (fun _ _ => rfl) rfl (c_v 5) c_i) (c_ix (fun _ _ => rfl) rfl (c_v 1) c_i)) (c_v 6)) a_nil))))
  (s_cons (s_if (t_eq hr rfl (c_v 8) c_i) (s_one (s_set 9 sc_l_copies_of.nd rfl (by first | exact Or.inl rfl | exact Or.inr rfl) (c_tup (a_cons (c_add rfl (c_add rfl (c_ix (fun _ _ => rfl) rfl (c_v 5) c_i) (c_ix (fun _ _ => rfl) rfl (c_v 1) c_i)) (c_v 6)) (a_cons (c_add rfl (c_ix (fun _ _ => rfl) rfl (c_v 5) c_i) (c_v 7)) a_nil))))) s_nil)
  (s_cons (s_if (t_eq hr rfl (c_v 8) c_i) (s_one (s_set 9 sc_l_copies_of.nd rfl (by first | exact Or.inl rfl | exact Or.inr rfl) (c_tup (a_cons (c_add rfl (c_ix (fun _ _ => rfl) rfl (c_v 5) c_i) (c_v 7)) (a_cons (c_sub (c_sub (c_ix (fun _ _ => rfl) rfl (c_v 5) c_i) (c_ix (fun _ _ => rfl) rfl (c_v 1) c_i)) (c_v 6)) a_nil))))) s_nil)
  (s_cons (s_if (t_eq hr rfl (c_v 8) c_i) (s_one (s_set 9 sc_l_copies_of.nd rfl (by first | exact Or.inl rfl | exact Or.inr rfl) (c_tup (a_cons (c_sub (c_sub (c_ix (fun _ _ => rfl) rfl (c_v 5) c_i) (c_ix (fun _ _ => rfl) rfl (c_v 1) c_i)) (c_v 6)) (a_cons (c_add rfl (c_ix (fun _ _ => rfl) rfl (c_v 5) c_i) (c_v 7)) a_nil))))) s_nil)
  (s_cons (s_if (t_eq hr rfl (c_call (ok_l_pick T) (hr.mono (by first | decide | omega)) rfl T.g_l_pick T.F_l_pick.kp T.B_l_pick .nil (fun _ => .nil) (a_ref 0 (a_cons c_i a_nil))) c_i) (s_one (s_set 9 sc_l_copies_of.nd rfl (by first | exact Or.inl rfl | exact Or.inr rfl) (c_tup (a_cons (c_call (ok_l_pick T) (hr.mono (by first | decide | omega)) rfl T.g_l_pick T.F_l_pick.kp T.B_l_pick .nil (fun _ => .nil) (a_ref 0 (a_cons c_i a_nil))) (a_cons (c_call (ok_l_pick T) (hr.mono (by first | decide | omega)) rfl T.g_l_pick T.F_l_pick.kp T.B_l_pick .nil (fun _ => .nil) (a_ref 0 (a_cons c_i a_nil))) a_nil))))) s_nil)
  (s_cons (s_set 10 sc_l_copies_of.nd rfl (by first | exact Or.inl rfl | exact Or.inr rfl) (c_eq hr rfl (c_call (ok_l_pick T) (hr.mono (by first | decide | omega)) rfl T.g_l_pick T.F_l_pick.kp T.B_l_pick .nil (fun _ => .nil) (a_ref 0 (a_cons c_i a_nil))) c_i))
  (s_cons (s_setLcS 11 3 (own := [("_law_one", 12)]) rfl sc_l_copies_of.nd rfl rfl (by with_unfolding_all rfl) (blkOk_by (N := ["_law_bag", "_law_size", "_law_most", "_law_found", "_law_k", "_law_base", "_law_gap", "_law_slip", "_law_way", "_law_place", "_law_half", "_law_near", "_law_one"]) (sc := defScope s_l_copies_of) (by decide +kernel)) (by decide) (i_seq rfl (c_v 3)) (fun _ _ _ _ _ => (g_n 12 sc_l_copies_of.nd rfl (by first | exact Or.inl rfl | exact Or.inr rfl))) (fun _ _ _ _ _ => (ts_one (t_val (c_call (ok_l_meet T) (hr.mono (by first | decide | omega)) rfl T.g_l_meet T.F_l_meet.kp T.B_l_meet .nil (fun _ => .nil) (a_cons (c_v 12) (a_cons (c_v 9) (a_ref 1 a_nil))))))) (fun _ _ _ _ _ => (c_v 12)) (fun _ => rfl) s H)
  (s_one (s_if (t_w (w_and (t_le c_i (c_minT rfl hr rfl T.b_min rfl (c_v 9))) (w_and (t_le (c_maxT rfl hr rfl T.b_max rfl (c_v 9)) c_i) (w_and (t_eq hr rfl (c_len rfl T.b_len rfl (c_v 11)) c_i) (w_and1 (t_lt (c_len rfl T.b_len rfl (c_v 3)) (c_v 2))))))) (s_one (s_expr (c_lm 3 PySem.F.slot_list_append PySem.F.type_list_append mt_appendA lm_append rfl (by first | exact Or.inl rfl | exact Or.inr (Or.inl rfl) | exact Or.inr (Or.inr rfl)) rfl (a_cons (c_tup (a_cons (c_ix (fun _ _ => rfl) rfl (c_v 9) c_i) (a_cons (c_ix (fun _ _ => rfl) rfl (c_v 9) c_i) (a_cons (c_v 10) a_nil)))) a_nil)))) s_nil))))))))))))))
  (s_one (s_ret (c_v 3))))))
  exact ⟨_, C.p, C.v⟩
/-! ### _law_mixed_of -/
theorem ok_l_mixed_of (T : Tx K mg A fa fd) : FnOk P w K mg base CX0 2 fa.l_mixed_of fd.l_mixed_of ["_law_bag", "_law_row"] (spM K (f_l_mixed_of A)) := by
  refine fn_okN2 rfl rfl T.F_l_mixed_of sc_l_mixed_of (fun cdv B outer s H E hr => ?_)
  have C : CSs (cxOf CX0 P w K mg base ["_law_bag", "_law_row", "_law_rest", "_law_found", "_law_k"] "_law_mixed_of" (defScope s_l_mixed_of) fa.l_mixed_of cdv B outer s H E).nox K W0 (defBody s_l_mixed_of) _ (m_l_mixed_of A) := (s_cons (s_set 2 sc_l_mixed_of.nd rfl (by first | exact Or.inl rfl | exact Or.inr rfl) (c_lstOf rfl T.b_list rfl (c_v 1)))
  (s_cons (s_set 3 sc_l_mixed_of.nd rfl (by first | exact Or.inl rfl | exact Or.inr rfl) (c_lst a_nil))
  (s_cons (s_for PassesOwn.never rfl (i_r1 rfl T.b_range (a_cons (c_len rfl T.b_len rfl (c_v 1)) a_nil)) (g_n 4 sc_l_mixed_of.nd rfl (by first | exact Or.inl rfl | exact Or.inr rfl)) (s_one (s_expr (c_lm 3 PySem.F.slot_list_append PySem.F.type_list_append mt_appendA lm_append rfl (by first | exact Or.inl rfl | exact Or.inr (Or.inl rfl) | exact Or.inr (Or.inr rfl)) rfl (a_cons (c_lm 2 PySem.F.slot_list_pop PySem.F.type_list_pop mt_popA lm_pop rfl (by first | exact Or.inl rfl | exact Or.inr (Or.inl rfl) | exact Or.inr (Or.inr rfl)) rfl (a_cons (c_call (ok_l_pick T) (hr.mono (by first | decide | omega)) rfl T.g_l_pick T.F_l_pick.kp T.B_l_pick .nil (fun _ => .nil) (a_ref 0 (a_cons (c_len rfl T.b_len rfl (c_v 2)) a_nil))) a_nil)) a_nil)))))
  (s_one (s_ret (c_v 3))))))
  exact ⟨_, C.p, C.v⟩
/-! ### plain -/
theorem okr_plain_g (T : Tx K mg A fa fd) : ∀ n, FnOk P w K mg base CX0 (n + 1) fa.plain_g fd.plain_g ["thing"] (spM K (fr_plain_g A n))
  | 0 => fn_okN2 rfl rfl T.F_plain_g sc_plain_g (fun cdv B outer s H E hr => ⟨_, pss_never, es_never⟩)
  | n + 1 => by
    have G : FnOk P w K mg base CX0 (n + 1) fa.plain_g fd.plain_g ["thing"] (spM K (fr_plain_g A n)) := okr_plain_g T n
    refine fn_okN2 (k := n + 1) rfl rfl T.F_plain_g sc_plain_g (fun cdv B outer s H E hr => ?_)
    have C : CSs (cxOf CX0 P w K mg base ["thing", "part"] "plain" (defScope s_plain_g) fa.plain_g cdv B outer s H E).nox K W0 (defBody s_plain_g) _ (m_plain_g A (fr_plain_g A n)) := (s_cons (s_if (t_val (c_isiT cls_lt (by decide) tab_lt_ok rfl T.b_isinstance (pa_cons (p_list rfl T.b_list) (pa_cons (p_tuple rfl T.b_tuple) pa_nil)) rfl (c_v 0))) (s_one (s_ret (c_tupOf rfl T.b_tuple rfl (c_lc (own := [("part", 1)]) rfl sc_plain_g.nd (blkOk_by (N := ["thing", "part"]) (sc := defScope s_plain_g) (by decide +kernel)) (by decide) (i_seq rfl (c_v 0)) (fun _ _ _ _ _ => (g_n 1 sc_plain_g.nd rfl (by first | exact Or.inl rfl | exact Or.inr rfl))) (fun _ _ _ _ _ => ts_nil) (fun _ _ _ _ _ => (c_call G hr rfl T.g_plain_g T.F_plain_g.kp T.B_plain_g .nil (fun _ => .nil) (a_cons (c_v 1) a_nil))) (fun _ => rfl) s H)))) s_nil)
  (s_one (s_ret (c_v 0))))
    exact ⟨_, C.p, C.v⟩
theorem ok_plain_g (T : Tx K mg A fa fd) : FnOk P w K mg base CX0 7 fa.plain_g fd.plain_g ["thing"] (spM K (f_plain_g A)) := okr_plain_g T 6
/-! ### is_integer -/
theorem ok_is_integer_g (T : Tx K mg A fa fd) : FnOk P w K mg base CX0 1 fa.is_integer_g fd.is_integer_g ["thing"] (spM K (f_is_integer_g A)) := by
  refine fn_okN2 rfl rfl T.F_is_integer_g sc_is_integer_g (fun cdv B outer s H E hr => ?_)
  have C : CSs (cxOf CX0 P w K mg base ["thing"] "is_integer" (defScope s_is_integer_g) fa.is_integer_g cdv B outer s H E).nox K W0 (defBody s_is_integer_g) _ (m_is_integer_g A) := (s_one (s_ret (c_and (c_isi1 (.ty "int") tab_int_ok rfl T.b_isinstance (p_int rfl T.b_int) rfl (c_v 0)) (c_one (c_not (c_isi1 (.ty "bool") tab_bool_ok rfl T.b_isinstance (p_bool rfl T.b_bool) rfl (c_v 0)))))))
  exact ⟨_, C.p, C.v⟩
/-! ### is_within -/
theorem ok_is_within_g (T : Tx K mg A fa fd) : FnOk P w K mg base CX0 2 fa.is_within_g fd.is_within_g ["thing", "low", "high"] (spM K (f_is_within_g A)) := by
  refine fn_okN2 rfl rfl T.F_is_within_g sc_is_within_g (fun cdv B outer s H E hr => ?_)
  have C : CSs (cxOf CX0 P w K mg base ["thing", "low", "high"] "is_within" (defScope s_is_within_g) fa.is_within_g cdv B outer s H E).nox K W0 (defBody s_is_within_g) _ (m_is_within_g A) := (s_one (s_ret (c_and (c_call (ok_is_integer_g T) (hr.mono (by first | decide | omega)) rfl T.g_is_integer_g T.F_is_integer_g.kp T.B_is_integer_g .nil (fun _ => .nil) (a_ref 0 a_nil)) (c_one (c_lele (c_v 1) (c_v 0) (c_v 2))))))
  exact ⟨_, C.p, C.v⟩
/-! ### is_tuple -/
theorem ok_is_tuple_g (T : Tx K mg A fa fd) : FnOk P w K mg base CX0 1 fa.is_tuple_g fd.is_tuple_g ["thing", "least", "most"] (spM K (f_is_tuple_g A)) := by
  refine fn_okN2 rfl rfl T.F_is_tuple_g sc_is_tuple_g (fun cdv B outer s H E hr => ?_)
  have C : CSs (cxOf CX0 P w K mg base ["thing", "least", "most"] "is_tuple" (defScope s_is_tuple_g) fa.is_tuple_g cdv B outer s H E).nox K W0 (defBody s_is_tuple_g) _ (m_is_tuple_g A) := (s_one (s_ret (c_and (c_isi1 (.ty "tuple") tab_tuple_ok rfl T.b_isinstance (p_tuple rfl T.b_tuple) rfl (c_v 0)) (c_one (c_lele (c_v 1) (c_len rfl T.b_len rfl (c_v 0)) (c_v 2))))))
  exact ⟨_, C.p, C.v⟩
/-! ### _is_copy -/
theorem ok_is_copy_f (T : Tx K mg A fa fd) : FnOk P w K mg base CX0 3 fa.is_copy_f fd.is_copy_f ["thing"] (spM K (f_is_copy_f A)) := by
  refine fn_okN2 rfl rfl T.F_is_copy_f sc_is_copy_f (fun cdv B outer s H E hr => ?_)
  have C : CSs (cxOf CX0 P w K mg base ["thing"] "_is_copy" (defScope s_is_copy_f) fa.is_copy_f cdv B outer s H E).nox K W0 (defBody s_is_copy_f) _ (m_is_copy_f A) := (s_cons (s_if (t_w (w_or (t_not (t_val (c_call (ok_is_tuple_g T) (hr.mono (by first | decide | omega)) rfl T.g_is_tuple_g T.F_is_tuple_g.kp T.B_is_tuple_g .nil (fun _ => .nil) (a_ref 0 (a_cons c_i (a_cons c_i a_nil)))))) (w_or1 (t_not (t_val (c_isi1 (.ty "bool") tab_bool_ok rfl T.b_isinstance (p_bool rfl T.b_bool) rfl (c_ix (fun _ _ => rfl) rfl (c_v 0) c_i))))))) (s_one (s_ret c_b)) s_nil)
  (s_one (s_ret (c_and (c_call (ok_is_within_g T) (hr.mono (by first | decide | omega)) rfl T.g_is_within_g T.F_is_within_g.kp T.B_is_within_g .nil (fun _ => .nil) (a_cons (c_ix (fun _ _ => rfl) rfl (c_v 0) c_i) (a_cons c_i (a_cons c_i a_nil)))) (c_one (c_call (ok_is_within_g T) (hr.mono (by first | decide | omega)) rfl T.g_is_within_g T.F_is_within_g.kp T.B_is_within_g .nil (fun _ => .nil) (a_cons (c_ix (fun _ _ => rfl) rfl (c_v 0) c_i) (a_cons c_i (a_cons c_i a_nil)))))))))
  exact ⟨_, C.p, C.v⟩
/-! ### _meet -/
theorem ok_meet_f (T : Tx K mg A fa fd) : FnOk P w K mg base CX0 1 fa.meet_f fd.meet_f ["one", "other", "height", "width"] (spM K (f_meet_f A)) := by
  refine fn_okN2 rfl rfl T.F_meet_f sc_meet_f (fun cdv B outer s H E hr => ?_)
  have C : CSs (cxOf CX0 P w K mg base ["one", "other", "height", "width"] "_meet" (defScope s_meet_f) fa.meet_f cdv B outer s H E).nox K W0 (defBody s_meet_f) _ (m_meet_f A) := (s_one (s_ret (c_and (c_lt (c_abs rfl T.b_abs (c_sub (c_ix (fun _ _ => rfl) rfl (c_v 0) c_i) (c_ix (fun _ _ => rfl) rfl (c_v 1) c_i))) (c_v 2)) (c_one (c_lt (c_abs rfl T.b_abs (c_sub (c_ix (fun _ _ => rfl) rfl (c_v 0) c_i) (c_ix (fun _ _ => rfl) rfl (c_v 1) c_i))) (c_v 3))))))
  exact ⟨_, C.p, C.v⟩
/-! ### Layout.__init__ -/
theorem ok_Layout_init (T : Tx K mg A fa fd) : FnOk P w K mg base CX0 8 fa.Layout_init fd.Layout_init ["self", "height", "width", "copies"] (spM K (f_Layout_init A)) := by
  refine fn_okN2 rfl rfl T.F_Layout_init sc_Layout_init (fun cdv B outer s H E hr => ?_)
  have C : CSs (cxOf CX0 P w K mg base ["self", "height", "width", "copies", "told", "number", "copy", "earlier"] "Layout.__init__" (defScope s_Layout_init) fa.Layout_init cdv B outer s H E).nox K W0 (defBody s_Layout_init) _ (m_Layout_init A) := (s_cons (s_set 4 sc_Layout_init.nd rfl (by first | exact Or.inl rfl | exact Or.inr rfl) (c_call (ok_plain_g T) (hr.mono (by first | decide | omega)) rfl T.g_plain_g T.F_plain_g.kp T.B_plain_g .nil (fun _ => .nil) (a_ref 3 a_nil)))
  (s_cons (s_if (t_w (w_or (t_not (t_val (c_call (ok_is_within_g T) (hr.mono (by first | decide | omega)) rfl T.g_is_within_g T.F_is_within_g.kp T.B_is_within_g .nil (fun _ => .nil) (a_ref 1 (a_cons c_i (a_cons c_i a_nil)))))) (w_or (t_not (t_val (c_call (ok_is_within_g T) (hr.mono (by first | decide | omega)) rfl T.g_is_within_g T.F_is_within_g.kp T.B_is_within_g .nil (fun _ => .nil) (a_ref 2 (a_cons c_i (a_cons c_i a_nil)))))) (w_or1 (t_not (t_val (c_call (ok_is_tuple_g T) (hr.mono (by first | decide | omega)) rfl T.g_is_tuple_g T.F_is_tuple_g.kp T.B_is_tuple_g .nil (fun _ => .nil) (a_cons (c_v 4) (a_cons c_i (a_cons c_i a_nil)))))))))) (s_one s_never) s_nil)
  (s_cons (s_for PassesOwn.never rfl (i_enumA rfl T.b_enumerate rfl (a_cons (c_v 4) a_nil)) (g_tup rfl rfl (g_cons (g_n 5 sc_Layout_init.nd rfl (by first | exact Or.inl rfl | exact Or.inr rfl)) (g_cons (g_n 6 sc_Layout_init.nd rfl (by first | exact Or.inl rfl | exact Or.inr rfl)) g_nil))) (s_one (s_if (t_w (w_or (t_not (t_val (c_call (ok_is_copy_f T) (hr.mono (by first | decide | omega)) rfl T.g_is_copy_f T.F_is_copy_f.kp T.B_is_copy_f .nil (fun _ => .nil) (a_cons (c_v 6) a_nil)))) (w_or1 (t_val (c_any rfl rfl T.b_any rfl (c_lc (own := [("earlier", 7)]) rfl sc_Layout_init.nd (blkOk_by (N := ["self", "height", "width", "copies", "told", "number", "copy", "earlier"]) (sc := defScope s_Layout_init) (by decide +kernel)) (by decide) (i_seq rfl (c_sl rfl (c_v 4) c_o0 (c_o1 (c_v 5)))) (fun _ _ _ _ _ => (g_n 7 sc_Layout_init.nd rfl (by first | exact Or.inl rfl | exact Or.inr rfl))) (fun _ _ _ _ _ => ts_nil) (fun _ _ _ _ _ => (c_call (ok_meet_f T) (hr.mono (by first | decide | omega)) rfl T.g_meet_f T.F_meet_f.kp T.B_meet_f .nil (fun _ => .nil) (a_cons (c_v 6) (a_cons (c_v 7) (a_ref 1 (a_ref 2 a_nil)))))) (fun _ => rfl) s H)))))) (s_one s_never) s_nil)))
  (s_cons (s_setA 0 T.n_Layout_height rfl (by first | exact Or.inl rfl | exact Or.inr (Or.inl rfl) | exact Or.inr (Or.inr rfl)) rfl (c_v 1))
  (s_cons (s_setA 0 T.n_Layout_width rfl (by first | exact Or.inl rfl | exact Or.inr (Or.inl rfl) | exact Or.inr (Or.inr rfl)) rfl (c_v 2))
  (s_one (s_setA 0 T.n_Layout_copies rfl (by first | exact Or.inl rfl | exact Or.inr (Or.inl rfl) | exact Or.inr (Or.inr rfl)) rfl (c_v 4))))))))
  exact ⟨_, C.p, C.v⟩
/-! ### Layout.__len__ -/
theorem ok_Layout_len (T : Tx K mg A fa fd) : FnOk P w K mg base CX0 1 fa.Layout_len fd.Layout_len ["self"] (spM K (f_Layout_len A)) := by
  refine fn_okN2 rfl rfl T.F_Layout_len sc_Layout_len (fun cdv B outer s H E hr => ?_)
  have C : CSs (cxOf CX0 P w K mg base ["self"] "Layout.__len__" (defScope s_Layout_len) fa.Layout_len cdv B outer s H E).nox K W0 (defBody s_Layout_len) _ (m_Layout_len A) := (s_one (s_ret (c_len rfl T.b_len rfl (c_fld T.n_Layout_copies rfl (c_v 0)))))
  exact ⟨_, C.p, C.v⟩
/-! ### is_number_of -/
theorem ok_is_number_of_g (T : Tx K mg A fa fd) : FnOk P w K mg base CX0 3 fa.is_number_of_g fd.is_number_of_g ["thing", "row"] (spM K (f_is_number_of_g A)) := by
  refine fn_okN2 rfl rfl T.F_is_number_of_g sc_is_number_of_g (fun cdv B outer s H E hr => ?_)
  have C : CSs (cxOf CX0 P w K mg base ["thing", "row"] "is_number_of" (defScope s_is_number_of_g) fa.is_number_of_g cdv B outer s H E).nox K W0 (defBody s_is_number_of_g) _ (m_is_number_of_g A) := (s_one (s_ret (c_call (ok_is_within_g T) (hr.mono (by first | decide | omega)) rfl T.g_is_within_g T.F_is_within_g.kp T.B_is_within_g .nil (fun _ => .nil) (a_ref 0 (a_cons c_i (a_cons (c_sub (c_len rfl T.b_len rfl (c_v 1)) c_i) a_nil))))))
  exact ⟨_, C.p, C.v⟩
/-! ### Layout.__getitem__ -/
theorem ok_Layout_getitem (T : Tx K mg A fa fd) : FnOk P w K mg base CX0 4 fa.Layout_getitem fd.Layout_getitem ["self", "at"] (spM K (f_Layout_getitem A)) := by
  refine fn_okN2 rfl rfl T.F_Layout_getitem sc_Layout_getitem (fun cdv B outer s H E hr => ?_)
  have C : CSs (cxOf CX0 P w K mg base ["self", "at"] "Layout.__getitem__" (defScope s_Layout_getitem) fa.Layout_getitem cdv B outer s H E).nox K W0 (defBody s_Layout_getitem) _ (m_Layout_getitem A) := (s_cons (s_if (t_not (t_val (c_call (ok_is_number_of_g T) (hr.mono (by first | decide | omega)) rfl T.g_is_number_of_g T.F_is_number_of_g.kp T.B_is_number_of_g .nil (fun _ => .nil) (a_ref 1 (a_cons (c_fld T.n_Layout_copies rfl (c_v 0)) a_nil))))) (s_one s_never) s_nil)
  (s_one (s_ret (c_ix (fun _ _ => rfl) rfl (c_fld T.n_Layout_copies rfl (c_v 0)) (c_v 1)))))
  exact ⟨_, C.p, C.v⟩
/-! ### _parts -/
theorem ok_parts_f (T : Tx K mg A fa fd) : FnOk P w K mg base CX0 6 fa.parts_f fd.parts_f ["layout", "lot", "way", "number"] (spM K (f_parts_f A)) := by
  refine fn_okN2 rfl rfl T.F_parts_f sc_parts_f (fun cdv B outer s H E hr => ?_)
  have C : CSs (cxOf CX0 P w K mg base ["layout", "lot", "way", "number", "low", "high", "copy", "top", "left", "_", "first", "size"] "_parts" (defScope s_parts_f) fa.parts_f cdv B outer s H E).nox K W0 (defBody s_parts_f) _ (m_parts_f A) := (s_cons (s_par (i := 4) (j := 5) rfl sc_parts_f.nd rfl rfl (by decide) rfl rfl (c_lst a_nil) (c_lst a_nil))
  (s_cons (s_for PassesOwn.never rfl (i_seq rfl (c_v 1)) (g_n 6 sc_parts_f.nd rfl (by first | exact Or.inl rfl | exact Or.inr rfl)) (s_cons (s_setG (c_og T.M_Layout_getitem T.fn_Layout_getitem (ok_Layout_getitem T) (hr.mono (by first | decide | omega)) T.B_Layout_getitem (c_v 0) (c_v 6)) (g_tup rfl rfl (g_cons (g_n 7 sc_parts_f.nd rfl (by first | exact Or.inl rfl | exact Or.inr rfl)) (g_cons (g_n 8 sc_parts_f.nd rfl (by first | exact Or.inl rfl | exact Or.inr rfl)) (g_cons (g_n 9 sc_parts_f.nd rfl (by first | exact Or.inl rfl | exact Or.inr rfl)) g_nil)))))
  (s_cons (s_setG (c_if (t_eq hr rfl (c_v 2) c_s) (c_tup (a_cons (c_v 7) (a_cons (c_fld T.n_Layout_height rfl (c_v 0)) a_nil))) (c_tup (a_cons (c_v 8) (a_cons (c_fld T.n_Layout_width rfl (c_v 0)) a_nil)))) (g_tup rfl rfl (g_cons (g_n 10 sc_parts_f.nd rfl (by first | exact Or.inl rfl | exact Or.inr rfl)) (g_cons (g_n 11 sc_parts_f.nd rfl (by first | exact Or.inl rfl | exact Or.inr rfl)) g_nil))))
  (s_one (s_if (t_ge (c_v 10) (c_v 3)) (s_one (s_expr (c_lm 5 PySem.F.slot_list_append PySem.F.type_list_append mt_appendA lm_append rfl (by first | exact Or.inl rfl | exact Or.inr (Or.inl rfl) | exact Or.inr (Or.inr rfl)) rfl (a_cons (c_v 6) a_nil)))) (s_one (s_if (t_le (c_add rfl (c_v 10) (c_v 11)) (c_v 3)) (s_one (s_expr (c_lm 4 PySem.F.slot_list_append PySem.F.type_list_append mt_appendA lm_append rfl (by first | exact Or.inl rfl | exact Or.inr (Or.inl rfl) | exact Or.inr (Or.inr rfl)) rfl (a_cons (c_v 6) a_nil)))) (s_one (s_ret c_n)))))))))
  (s_one (s_ret (c_tup (a_cons (c_tupOf rfl T.b_tuple rfl (c_v 4)) (a_cons (c_tupOf rfl T.b_tuple rfl (c_v 5)) a_nil)))))))
  exact ⟨_, C.p, C.v⟩
/-! ### first_cut -/
theorem ok_first_cut_g (T : Tx K mg A fa fd) : FnOk P w K mg base CX0 7 fa.first_cut_g fd.first_cut_g ["layout", "lot"] (spM K (f_first_cut_g A)) := by
  refine fn_okN2 rfl rfl T.F_first_cut_g sc_first_cut_g (fun cdv B outer s H E hr => ?_)
  have C : CSs (cxOf CX0 P w K mg base ["layout", "lot", "way", "ends", "copy", "number", "parts"] "first_cut" (defScope s_first_cut_g) fa.first_cut_g cdv B outer s H E).nox K W0 (defBody s_first_cut_g) _ (m_first_cut_g A) := (s_cons (s_for PassesOwn.never rfl (i_seq rfl (c_tup (a_cons c_s (a_cons c_s a_nil)))) (g_n 2 sc_first_cut_g.nd rfl (by first | exact Or.inl rfl | exact Or.inr rfl)) (s_cons (s_setLc 3 (own := [("copy", 4)]) rfl sc_first_cut_g.nd rfl rfl (by with_unfolding_all rfl) (blkOk_by (N := ["layout", "lot", "way", "ends", "copy", "number", "parts"]) (sc := defScope s_first_cut_g) (by decide +kernel)) (by decide) (i_seq rfl (c_v 1)) (fun _ _ _ _ _ => (g_n 4 sc_first_cut_g.nd rfl (by first | exact Or.inl rfl | exact Or.inr rfl))) (fun _ _ _ _ _ => ts_nil) (fun _ _ _ _ _ => (c_if (t_eq hr rfl (c_v 2) c_s) (c_add rfl (c_ix (fun _ _ => rfl) rfl (c_og T.M_Layout_getitem T.fn_Layout_getitem (ok_Layout_getitem T) (hr.mono (by first | decide | omega)) T.B_Layout_getitem (c_v 0) (c_v 4)) c_i) (c_fld T.n_Layout_height rfl (c_v 0))) (c_add rfl (c_ix (fun _ _ => rfl) rfl (c_og T.M_Layout_getitem T.fn_Layout_getitem (ok_Layout_getitem T) (hr.mono (by first | decide | omega)) T.B_Layout_getitem (c_v 0) (c_v 4)) c_i) (c_fld T.n_Layout_width rfl (c_v 0))))) (fun _ => rfl) s H)
  (s_one (s_for PassesOwn.never rfl (i_seq rfl (c_sortSet rfl rfl T.b_sorted rfl T.b_set rfl (c_v 3))) (g_n 5 sc_first_cut_g.nd rfl (by first | exact Or.inl rfl | exact Or.inr rfl)) (s_cons (s_set 6 sc_first_cut_g.nd rfl (by first | exact Or.inl rfl | exact Or.inr rfl) (c_call (ok_parts_f T) (hr.mono (by first | decide | omega)) rfl T.g_parts_f T.F_parts_f.kp T.B_parts_f .nil (fun _ => .nil) (a_ref 0 (a_ref 1 (a_cons (c_v 2) (a_cons (c_v 5) a_nil))))))
  (s_one (s_if (t_w (w_and (t_isNot (c_v 6) c_n) (w_and1 (t_notIn hr (by with_unfolding_all rfl) rfl (c_tup a_nil) (c_v 6))))) (s_one (s_ret (c_tup (a_cons (c_v 2) (a_cons (c_v 5) a_nil))))) s_nil)))))))
  (s_one (s_ret c_n)))
  exact ⟨_, C.p, C.v⟩
/-! ### _cut_through -/
theorem okr_cut_through_f (T : Tx K mg A fa fd) : ∀ n, FnOk P w K mg base CX0 (n + 8) fa.cut_through_f fd.cut_through_f ["layout", "lot"] (spM K (fr_cut_through_f A n))
  | 0 => fn_okN2 rfl rfl T.F_cut_through_f sc_cut_through_f (fun cdv B outer s H E hr => ⟨_, pss_never, es_never⟩)
  | n + 1 => by
    have G : FnOk P w K mg base CX0 (n + 8) fa.cut_through_f fd.cut_through_f ["layout", "lot"] (spM K (fr_cut_through_f A n)) := okr_cut_through_f T n
    refine fn_okN2 (k := n + 8) rfl rfl T.F_cut_through_f sc_cut_through_f (fun cdv B outer s H E hr => ?_)
    have C : CSs (cxOf CX0 P w K mg base ["layout", "lot", "cut", "blocks", "steps", "part", "further", "more"] "_cut_through" (defScope s_cut_through_f) fa.cut_through_f cdv B outer s H E).nox K W0 (defBody s_cut_through_f) _ (m_cut_through_f A (fr_cut_through_f A n)) := (s_cons (s_set 2 sc_cut_through_f.nd rfl (by first | exact Or.inl rfl | exact Or.inr rfl) (c_call (ok_first_cut_g T) (hr.mono (by first | decide | omega)) rfl T.g_first_cut_g T.F_first_cut_g.kp T.B_first_cut_g .nil (fun _ => .nil) (a_ref 0 (a_ref 1 a_nil))))
  (s_cons (s_if (t_is (c_v 2) c_n) (s_one (s_ret (c_tup (a_cons (c_lst (a_cons (c_v 1) a_nil)) (a_cons (c_lst a_nil) a_nil))))) s_nil)
  (s_cons (s_par (i := 3) (j := 4) rfl sc_cut_through_f.nd rfl rfl (by decide) rfl rfl (c_lst a_nil) (c_lst (a_cons (c_tup (a_cons (c_v 1) (a_cons (c_v 2) a_nil))) a_nil)))
  (s_cons (s_for PassesOwn.never rfl (i_seq rfl (c_callS (ok_parts_f T) (hr.mono (by first | decide | omega)) rfl T.g_parts_f T.F_parts_f.kp T.B_parts_f (a_ref 0 (a_ref 1 (a_star (c_v 2) rfl a_nil))))) (g_n 5 sc_cut_through_f.nd rfl (by first | exact Or.inl rfl | exact Or.inr rfl)) (s_cons (s_setG (c_call G hr rfl T.g_cut_through_f T.F_cut_through_f.kp T.B_cut_through_f .nil (fun _ => .nil) (a_ref 0 (a_cons (c_v 5) a_nil))) (g_tup rfl rfl (g_cons (g_n 6 sc_cut_through_f.nd rfl (by first | exact Or.inl rfl | exact Or.inr rfl)) (g_cons (g_n 7 sc_cut_through_f.nd rfl (by first | exact Or.inl rfl | exact Or.inr rfl)) g_nil))))
  (s_cons (s_set 3 sc_cut_through_f.nd rfl (by first | exact Or.inl rfl | exact Or.inr rfl) (c_add rfl (c_v 3) (c_v 6)))
  (s_one (s_set 4 sc_cut_through_f.nd rfl (by first | exact Or.inl rfl | exact Or.inr rfl) (c_add rfl (c_v 4) (c_v 7)))))))
  (s_one (s_ret (c_tup (a_cons (c_v 3) (a_cons (c_v 4) a_nil)))))))))
    exact ⟨_, C.p, C.v⟩
theorem ok_cut_through_f (T : Tx K mg A fa fd) : FnOk P w K mg base CX0 17 fa.cut_through_f fd.cut_through_f ["layout", "lot"] (spM K (f_cut_through_f A)) := okr_cut_through_f T 9
/-! ### Cuts.__init__ -/
theorem ok_Cuts_init (T : Tx K mg A fa fd) : FnOk P w K mg base CX0 18 fa.Cuts_init fd.Cuts_init ["self", "layout"] (spM K (f_Cuts_init A)) := by
  refine fn_okN2 rfl rfl T.F_Cuts_init sc_Cuts_init (fun cdv B outer s H E hr => ?_)
  have C : CSs (cxOf CX0 P w K mg base ["self", "layout", "blocks", "steps"] "Cuts.__init__" (defScope s_Cuts_init) fa.Cuts_init cdv B outer s H E).nox K W0 (defBody s_Cuts_init) _ (m_Cuts_init A) := (s_cons (s_setG (c_call (ok_cut_through_f T) (hr.mono (by first | decide | omega)) rfl T.g_cut_through_f T.F_cut_through_f.kp T.B_cut_through_f .nil (fun _ => .nil) (a_ref 1 (a_cons (c_tupRg rfl rfl T.b_tuple rfl T.b_range (c_ol T.M_Layout_len (ok_Layout_len T) (hr.mono (by first | decide | omega)) T.B_Layout_len rfl T.b_len (c_v 1))) a_nil))) (g_tup rfl rfl (g_cons (g_n 2 sc_Cuts_init.nd rfl (by first | exact Or.inl rfl | exact Or.inr rfl)) (g_cons (g_n 3 sc_Cuts_init.nd rfl (by first | exact Or.inl rfl | exact Or.inr rfl)) g_nil))))
  (s_cons (s_setA 0 T.n_Cuts_blocks rfl (by first | exact Or.inl rfl | exact Or.inr (Or.inl rfl) | exact Or.inr (Or.inr rfl)) rfl (c_tupOf rfl T.b_tuple rfl (c_sortG hr rfl T.b_sorted rfl (c_v 2))))
  (s_one (s_setA 0 T.n_Cuts_parting rfl (by first | exact Or.inl rfl | exact Or.inr (Or.inl rfl) | exact Or.inr (Or.inr rfl)) rfl (c_tupOf rfl T.b_tuple rfl (c_v 3))))))
  exact ⟨_, C.p, C.v⟩
/-! ### _law_all_cuts -/
theorem ok_l_all_cuts (T : Tx K mg A fa fd) : FnOk P w K mg base CX0 1 fa.l_all_cuts fd.l_all_cuts ["_law_size", "_law_copies", "_law_lot"] (spM K (f_l_all_cuts A)) := by
  refine fn_okN2 rfl rfl T.F_l_all_cuts sc_l_all_cuts (fun cdv B outer s H E hr => ?_)
  have C : CSs (cxOf CX0 P w K mg base ["_law_size", "_law_copies", "_law_lot", "_law_found", "_law_at", "_law_places", "_law_k", "_law_number", "_law_through", "_law_place"] "_law_all_cuts" (defScope s_l_all_cuts) fa.l_all_cuts cdv B outer s H E).nox K W0 (defBody s_l_all_cuts) _ (m_l_all_cuts A) := (s_cons (s_set 3 sc_l_all_cuts.nd rfl (by first | exact Or.inl rfl | exact Or.inr rfl) (c_lst a_nil))
  (s_cons (s_for PassesOwn.never rfl (i_r1 rfl T.b_range (a_cons c_i a_nil)) (g_n 4 sc_l_all_cuts.nd rfl (by first | exact Or.inl rfl | exact Or.inr rfl)) (s_cons (s_setLc 5 (own := [("_law_k", 6)]) rfl sc_l_all_cuts.nd rfl rfl (by with_unfolding_all rfl) (blkOk_by (N := ["_law_size", "_law_copies", "_law_lot", "_law_found", "_law_at", "_law_places", "_law_k", "_law_number", "_law_through", "_law_place"]) (sc := defScope s_l_all_cuts) (by decide +kernel)) (by decide) (i_seq rfl (c_v 2)) (fun _ _ _ _ _ => (g_n 6 sc_l_all_cuts.nd rfl (by first | exact Or.inl rfl | exact Or.inr rfl))) (fun _ _ _ _ _ => ts_nil) (fun _ _ _ _ _ => (c_ix (fun _ _ => rfl) rfl (c_ix (fun _ _ => rfl) rfl (c_v 1) (c_v 6)) (c_v 4))) (fun _ => rfl) s H)
  (s_one (s_for PassesOwn.never rfl (i_r2 rfl T.b_range (a_cons (c_add rfl (c_min rfl rfl T.b_min rfl (c_v 5)) c_i) (a_cons (c_add rfl (c_max rfl rfl T.b_max rfl (c_v 5)) c_i) a_nil))) (g_n 7 sc_l_all_cuts.nd rfl (by first | exact Or.inl rfl | exact Or.inr rfl)) (s_cons (s_setLc 8 (own := [("_law_place", 9)]) rfl sc_l_all_cuts.nd rfl rfl (by with_unfolding_all rfl) (blkOk_by (N := ["_law_size", "_law_copies", "_law_lot", "_law_found", "_law_at", "_law_places", "_law_k", "_law_number", "_law_through", "_law_place"]) (sc := defScope s_l_all_cuts) (by decide +kernel)) (by decide) (i_seq rfl (c_v 5)) (fun _ _ _ _ _ => (g_n 9 sc_l_all_cuts.nd rfl (by first | exact Or.inl rfl | exact Or.inr rfl))) (fun _ _ _ _ _ => (ts_one (t_ltlt (c_v 9) (c_v 7) (c_add rfl (c_v 9) (c_ix (fun _ _ => rfl) rfl (c_v 0) (c_v 4)))))) (fun _ _ _ _ _ => (c_v 9)) (fun _ => rfl) s H)
  (s_one (s_if (t_eq hr rfl (c_len rfl T.b_len rfl (c_v 8)) c_i) (s_one (s_expr (c_lm 3 PySem.F.slot_list_append PySem.F.type_list_append mt_appendA lm_append rfl (by first | exact Or.inl rfl | exact Or.inr (Or.inl rfl) | exact Or.inr (Or.inr rfl)) rfl (a_cons (c_tup (a_cons (c_ix (fun _ _ => rfl) rfl (c_lst (a_cons c_s (a_cons c_s a_nil))) (c_v 4)) (a_cons (c_v 7) a_nil))) a_nil)))) s_nil)))))))
  (s_one (s_ret (c_v 3)))))
  exact ⟨_, C.p, C.v⟩
/-! ### _law_is_int -/
theorem ok_l_is_int (T : Tx K mg A fa fd) : FnOk P w K mg base CX0 1 fa.l_is_int fd.l_is_int ["_law_thing"] (spM K (f_l_is_int A)) := by
  refine fn_okN2 rfl rfl T.F_l_is_int sc_l_is_int (fun cdv B outer s H E hr => ?_)
  have C : CSs (cxOf CX0 P w K mg base ["_law_thing"] "_law_is_int" (defScope s_l_is_int) fa.l_is_int cdv B outer s H E).nox K W0 (defBody s_l_is_int) _ (m_l_is_int A) := (s_one (s_ret (c_and (c_isi1 (.ty "int") tab_int_ok rfl T.b_isinstance (p_int rfl T.b_int) rfl (c_v 0)) (c_one (c_not (c_isi1 (.ty "bool") tab_bool_ok rfl T.b_isinstance (p_bool rfl T.b_bool) rfl (c_v 0)))))))
  exact ⟨_, C.p, C.v⟩
/-! ### _law_same -/
theorem okr_l_same (T : Tx K mg A fa fd) : ∀ n, FnOk P w K mg base CX0 (n + 2) fa.l_same fd.l_same ["_law_told", "_law_wanted"] (spM K (fr_l_same A n))
  | 0 => fn_okN2 rfl rfl T.F_l_same sc_l_same (fun cdv B outer s H E hr => ⟨_, pss_never, es_never⟩)
  | n + 1 => by
    have G : FnOk P w K mg base CX0 (n + 2) fa.l_same fd.l_same ["_law_told", "_law_wanted"] (spM K (fr_l_same A n)) := okr_l_same T n
    refine fn_okN2 (k := n + 2) rfl rfl T.F_l_same sc_l_same (fun cdv B outer s H E hr => ?_)
    have C : CSs (cxOf CX0 P w K mg base ["_law_told", "_law_wanted", "_law_k"] "_law_same" (defScope s_l_same) fa.l_same cdv B outer s H E).nox K W0 (defBody s_l_same) _ (m_l_same A (fr_l_same A n)) := (s_cons (s_if (t_val (c_isi1 (.ty "tuple") tab_tuple_ok rfl T.b_isinstance (p_tuple rfl T.b_tuple) rfl (c_v 1))) (s_cons (s_if (t_w (w_or (t_not (t_val (c_isi1 (.ty "tuple") tab_tuple_ok rfl T.b_isinstance (p_tuple rfl T.b_tuple) rfl (c_v 0)))) (w_or1 (t_ne hr rfl (c_len rfl T.b_len rfl (c_v 0)) (c_len rfl T.b_len rfl (c_v 1)))))) (s_one (s_ret c_b)) s_nil)
  (s_one (s_ret (c_eq hr rfl (c_len rfl T.b_len rfl (c_lc (own := [("_law_k", 2)]) rfl sc_l_same.nd (blkOk_by (N := ["_law_told", "_law_wanted", "_law_k"]) (sc := defScope s_l_same) (by decide +kernel)) (by decide) (i_r1 rfl T.b_range (a_cons (c_len rfl T.b_len rfl (c_v 1)) a_nil)) (fun _ _ _ _ _ => (g_n 2 sc_l_same.nd rfl (by first | exact Or.inl rfl | exact Or.inr rfl))) (fun _ _ _ _ _ => (ts_one (t_not (t_val (c_call G hr rfl T.g_l_same T.F_l_same.kp T.B_l_same .nil (fun _ => .nil) (a_cons (c_ix (fun _ _ => rfl) rfl (c_v 0) (c_v 2)) (a_cons (c_ix (fun _ _ => rfl) rfl (c_v 1) (c_v 2)) a_nil))))))) (fun _ _ _ _ _ => (c_v 2)) (fun _ => rfl) s H)) c_i)))) s_nil)
  (s_cons (s_if (t_is (c_v 1) c_n) (s_one (s_ret (c_is (c_v 0) c_n))) s_nil)
  (s_cons (s_if (t_is (c_v 1) c_b) (s_one (s_ret (c_is (c_v 0) c_b))) s_nil)
  (s_cons (s_if (t_is (c_v 1) c_b) (s_one (s_ret (c_is (c_v 0) c_b))) s_nil)
  (s_cons (s_if (t_val (c_isi1 (.ty "str") tab_str_ok rfl T.b_isinstance (p_str rfl T.b_str) rfl (c_v 1))) (s_one (s_ret (c_and (c_isi1 (.ty "str") tab_str_ok rfl T.b_isinstance (p_str rfl T.b_str) rfl (c_v 0)) (c_one (c_eq hr rfl (c_v 0) (c_v 1)))))) s_nil)
  (s_one (s_ret (c_and (c_call (ok_l_is_int T) (hr.mono (by first | decide | omega)) rfl T.g_l_is_int T.F_l_is_int.kp T.B_l_is_int .nil (fun _ => .nil) (a_ref 0 a_nil)) (c_one (c_eq hr rfl (c_v 0) (c_v 1)))))))))))
    exact ⟨_, C.p, C.v⟩
theorem ok_l_same (T : Tx K mg A fa fd) : FnOk P w K mg base CX0 8 fa.l_same fd.l_same ["_law_told", "_law_wanted"] (spM K (f_l_same A)) := okr_l_same T 6
/-! ### _law_sides -/
theorem ok_l_sides (T : Tx K mg A fa fd) : FnOk P w K mg base CX0 1 fa.l_sides fd.l_sides ["_law_size", "_law_copies", "_law_lot", "_law_cut"] (spM K (f_l_sides A)) := by
  refine fn_okN2 rfl rfl T.F_l_sides sc_l_sides (fun cdv B outer s H E hr => ?_)
  have C : CSs (cxOf CX0 P w K mg base ["_law_size", "_law_copies", "_law_lot", "_law_cut", "_law_at", "_law_ahead", "_law_k", "_law_behind"] "_law_sides" (defScope s_l_sides) fa.l_sides cdv B outer s H E).nox K W0 (defBody s_l_sides) _ (m_l_sides A) := (s_cons (s_set 4 sc_l_sides.nd rfl (by first | exact Or.inl rfl | exact Or.inr rfl) (c_if (t_eq hr rfl (c_ix (fun _ _ => rfl) rfl (c_v 3) c_i) c_s) c_i c_i))
  (s_cons (s_set 5 sc_l_sides.nd rfl (by first | exact Or.inl rfl | exact Or.inr rfl) (c_tupOf rfl T.b_tuple rfl (c_lc (own := [("_law_k", 6)]) rfl sc_l_sides.nd (blkOk_by (N := ["_law_size", "_law_copies", "_law_lot", "_law_cut", "_law_at", "_law_ahead", "_law_k", "_law_behind"]) (sc := defScope s_l_sides) (by decide +kernel)) (by decide) (i_seq rfl (c_v 2)) (fun _ _ _ _ _ => (g_n 6 sc_l_sides.nd rfl (by first | exact Or.inl rfl | exact Or.inr rfl))) (fun _ _ _ _ _ => (ts_one (t_le (c_add rfl (c_ix (fun _ _ => rfl) rfl (c_ix (fun _ _ => rfl) rfl (c_v 1) (c_v 6)) (c_v 4)) (c_ix (fun _ _ => rfl) rfl (c_v 0) (c_v 4))) (c_ix (fun _ _ => rfl) rfl (c_v 3) c_i)))) (fun _ _ _ _ _ => (c_v 6)) (fun _ => rfl) s H)))
  (s_cons (s_set 7 sc_l_sides.nd rfl (by first | exact Or.inl rfl | exact Or.inr rfl) (c_tupOf rfl T.b_tuple rfl (c_lc (own := [("_law_k", 6)]) rfl sc_l_sides.nd (blkOk_by (N := ["_law_size", "_law_copies", "_law_lot", "_law_cut", "_law_at", "_law_ahead", "_law_k", "_law_behind"]) (sc := defScope s_l_sides) (by decide +kernel)) (by decide) (i_seq rfl (c_v 2)) (fun _ _ _ _ _ => (g_n 6 sc_l_sides.nd rfl (by first | exact Or.inl rfl | exact Or.inr rfl))) (fun _ _ _ _ _ => (ts_one (t_ge (c_ix (fun _ _ => rfl) rfl (c_ix (fun _ _ => rfl) rfl (c_v 1) (c_v 6)) (c_v 4)) (c_ix (fun _ _ => rfl) rfl (c_v 3) c_i)))) (fun _ _ _ _ _ => (c_v 6)) (fun _ => rfl) s H)))
  (s_one (s_ret (c_tup (a_cons (c_v 5) (a_cons (c_v 7) a_nil))))))))
  exact ⟨_, C.p, C.v⟩
/-! ### _law_walked -/
theorem ok_l_walked (T : Tx K mg A fa fd) : FnOk P w K mg base CX0 9 fa.l_walked fd.l_walked ["_law_size", "_law_copies", "_law_parting"] (spM K (f_l_walked A)) := by
  refine fn_okN2 rfl rfl T.F_l_walked sc_l_walked (fun cdv B outer s H E hr => ?_)
  have C : CSs (cxOf CX0 P w K mg base ["_law_size", "_law_copies", "_law_parting", "_law_lots", "_law_k", "_law_blocks", "_law_at", "_law_lot", "_law_cuts", "_law_ahead", "_law_behind"] "_law_walked" (defScope s_l_walked) fa.l_walked cdv B outer s H E).nox K W0 (defBody s_l_walked) _ (m_l_walked A) := (s_cons (s_set 3 sc_l_walked.nd rfl (by first | exact Or.inl rfl | exact Or.inr rfl) (c_lst (a_cons (c_tupOf rfl T.b_tuple rfl (c_lc (own := [("_law_k", 4)]) rfl sc_l_walked.nd (blkOk_by (N := ["_law_size", "_law_copies", "_law_parting", "_law_lots", "_law_k", "_law_blocks", "_law_at", "_law_lot", "_law_cuts", "_law_ahead", "_law_behind"]) (sc := defScope s_l_walked) (by decide +kernel)) (by decide) (i_r1 rfl T.b_range (a_cons (c_len rfl T.b_len rfl (c_v 1)) a_nil)) (fun _ _ _ _ _ => (g_n 4 sc_l_walked.nd rfl (by first | exact Or.inl rfl | exact Or.inr rfl))) (fun _ _ _ _ _ => ts_nil) (fun _ _ _ _ _ => (c_v 4)) (fun _ => rfl) s H)) a_nil)))
  (s_cons (s_set 5 sc_l_walked.nd rfl (by first | exact Or.inl rfl | exact Or.inr rfl) (c_lst a_nil))
  (s_cons (s_set 6 sc_l_walked.nd rfl (by first | exact Or.inl rfl | exact Or.inr rfl) c_i)
  (s_cons (s_for PassesOwn.never rfl (i_r1 rfl T.b_range (a_cons (c_mul c_i (c_len rfl T.b_len rfl (c_v 1))) a_nil)) (g_n 4 sc_l_walked.nd rfl (by first | exact Or.inl rfl | exact Or.inr rfl)) (s_cons (s_if (t_eq hr rfl (c_len rfl T.b_len rfl (c_v 3)) c_i) (s_one s_break) s_nil)
  (s_cons (s_set 7 sc_l_walked.nd rfl (by first | exact Or.inl rfl | exact Or.inr rfl) (c_lm0 3 PySem.F.slot_list_pop PySem.F.type_list_pop mt_popA lm_pop rfl (by first | exact Or.inl rfl | exact Or.inr (Or.inl rfl) | exact Or.inr (Or.inr rfl)) rfl))
  (s_cons (s_set 8 sc_l_walked.nd rfl (by first | exact Or.inl rfl | exact Or.inr rfl) (c_call (ok_l_all_cuts T) (hr.mono (by first | decide | omega)) rfl T.g_l_all_cuts T.F_l_all_cuts.kp T.B_l_all_cuts .nil (fun _ => .nil) (a_ref 0 (a_ref 1 (a_cons (c_v 7) a_nil)))))
  (s_cons (s_if (t_eq hr rfl (c_len rfl T.b_len rfl (c_v 8)) c_i) (s_cons (s_expr (c_lm 5 PySem.F.slot_list_append PySem.F.type_list_append mt_appendA lm_append rfl (by first | exact Or.inl rfl | exact Or.inr (Or.inl rfl) | exact Or.inr (Or.inr rfl)) rfl (a_cons (c_v 7) a_nil)))
  (s_one s_cont)) s_nil)
  (s_cons (s_if (t_w (w_or (t_ge (c_v 6) (c_len rfl T.b_len rfl (c_v 2))) (w_or1 (t_not (t_val (c_call (ok_l_same T) (hr.mono (by first | decide | omega)) rfl T.g_l_same T.F_l_same.kp T.B_l_same .nil (fun _ => .nil) (a_cons (c_ix (fun _ _ => rfl) rfl (c_v 2) (c_v 6)) (a_cons (c_tup (a_cons (c_v 7) (a_cons (c_ix (fun _ _ => rfl) rfl (c_v 8) c_i) a_nil))) a_nil)))))))) (s_one (s_ret c_n)) s_nil)
  (s_cons (s_setG (c_call (ok_l_sides T) (hr.mono (by first | decide | omega)) rfl T.g_l_sides T.F_l_sides.kp T.B_l_sides .nil (fun _ => .nil) (a_ref 0 (a_ref 1 (a_cons (c_v 7) (a_cons (c_ix (fun _ _ => rfl) rfl (c_v 8) c_i) a_nil))))) (g_tup rfl rfl (g_cons (g_n 9 sc_l_walked.nd rfl (by first | exact Or.inl rfl | exact Or.inr rfl)) (g_cons (g_n 10 sc_l_walked.nd rfl (by first | exact Or.inl rfl | exact Or.inr rfl)) g_nil))))
  (s_cons (s_expr (c_lm 3 PySem.F.slot_list_append PySem.F.type_list_append mt_appendA lm_append rfl (by first | exact Or.inl rfl | exact Or.inr (Or.inl rfl) | exact Or.inr (Or.inr rfl)) rfl (a_cons (c_v 10) a_nil)))
  (s_cons (s_expr (c_lm 3 PySem.F.slot_list_append PySem.F.type_list_append mt_appendA lm_append rfl (by first | exact Or.inl rfl | exact Or.inr (Or.inl rfl) | exact Or.inr (Or.inr rfl)) rfl (a_cons (c_v 9) a_nil)))
  (s_one (s_set 6 sc_l_walked.nd rfl (by first | exact Or.inl rfl | exact Or.inr rfl) (c_add rfl (c_v 6) c_i))))))))))))
  (s_one (s_ret (c_if (t_eq hr rfl (c_v 6) (c_len rfl T.b_len rfl (c_v 2))) (c_tupOf rfl T.b_tuple rfl (c_sortG hr rfl T.b_sorted rfl (c_v 5))) c_n)))))))
  exact ⟨_, C.p, C.v⟩
/-! ### Cuts.__len__ -/
theorem ok_Cuts_len (T : Tx K mg A fa fd) : FnOk P w K mg base CX0 1 fa.Cuts_len fd.Cuts_len ["self"] (spM K (f_Cuts_len A)) := by
  refine fn_okN2 rfl rfl T.F_Cuts_len sc_Cuts_len (fun cdv B outer s H E hr => ?_)
  have C : CSs (cxOf CX0 P w K mg base ["self"] "Cuts.__len__" (defScope s_Cuts_len) fa.Cuts_len cdv B outer s H E).nox K W0 (defBody s_Cuts_len) _ (m_Cuts_len A) := (s_one (s_ret (c_len rfl T.b_len rfl (c_fld T.n_Cuts_blocks rfl (c_v 0)))))
  exact ⟨_, C.p, C.v⟩
/-! ### Cuts.__bool__ -/
theorem ok_Cuts_bool (T : Tx K mg A fa fd) : FnOk P w K mg base CX0 1 fa.Cuts_bool fd.Cuts_bool ["self"] (spM K (f_Cuts_bool A)) := by
  refine fn_okN2 rfl rfl T.F_Cuts_bool sc_Cuts_bool (fun cdv B outer s H E hr => ?_)
  have C : CSs (cxOf CX0 P w K mg base ["self", "block"] "Cuts.__bool__" (defScope s_Cuts_bool) fa.Cuts_bool cdv B outer s H E).nox K W0 (defBody s_Cuts_bool) _ (m_Cuts_bool A) := (s_one (s_ret (c_all rfl rfl T.b_all rfl (c_lc (own := [("block", 1)]) rfl sc_Cuts_bool.nd (blkOk_by (N := ["self", "block"]) (sc := defScope s_Cuts_bool) (by decide +kernel)) (by decide) (i_seq rfl (c_fld T.n_Cuts_blocks rfl (c_v 0))) (fun _ _ _ _ _ => (g_n 1 sc_Cuts_bool.nd rfl (by first | exact Or.inl rfl | exact Or.inr rfl))) (fun _ _ _ _ _ => ts_nil) (fun _ _ _ _ _ => (c_eq hr rfl (c_len rfl T.b_len rfl (c_v 1)) c_i)) (fun _ => rfl) s H))))
  exact ⟨_, C.p, C.v⟩
/-! ### _law_told_right -/
theorem ok_l_told_right (T : Tx K mg A fa fd) : FnOk P w K mg base CX0 9 fa.l_told_right fd.l_told_right ["_law_told", "_law_blocks", "_law_parting"] (spM K (f_l_told_right A)) := by
  refine fn_okN2 rfl rfl T.F_l_told_right sc_l_told_right (fun cdv B outer s H E hr => ?_)
  have C : CSs (cxOf CX0 P w K mg base ["_law_told", "_law_blocks", "_law_parting", "_law_block"] "_law_told_right" (defScope s_l_told_right) fa.l_told_right cdv B outer s H E).nox K W0 (defBody s_l_told_right) _ (m_l_told_right A) := (s_cons (s_if (t_w (w_or (t_not (t_val (c_call (ok_l_same T) (hr.mono (by first | decide | omega)) rfl T.g_l_same T.F_l_same.kp T.B_l_same .nil (fun _ => .nil) (a_cons (c_fld T.n_Cuts_blocks rfl (c_v 0)) (a_ref 1 a_nil))))) (w_or1 (t_not (t_val (c_call (ok_l_same T) (hr.mono (by first | decide | omega)) rfl T.g_l_same T.F_l_same.kp T.B_l_same .nil (fun _ => .nil) (a_cons (c_fld T.n_Cuts_parting rfl (c_v 0)) (a_ref 2 a_nil)))))))) (s_one (s_ret c_b)) s_nil)
  (s_cons (s_if (t_w (w_or (t_ne hr rfl (c_ol T.M_Cuts_len (ok_Cuts_len T) (hr.mono (by first | decide | omega)) T.B_Cuts_len rfl T.b_len (c_v 0)) (c_len rfl T.b_len rfl (c_v 1))) (w_or1 (t_not (t_val (c_call (ok_l_same T) (hr.mono (by first | decide | omega)) rfl T.g_l_same T.F_l_same.kp T.B_l_same .nil (fun _ => .nil) (a_cons (c_tupOf rfl T.b_tuple rfl (c_lc (own := [("_law_block", 3)]) rfl sc_l_told_right.nd (blkOk_by (N := ["_law_told", "_law_blocks", "_law_parting", "_law_block"]) (sc := defScope s_l_told_right) (by decide +kernel)) (by decide) (i_own (k := 0) (it_Cuts_iter T) (hr.mono (by first | decide | omega)) (c_v 0)) (fun _ _ _ _ _ => (g_n 3 sc_l_told_right.nd rfl (by first | exact Or.inl rfl | exact Or.inr rfl))) (fun _ _ _ _ _ => ts_nil) (fun _ _ _ _ _ => (c_v 3)) (fun _ => rfl) s H)) (a_ref 1 a_nil)))))))) (s_one (s_ret c_b)) s_nil)
  (s_one (s_ret (c_eq hr rfl (c_ob T.M_Cuts_bool (ok_Cuts_bool T) (hr.mono (by first | decide | omega)) T.B_Cuts_bool rfl T.b_bool (c_v 0)) (c_eq hr rfl (c_len rfl T.b_len rfl (c_lc (own := [("_law_block", 3)]) rfl sc_l_told_right.nd (blkOk_by (N := ["_law_told", "_law_blocks", "_law_parting", "_law_block"]) (sc := defScope s_l_told_right) (by decide +kernel)) (by decide) (i_seq rfl (c_v 1)) (fun _ _ _ _ _ => (g_n 3 sc_l_told_right.nd rfl (by first | exact Or.inl rfl | exact Or.inr rfl))) (fun _ _ _ _ _ => (ts_one (t_gt (c_len rfl T.b_len rfl (c_v 3)) c_i))) (fun _ _ _ _ _ => (c_v 3)) (fun _ => rfl) s H)) c_i))))))
  exact ⟨_, C.p, C.v⟩
/-! ### _law_parted -/
theorem ok_l_parted (T : Tx K mg A fa fd) : FnOk P w K mg base CX0 3 fa.l_parted fd.l_parted ["_law_bag", "_law_size", "_law_copies"] (spM K (f_l_parted A)) := by
  refine fn_okN2 rfl rfl T.F_l_parted sc_l_parted (fun cdv B outer s H E hr => ?_)
  have C : CSs (cxOf CX0 P w K mg base ["_law_bag", "_law_size", "_law_copies", "_law_lots", "_law_k", "_law_blocks", "_law_lot", "_law_cuts"] "_law_parted" (defScope s_l_parted) fa.l_parted cdv B outer s H E).nox K W0 (defBody s_l_parted) _ (m_l_parted A) := (s_cons (s_set 3 sc_l_parted.nd rfl (by first | exact Or.inl rfl | exact Or.inr rfl) (c_lst (a_cons (c_tupOf rfl T.b_tuple rfl (c_lc (own := [("_law_k", 4)]) rfl sc_l_parted.nd (blkOk_by (N := ["_law_bag", "_law_size", "_law_copies", "_law_lots", "_law_k", "_law_blocks", "_law_lot", "_law_cuts"]) (sc := defScope s_l_parted) (by decide +kernel)) (by decide) (i_r1 rfl T.b_range (a_cons (c_len rfl T.b_len rfl (c_v 2)) a_nil)) (fun _ _ _ _ _ => (g_n 4 sc_l_parted.nd rfl (by first | exact Or.inl rfl | exact Or.inr rfl))) (fun _ _ _ _ _ => ts_nil) (fun _ _ _ _ _ => (c_v 4)) (fun _ => rfl) s H)) a_nil)))
  (s_cons (s_set 5 sc_l_parted.nd rfl (by first | exact Or.inl rfl | exact Or.inr rfl) (c_lst a_nil))
  (s_cons (s_for PassesOwn.never rfl (i_r1 rfl T.b_range (a_cons (c_mul c_i (c_len rfl T.b_len rfl (c_v 2))) a_nil)) (g_n 4 sc_l_parted.nd rfl (by first | exact Or.inl rfl | exact Or.inr rfl)) (s_one (s_if (t_gt (c_len rfl T.b_len rfl (c_v 3)) c_i) (s_cons (s_set 6 sc_l_parted.nd rfl (by first | exact Or.inl rfl | exact Or.inr rfl) (c_lm 3 PySem.F.slot_list_pop PySem.F.type_list_pop mt_popA lm_pop rfl (by first | exact Or.inl rfl | exact Or.inr (Or.inl rfl) | exact Or.inr (Or.inr rfl)) rfl (a_cons (c_call (ok_l_pick T) (hr.mono (by first | decide | omega)) rfl T.g_l_pick T.F_l_pick.kp T.B_l_pick .nil (fun _ => .nil) (a_ref 0 (a_cons (c_len rfl T.b_len rfl (c_v 3)) a_nil))) a_nil)))
  (s_cons (s_set 7 sc_l_parted.nd rfl (by first | exact Or.inl rfl | exact Or.inr rfl) (c_call (ok_l_all_cuts T) (hr.mono (by first | decide | omega)) rfl T.g_l_all_cuts T.F_l_all_cuts.kp T.B_l_all_cuts .nil (fun _ => .nil) (a_ref 1 (a_ref 2 (a_cons (c_v 6) a_nil)))))
  (s_one (s_if (t_eq hr rfl (c_len rfl T.b_len rfl (c_v 7)) c_i) (s_one (s_expr (c_lm 5 PySem.F.slot_list_append PySem.F.type_list_append mt_appendA lm_append rfl (by first | exact Or.inl rfl | exact Or.inr (Or.inl rfl) | exact Or.inr (Or.inr rfl)) rfl (a_cons (c_v 6) a_nil)))) (s_one (s_expr (c_lm 3 PySem.F.slot_list_extend PySem.F.type_list_extend mt_extendA lm_extend rfl (by first | exact Or.inl rfl | exact Or.inr (Or.inl rfl) | exact Or.inr (Or.inr rfl)) rfl (a_cons (c_lstOf rfl T.b_list rfl (c_call (ok_l_sides T) (hr.mono (by first | decide | omega)) rfl T.g_l_sides T.F_l_sides.kp T.B_l_sides .nil (fun _ => .nil) (a_ref 1 (a_ref 2 (a_cons (c_v 6) (a_cons (c_call (ok_l_one_of T) (hr.mono (by first | decide | omega)) rfl T.g_l_one_of T.F_l_one_of.kp T.B_l_one_of .nil (fun _ => .nil) (a_ref 0 (a_cons (c_v 7) a_nil))) a_nil)))))) a_nil)))))))) s_nil)))
  (s_one (s_ret (c_tupOf rfl T.b_tuple rfl (c_sortG hr rfl T.b_sorted rfl (c_v 5))))))))
  exact ⟨_, C.p, C.v⟩
/-! ### _law_cut_right -/
theorem ok_l_cut_right (T : Tx K mg A fa fd) : FnOk P w K mg base CX0 9 fa.l_cut_right fd.l_cut_right ["_law_size", "_law_copies", "_law_layout", "_law_lot"] (spM K (f_l_cut_right A)) := by
  refine fn_okN2 rfl rfl T.F_l_cut_right sc_l_cut_right (fun cdv B outer s H E hr => ?_)
  have C : CSs (cxOf CX0 P w K mg base ["_law_size", "_law_copies", "_law_layout", "_law_lot", "_law_cuts", "_law_due"] "_law_cut_right" (defScope s_l_cut_right) fa.l_cut_right cdv B outer s H E).nox K W0 (defBody s_l_cut_right) _ (m_l_cut_right A) := (s_cons (s_set 4 sc_l_cut_right.nd rfl (by first | exact Or.inl rfl | exact Or.inr rfl) (c_call (ok_l_all_cuts T) (hr.mono (by first | decide | omega)) rfl T.g_l_all_cuts T.F_l_all_cuts.kp T.B_l_all_cuts .nil (fun _ => .nil) (a_ref 0 (a_ref 1 (a_ref 3 a_nil)))))
  (s_cons (s_set 5 sc_l_cut_right.nd rfl (by first | exact Or.inl rfl | exact Or.inr rfl) (c_if (t_tru rfl (c_v 4)) (c_ix (fun _ _ => rfl) rfl (c_v 4) c_i) c_n))
  (s_one (s_ret (c_and (c_call (ok_l_same T) (hr.mono (by first | decide | omega)) rfl T.g_l_same T.F_l_same.kp T.B_l_same .nil (fun _ => .nil) (a_cons (c_call (ok_first_cut_g T) (hr.mono (by first | decide | omega)) rfl T.g_first_cut_g T.F_first_cut_g.kp T.B_first_cut_g .nil (fun _ => .nil) (a_ref 2 (a_ref 3 a_nil))) (a_cons (c_v 5) a_nil))) (c_one (c_call (ok_l_same T) (hr.mono (by first | decide | omega)) rfl T.g_l_same T.F_l_same.kp T.B_l_same .nil (fun _ => .nil) (a_cons (c_call (ok_first_cut_g T) (hr.mono (by first | decide | omega)) rfl T.g_first_cut_g T.F_first_cut_g.kp T.B_first_cut_g .nil (fun _ => .nil) (a_ref 2 (a_cons (c_lstOf rfl T.b_list rfl (c_v 3)) a_nil))) (a_cons (c_v 5) a_nil)))))))))
  exact ⟨_, C.p, C.v⟩
/-! ### law -/
theorem ok_law_g (T : Tx K mg A fa fd) : FnOk P w K mg base CX0 20 fa.law_g fd.law_g ["_law_script"] (spM K (f_law_g A)) := by
  refine fn_okN2 rfl rfl T.F_law_g sc_law_g (fun cdv B outer s H E hr => ?_)
  have C : CSs (cxOf CX0 P w K mg base ["_law_script", "_law_bag", "_law_size", "_law_copies", "_law_layout", "_law_told", "_law_blocks", "_law_k", "_law_down", "_law_one", "_law_side", "_law_moved", "_law_again", "_law_shifted", "_law_lot", "_law_cut", "_law_block", "_law_number"] "law" (defScope s_law_g) fa.law_g cdv B outer s H E).nox K W0 (defBody s_law_g) _ (m_law_g A) := (s_cons (s_set 1 sc_law_g.nd rfl (by first | exact Or.inl rfl | exact Or.inr rfl) (c_call (ok_l_bag_of T) (hr.mono (by first | decide | omega)) rfl T.g_l_bag_of T.F_l_bag_of.kp T.B_l_bag_of .nil (fun _ => .nil) (a_ref 0 (a_cons c_i a_nil))))
  (s_cons (s_set 2 sc_law_g.nd rfl (by first | exact Or.inl rfl | exact Or.inr rfl) (c_tup (a_cons (c_add rfl c_i (c_call (ok_l_pick T) (hr.mono (by first | decide | omega)) rfl T.g_l_pick T.F_l_pick.kp T.B_l_pick .nil (fun _ => .nil) (a_ref 1 (a_cons c_i a_nil)))) (a_cons (c_add rfl c_i (c_call (ok_l_pick T) (hr.mono (by first | decide | omega)) rfl T.g_l_pick T.F_l_pick.kp T.B_l_pick .nil (fun _ => .nil) (a_ref 1 (a_cons c_i a_nil)))) a_nil))))
  (s_cons (s_if (t_eq hr rfl (c_call (ok_l_pick T) (hr.mono (by first | decide | omega)) rfl T.g_l_pick T.F_l_pick.kp T.B_l_pick .nil (fun _ => .nil) (a_ref 1 (a_cons c_i a_nil))) c_i) (s_one (s_set 2 sc_law_g.nd rfl (by first | exact Or.inl rfl | exact Or.inr rfl) (c_tup (a_cons (c_add rfl c_i (c_call (ok_l_pick T) (hr.mono (by first | decide | omega)) rfl T.g_l_pick T.F_l_pick.kp T.B_l_pick .nil (fun _ => .nil) (a_ref 1 (a_cons c_i a_nil)))) (a_cons (c_add rfl c_i (c_call (ok_l_pick T) (hr.mono (by first | decide | omega)) rfl T.g_l_pick T.F_l_pick.kp T.B_l_pick .nil (fun _ => .nil) (a_ref 1 (a_cons c_i a_nil)))) a_nil))))) s_nil)
  (s_cons (s_set 3 sc_law_g.nd rfl (by first | exact Or.inl rfl | exact Or.inr rfl) (c_call (ok_l_mixed_of T) (hr.mono (by first | decide | omega)) rfl T.g_l_mixed_of T.F_l_mixed_of.kp T.B_l_mixed_of .nil (fun _ => .nil) (a_ref 1 (a_cons (c_call (ok_l_copies_of T) (hr.mono (by first | decide | omega)) rfl T.g_l_copies_of T.F_l_copies_of.kp T.B_l_copies_of .nil (fun _ => .nil) (a_ref 1 (a_cons (c_v 2) (a_cons c_i a_nil)))) a_nil))))
  (s_cons (s_set 4 sc_law_g.nd rfl (by first | exact Or.inl rfl | exact Or.inr rfl) (c_make T.mk_Layout (ok_Layout_init T) (hr.mono (by first | decide | omega)) rfl T.c_Layout T.B_Layout_init .nil (fun _ => .nil) (a_cons (c_ix (fun _ _ => rfl) rfl (c_v 2) c_i) (a_cons (c_ix (fun _ _ => rfl) rfl (c_v 2) c_i) (a_cons (c_v 3) a_nil)))))
  (s_cons (s_set 5 sc_law_g.nd rfl (by first | exact Or.inl rfl | exact Or.inr rfl) (c_make T.mk_Cuts (ok_Cuts_init T) (hr.mono (by first | decide | omega)) rfl T.c_Cuts T.B_Cuts_init .nil (fun _ => .nil) (a_cons (c_v 4) a_nil)))
  (s_cons (s_if (t_not (t_val (c_isi1 (.ty "tuple") tab_tuple_ok rfl T.b_isinstance (p_tuple rfl T.b_tuple) rfl (c_fld T.n_Cuts_parting rfl (c_v 5))))) (s_one (s_ret c_b)) s_nil)
  (s_cons (s_set 6 sc_law_g.nd rfl (by first | exact Or.inl rfl | exact Or.inr rfl) (c_call (ok_l_walked T) (hr.mono (by first | decide | omega)) rfl T.g_l_walked T.F_l_walked.kp T.B_l_walked .nil (fun _ => .nil) (a_cons (c_v 2) (a_cons (c_v 3) (a_cons (c_fld T.n_Cuts_parting rfl (c_v 5)) a_nil)))))
  (s_cons (s_if (t_w (w_or (t_is (c_v 6) c_n) (w_or1 (t_ne hr rfl (c_len rfl T.b_len rfl (c_fld T.n_Cuts_parting rfl (c_v 5))) (c_sub (c_len rfl T.b_len rfl (c_v 6)) c_i))))) (s_one (s_ret c_b)) s_nil)
  (s_cons (s_if (t_not (t_val (c_call (ok_l_told_right T) (hr.mono (by first | decide | omega)) rfl T.g_l_told_right T.F_l_told_right.kp T.B_l_told_right .nil (fun _ => .nil) (a_cons (c_v 5) (a_cons (c_v 6) (a_cons (c_fld T.n_Cuts_parting rfl (c_v 5)) a_nil)))))) (s_one (s_ret c_b)) s_nil)
  (s_cons (s_set 1 sc_law_g.nd rfl (by first | exact Or.inl rfl | exact Or.inr rfl) (c_call (ok_l_bag_of T) (hr.mono (by first | decide | omega)) rfl T.g_l_bag_of T.F_l_bag_of.kp T.B_l_bag_of .nil (fun _ => .nil) (a_ref 0 (a_cons c_i a_nil))))
  (s_cons (s_for PassesOwn.never rfl (i_r1 rfl T.b_range (a_cons c_i a_nil)) (g_n 7 sc_law_g.nd rfl (by first | exact Or.inl rfl | exact Or.inr rfl)) (s_one (s_if (t_ne hr rfl (c_call (ok_l_parted T) (hr.mono (by first | decide | omega)) rfl T.g_l_parted T.F_l_parted.kp T.B_l_parted .nil (fun _ => .nil) (a_ref 1 (a_cons (c_v 2) (a_cons (c_v 3) a_nil)))) (c_v 6)) (s_one (s_ret c_b)) s_nil)))
  (s_cons (s_set 8 sc_law_g.nd rfl (by first | exact Or.inl rfl | exact Or.inr rfl) (c_call (ok_l_pick T) (hr.mono (by first | decide | omega)) rfl T.g_l_pick T.F_l_pick.kp T.B_l_pick .nil (fun _ => .nil) (a_ref 1 (a_cons (c_sub c_i (c_max rfl rfl T.b_max rfl (c_lc (own := [("_law_one", 9)]) rfl sc_law_g.nd (blkOk_by (N := ["_law_script", "_law_bag", "_law_size", "_law_copies", "_law_layout", "_law_told", "_law_blocks", "_law_k", "_law_down", "_law_one", "_law_side", "_law_moved", "_law_again", "_law_shifted", "_law_lot", "_law_cut", "_law_block", "_law_number"]) (sc := defScope s_law_g) (by decide +kernel)) (by decide) (i_seq rfl (c_v 3)) (fun _ _ _ _ _ => (g_n 9 sc_law_g.nd rfl (by first | exact Or.inl rfl | exact Or.inr rfl))) (fun _ _ _ _ _ => ts_nil) (fun _ _ _ _ _ => (c_ix (fun _ _ => rfl) rfl (c_v 9) c_i)) (fun _ => rfl) s H))) a_nil))))
  (s_cons (s_set 10 sc_law_g.nd rfl (by first | exact Or.inl rfl | exact Or.inr rfl) (c_call (ok_l_pick T) (hr.mono (by first | decide | omega)) rfl T.g_l_pick T.F_l_pick.kp T.B_l_pick .nil (fun _ => .nil) (a_ref 1 (a_cons (c_sub c_i (c_max rfl rfl T.b_max rfl (c_lc (own := [("_law_one", 9)]) rfl sc_law_g.nd (blkOk_by (N := ["_law_script", "_law_bag", "_law_size", "_law_copies", "_law_layout", "_law_told", "_law_blocks", "_law_k", "_law_down", "_law_one", "_law_side", "_law_moved", "_law_again", "_law_shifted", "_law_lot", "_law_cut", "_law_block", "_law_number"]) (sc := defScope s_law_g) (by decide +kernel)) (by decide) (i_seq rfl (c_v 3)) (fun _ _ _ _ _ => (g_n 9 sc_law_g.nd rfl (by first | exact Or.inl rfl | exact Or.inr rfl))) (fun _ _ _ _ _ => ts_nil) (fun _ _ _ _ _ => (c_ix (fun _ _ => rfl) rfl (c_v 9) c_i)) (fun _ => rfl) s H))) a_nil))))
  (s_cons (s_setLc 11 (own := [("_law_one", 9)]) rfl sc_law_g.nd rfl rfl (by with_unfolding_all rfl) (blkOk_by (N := ["_law_script", "_law_bag", "_law_size", "_law_copies", "_law_layout", "_law_told", "_law_blocks", "_law_k", "_law_down", "_law_one", "_law_side", "_law_moved", "_law_again", "_law_shifted", "_law_lot", "_law_cut", "_law_block", "_law_number"]) (sc := defScope s_law_g) (by decide +kernel)) (by decide) (i_seq rfl (c_v 3)) (fun _ _ _ _ _ => (g_n 9 sc_law_g.nd rfl (by first | exact Or.inl rfl | exact Or.inr rfl))) (fun _ _ _ _ _ => ts_nil) (fun _ _ _ _ _ => (c_tup (a_cons (c_add rfl (c_ix (fun _ _ => rfl) rfl (c_v 9) c_i) (c_v 8)) (a_cons (c_add rfl (c_ix (fun _ _ => rfl) rfl (c_v 9) c_i) (c_v 10)) (a_cons (c_not (c_ix (fun _ _ => rfl) rfl (c_v 9) c_i)) a_nil))))) (fun _ => rfl) s H)
  (s_cons (s_set 12 sc_law_g.nd rfl (by first | exact Or.inl rfl | exact Or.inr rfl) (c_make T.mk_Cuts (ok_Cuts_init T) (hr.mono (by first | decide | omega)) rfl T.c_Cuts T.B_Cuts_init .nil (fun _ => .nil) (a_cons (c_make T.mk_Layout (ok_Layout_init T) (hr.mono (by first | decide | omega)) rfl T.c_Layout T.B_Layout_init .nil (fun _ => .nil) (a_cons (c_ix (fun _ _ => rfl) rfl (c_v 2) c_i) (a_cons (c_ix (fun _ _ => rfl) rfl (c_v 2) c_i) (a_cons (c_v 11) a_nil)))) a_nil)))
  (s_cons (s_set 13 sc_law_g.nd rfl (by first | exact Or.inl rfl | exact Or.inr rfl) (c_lst a_nil))
  (s_cons (s_for PassesOwn.never rfl (i_seq rfl (c_fld T.n_Cuts_parting rfl (c_v 5))) (g_tup rfl rfl (g_cons (g_n 14 sc_law_g.nd rfl (by first | exact Or.inl rfl | exact Or.inr rfl)) (g_cons (g_n 15 sc_law_g.nd rfl (by first | exact Or.inl rfl | exact Or.inr rfl)) g_nil))) (s_one (s_expr (c_lm 13 PySem.F.slot_list_append PySem.F.type_list_append mt_appendA lm_append rfl (by first | exact Or.inl rfl | exact Or.inr (Or.inl rfl) | exact Or.inr (Or.inr rfl)) rfl (a_cons (c_tup (a_cons (c_v 14) (a_cons (c_tup (a_cons (c_ix (fun _ _ => rfl) rfl (c_v 15) c_i) (a_cons (c_add rfl (c_ix (fun _ _ => rfl) rfl (c_v 15) c_i) (c_if (t_eq hr rfl (c_ix (fun _ _ => rfl) rfl (c_v 15) c_i) c_s) (c_v 8) (c_v 10))) a_nil))) a_nil))) a_nil)))))
  (s_cons (s_if (t_not (t_val (c_call (ok_l_told_right T) (hr.mono (by first | decide | omega)) rfl T.g_l_told_right T.F_l_told_right.kp T.B_l_told_right .nil (fun _ => .nil) (a_cons (c_v 12) (a_cons (c_v 6) (a_cons (c_tupOf rfl T.b_tuple rfl (c_v 13)) a_nil)))))) (s_one (s_ret c_b)) s_nil)
  (s_cons (s_for PassesOwn.never rfl (i_seq rfl (c_v 6)) (g_n 16 sc_law_g.nd rfl (by first | exact Or.inl rfl | exact Or.inr rfl)) (s_one (s_if (t_not (t_val (c_call (ok_l_cut_right T) (hr.mono (by first | decide | omega)) rfl T.g_l_cut_right T.F_l_cut_right.kp T.B_l_cut_right .nil (fun _ => .nil) (a_cons (c_v 2) (a_cons (c_v 3) (a_cons (c_v 4) (a_cons (c_v 16) a_nil))))))) (s_one (s_ret c_b)) s_nil)))
  (s_cons (s_for PassesOwn.never rfl (i_r1 rfl T.b_range (a_cons c_i a_nil)) (g_n 7 sc_law_g.nd rfl (by first | exact Or.inl rfl | exact Or.inr rfl)) (s_cons (s_set 14 sc_law_g.nd rfl (by first | exact Or.inl rfl | exact Or.inr rfl) (c_tupOf rfl T.b_tuple rfl (c_lc (own := [("_law_number", 17)]) rfl sc_law_g.nd (blkOk_by (N := ["_law_script", "_law_bag", "_law_size", "_law_copies", "_law_layout", "_law_told", "_law_blocks", "_law_k", "_law_down", "_law_one", "_law_side", "_law_moved", "_law_again", "_law_shifted", "_law_lot", "_law_cut", "_law_block", "_law_number"]) (sc := defScope s_law_g) (by decide +kernel)) (by decide) (i_r1 rfl T.b_range (a_cons (c_len rfl T.b_len rfl (c_v 3)) a_nil)) (fun _ _ _ _ _ => (g_n 17 sc_law_g.nd rfl (by first | exact Or.inl rfl | exact Or.inr rfl))) (fun _ _ _ _ _ => (ts_one (t_eq hr rfl (c_call (ok_l_pick T) (hr.mono (by first | decide | omega)) rfl T.g_l_pick T.F_l_pick.kp T.B_l_pick .nil (fun _ => .nil) (a_ref 1 (a_cons c_i a_nil))) c_i))) (fun _ _ _ _ _ => (c_v 17)) (fun _ => rfl) s H)))
  (s_one (s_if (t_w (w_and (t_gt (c_len rfl T.b_len rfl (c_v 14)) c_i) (w_and1 (t_not (t_val (c_call (ok_l_cut_right T) (hr.mono (by first | decide | omega)) rfl T.g_l_cut_right T.F_l_cut_right.kp T.B_l_cut_right .nil (fun _ => .nil) (a_cons (c_v 2) (a_cons (c_v 3) (a_cons (c_v 4) (a_cons (c_v 14) a_nil)))))))))) (s_one (s_ret c_b)) s_nil))))
  (s_one (s_ret (c_call (ok_l_told_right T) (hr.mono (by first | decide | omega)) rfl T.g_l_told_right T.F_l_told_right.kp T.B_l_told_right .nil (fun _ => .nil) (a_cons (c_v 5) (a_cons (c_v 6) (a_cons (c_fld T.n_Cuts_parting rfl (c_v 5)) a_nil)))))))))))))))))))))))))))
  exact ⟨_, C.p, C.v⟩
end Cz

/-! # La -/
namespace Cz
open L2 PyProof.Rows PySem.Spec PySem
/-! ## cuts of lots of copies -/
abbrev Lot := List Nat
structure Geo where
  P : Bool → Nat → Int
  S : Bool → Int
def lowL (g : Geo) (a : Bool) (n : Int) (L : Lot) : Lot := L.filter fun k => decide (g.P a k + g.S a ≤ n)
def highL (g : Geo) (a : Bool) (n : Int) (L : Lot) : Lot := L.filter fun k => decide (n ≤ g.P a k)
def thru (g : Geo) (a : Bool) (n : Int) (L : Lot) : Prop := ∀ k ∈ L, g.P a k + g.S a ≤ n ∨ n ≤ g.P a k
instance {g : Geo} {a : Bool} {n : Int} {L : Lot} : Decidable (thru g a n L) := inferInstanceAs (Decidable (∀ k ∈ L, _ ∨ _))
def Vld (g : Geo) (a : Bool) (n : Int) (L : Lot) : Prop := thru g a n L ∧ lowL g a n L ≠ [] ∧ highL g a n L ≠ []
instance {g : Geo} {a : Bool} {n : Int} {L : Lot} : Decidable (Vld g a n L) := inferInstanceAs (Decidable (_ ∧ _ ∧ _))
def ends (g : Geo) (a : Bool) (L : Lot) : List Int := L.map fun k => g.P a k + g.S a
def fcA (g : Geo) (a : Bool) (L : Lot) : Option Int := (ascI (ends g a L)).find? fun n => decide (Vld g a n L)
def fc (g : Geo) (L : Lot) : Option (Bool × Int) := match fcA g false L with
  | some n => some (false, n)
  | none => (fcA g true L).map fun n => (true, n)
def rgI (lo hi : Int) : List Int := (List.range (hi - lo).toNat).map fun (i : Nat) => lo + i
def acA (g : Geo) (a : Bool) (L : Lot) : List Int := match L.map (g.P a) with
  | [] => []
  | x :: r => (rgI (least x r + 1) (most x r + 1)).filter fun n => decide (∀ k ∈ L, ¬ (g.P a k < n ∧ n < g.P a k + g.S a))
def ac (g : Geo) (L : Lot) : List (Bool × Int) := (acA g false L).map (fun n => (false, n)) ++ (acA g true L).map fun n => (true, n)
theorem rgI_mem {lo hi n : Int} : n ∈ rgI lo hi ↔ lo ≤ n ∧ n < hi := by
  unfold rgI
  rw [List.mem_map]
  constructor
  · rintro ⟨i, hi', rfl⟩
    rw [List.mem_range] at hi'
    omega
  · rintro ⟨h1, h2⟩
    exact ⟨(n - lo).toNat, by rw [List.mem_range]; omega, by omega⟩
theorem rgI_asc {lo hi : Int} : (rgI lo hi).Pairwise (· < ·) := by
  unfold rgI
  rw [List.pairwise_map]
  exact List.pairwise_lt_range.imp fun h => by omega
theorem least_mem (x : Int) (r : List Int) : least x r ∈ x :: r := by
  rcases (least_le r x).1 with h | h
  · rw [h]
    exact List.mem_cons_self
  · exact List.mem_cons_of_mem _ h
theorem most_mem (x : Int) (r : List Int) : most x r ∈ x :: r := by
  rcases (most_le r x).1 with h | h
  · rw [h]
    exact List.mem_cons_self
  · exact List.mem_cons_of_mem _ h
theorem least_all {x y : Int} {r : List Int} (h : y ∈ x :: r) : least x r ≤ y := by
  (rcases List.mem_cons.mp h with rfl | h)
  · exact (least_le r y).2.1
  · exact (least_le r x).2.2 y h
theorem most_all {x y : Int} {r : List Int} (h : y ∈ x :: r) : y ≤ most x r := by
  (rcases List.mem_cons.mp h with rfl | h)
  · exact (most_le r y).2.1
  · exact (most_le r x).2.2 y h
section
variable {g : Geo} {a : Bool} {n : Int} {L : Lot}
theorem low_mem {k : Nat} : k ∈ lowL g a n L ↔ k ∈ L ∧ g.P a k + g.S a ≤ n := by
  unfold lowL
  rw [List.mem_filter, decide_eq_true_eq]
theorem high_mem {k : Nat} : k ∈ highL g a n L ↔ k ∈ L ∧ n ≤ g.P a k := by
  unfold highL
  rw [List.mem_filter, decide_eq_true_eq]
theorem ne_nil {α : Type} {l : List α} : l ≠ [] ↔ ∃ x, x ∈ l := by
  cases l with
  | nil => simp
  | cons x l => exact ⟨fun _ => ⟨x, List.mem_cons_self⟩, fun _ => by simp⟩
theorem acA_mem (hS : ∀ a, 1 ≤ g.S a) : n ∈ acA g a L ↔ Vld g a n L := by
  have hs := hS a
  unfold acA
  split
  · rename_i e
    have : L = [] := List.map_eq_nil_iff.mp e
    subst this
    constructor
    · intro h; cases h
    · rintro ⟨_, h, _⟩; exact absurd rfl h
  · rename_i x r e
    have mm : ∀ y, y ∈ x :: r ↔ ∃ k ∈ L, g.P a k = y := fun y => by rw [← e, List.mem_map]
    rw [List.mem_filter, rgI_mem, decide_eq_true_eq]
    constructor
    · rintro ⟨⟨h1, h2⟩, h3⟩
      obtain ⟨k1, m1, e1⟩ := (mm _).mp (least_mem x r)
      obtain ⟨k2, m2, e2⟩ := (mm _).mp (most_mem x r)
      refine ⟨fun k hk => ?_, ne_nil.mpr ⟨k1, low_mem.mpr ⟨m1, ?_⟩⟩, ne_nil.mpr ⟨k2, high_mem.mpr ⟨m2, by omega⟩⟩⟩
      · have := h3 k hk
        omega
      · have := h3 k1 m1
        omega
    · rintro ⟨h1, h2, h3⟩
      obtain ⟨k1, q1⟩ := ne_nil.mp h2
      obtain ⟨k2, q2⟩ := ne_nil.mp h3
      obtain ⟨m1, p1⟩ := low_mem.mp q1
      obtain ⟨m2, p2⟩ := high_mem.mp q2
      have l1 := least_all ((mm _).mpr ⟨k1, m1, rfl⟩)
      have l2 := most_all ((mm _).mpr ⟨k2, m2, rfl⟩)
      refine ⟨⟨by omega, by omega⟩, fun k hk z => ?_⟩
      have := h1 k hk
      omega
theorem acA_asc : (acA g a L).Pairwise (· < ·) := by
  unfold acA
  split
  · exact List.Pairwise.nil
  · exact List.Pairwise.filter _ rgI_asc
theorem find_asc {p : Int → Bool} : ∀ {xs : List Int}, xs.Pairwise (· < ·) → ∀ n, xs.find? p = some n → n ∈ xs ∧ p n = true ∧ ∀ m ∈ xs, p m = true → n ≤ m
  | [], _, n, e => by cases e
  | x :: xs, h, n, e => by
    (obtain ⟨h1, h2⟩ := List.pairwise_cons.mp h)
    rw [List.find?_cons] at e
    split at e
    · rename_i hx
      cases e
      refine ⟨List.mem_cons_self, hx, fun m hm _ => ?_⟩
      (rcases List.mem_cons.mp hm with rfl | hm)
      · exact Int.le_refl _
      · exact Int.le_of_lt (h1 m hm)
    · rename_i hx
      obtain ⟨q1, q2, q3⟩ := find_asc h2 n e
      refine ⟨List.mem_cons_of_mem _ q1, q2, fun m hm pm => ?_⟩
      (rcases List.mem_cons.mp hm with rfl | hm)
      · rw [hx] at pm; cases pm
      · exact q3 m hm pm
/-- the greatest end of the lower side -/
theorem end_of (hS : ∀ a, 1 ≤ g.S a) (h : Vld g a n L) : ∃ e ∈ ends g a L, e ≤ n ∧ Vld g a e L := by
  obtain ⟨h1, h2, h3⟩ := h
  have hs := hS a
  obtain ⟨x, r, e⟩ : ∃ x r, (lowL g a n L).map (fun k => g.P a k + g.S a) = x :: r := by
    cases q : (lowL g a n L).map (fun k => g.P a k + g.S a) with
    | nil => exact absurd (List.map_eq_nil_iff.mp q) h2
    | cons x r => (exact ⟨x, r, rfl⟩)
  have mm : ∀ y, y ∈ x :: r ↔ ∃ k ∈ lowL g a n L, g.P a k + g.S a = y := fun y => by rw [← e, List.mem_map]
  obtain ⟨k, hk, ek⟩ := (mm _).mp (most_mem x r)
  obtain ⟨hk1, hk2⟩ := low_mem.mp hk
  obtain ⟨j, hj⟩ := ne_nil.mp h3
  obtain ⟨hj1, hj2⟩ := high_mem.mp hj
  refine ⟨most x r, List.mem_map.mpr ⟨k, hk1, ek⟩, by omega, fun i hi => ?_, ne_nil.mpr ⟨k, low_mem.mpr ⟨hk1, by omega⟩⟩, ne_nil.mpr ⟨j, high_mem.mpr ⟨hj1, by omega⟩⟩⟩
  rcases h1 i hi with q | q
  · exact .inl (most_all ((mm _).mpr ⟨i, low_mem.mpr ⟨hi, q⟩, rfl⟩))
  · exact .inr (by omega)
theorem fcA_eq (hS : ∀ a, 1 ≤ g.S a) : fcA g a L = (acA g a L).head? := by
  unfold fcA
  cases e : (ascI (ends g a L)).find? fun n => decide (Vld g a n L) with
  | none =>
    cases q : acA g a L with
    | nil => rfl
    | cons m r =>
      have hm : Vld g a m L := (acA_mem hS).mp (by rw [q]; exact List.mem_cons_self)
      obtain ⟨x, hx, _, hv⟩ := end_of hS hm
      have := List.find?_eq_none.mp e x (ascI_mem.mpr hx)
      exact absurd (decide_eq_true hv) this
  | some n =>
    obtain ⟨q1, q2, q3⟩ := find_asc (ascI_lt _) n e
    have hn : Vld g a n L := of_decide_eq_true q2
    have mn := (acA_mem hS).mpr hn
    cases q : acA g a L with
    | nil => rw [q] at mn; cases mn
    | cons m r =>
      have hm : Vld g a m L := (acA_mem hS).mp (by rw [q]; exact List.mem_cons_self)
      obtain ⟨x, hx, lx, hv⟩ := end_of hS hm
      have a1 : n ≤ x := q3 x (ascI_mem.mpr hx) (decide_eq_true hv)
      have asc := acA_asc (g := g) (a := a) (L := L)
      rw [q] at asc mn
      have a2 : m ≤ n := by
        rcases List.mem_cons.mp mn with rfl | z
        · exact Int.le_refl _
        · exact Int.le_of_lt ((List.pairwise_cons.mp asc).1 n z)
      show some n = some m
      congr 1
      omega
theorem fc_eq (hS : ∀ a, 1 ≤ g.S a) : fc g L = (ac g L).head? := by
  unfold fc ac
  rw [fcA_eq hS, fcA_eq hS]
  cases acA g false L with
  | nil =>
    cases acA g true L with
    | nil => rfl
    | cons m r => rfl
  | cons m r => rfl
def Unc (g : Geo) (L : Lot) : Prop := ∀ a n, ¬ Vld g a n L
theorem ac_mem (hS : ∀ a, 1 ≤ g.S a) : (a, n) ∈ ac g L ↔ Vld g a n L := by
  unfold ac
  rw [List.mem_append, List.mem_map, List.mem_map]
  cases a with
  | false =>
    constructor
    · rintro (⟨m, h, e⟩ | ⟨m, h, e⟩)
      · cases e; exact (acA_mem hS).mp h
      · cases e
    · exact fun h => .inl ⟨n, (acA_mem hS).mpr h, rfl⟩
  | true =>
    constructor
    · rintro (⟨m, h, e⟩ | ⟨m, h, e⟩)
      · cases e
      · cases e; exact (acA_mem hS).mp h
    · exact fun h => .inr ⟨n, (acA_mem hS).mpr h, rfl⟩
theorem unc_ac (hS : ∀ a, 1 ≤ g.S a) : ac g L = [] ↔ Unc g L := by
  constructor
  · intro e a n h
    have := (ac_mem hS).mpr h
    rw [e] at this
    cases this
  · intro h
    cases q : ac g L with
    | nil => rfl
    | cons p r =>
      exact absurd ((ac_mem hS).mp (by rw [q]; exact List.mem_cons_self)) (h p.1 p.2)
theorem unc_fc (hS : ∀ a, 1 ≤ g.S a) : fc g L = none ↔ Unc g L := by
  rw [fc_eq hS, ← unc_ac hS]
  cases ac g L with
  | nil => simp
  | cons p r => simp
theorem fc_vld (hS : ∀ a, 1 ≤ g.S a) (h : fc g L = some (a, n)) : Vld g a n L := by
  rw [fc_eq hS] at h
  exact (ac_mem hS).mp (List.mem_of_mem_head? (by rw [h]; rfl))
theorem split_perm (hS : ∀ a, 1 ≤ g.S a) (h : thru g a n L) : (lowL g a n L ++ highL g a n L).Perm L := by
  have hs := hS a
  have e : highL g a n L = L.filter fun k => !decide (g.P a k + g.S a ≤ n) := by
    unfold highL
    refine List.filter_congr fun k hk => ?_
    rw [Bool.eq_iff_iff]
    rw [decide_eq_true_eq, Bool.not_eq_true', decide_eq_false_iff_not]
    have := h k hk
    omega
  rw [e]
  exact List.filter_append_perm ..
theorem split_len (hS : ∀ a, 1 ≤ g.S a) (h : thru g a n L) : (lowL g a n L).length + (highL g a n L).length = L.length := by
  rw [← List.length_append]
  exact (split_perm hS h).length_eq
theorem pos_len {α : Type} {l : List α} (h : l ≠ []) : 1 ≤ l.length := by
  cases l with
  | nil => exact absurd rfl h
  | cons x l => simp
end
/-! trees -/
inductive Tr (g : Geo) : Lot → List Lot → List (Lot × Bool × Int) → Prop
  | leaf {L : Lot} : fc g L = none → Tr g L [L] []
  | node {L : Lot} {a : Bool} {n : Int} {b1 b2 : List Lot} {s1 s2 : List (Lot × Bool × Int)} : fc g L = some (a, n) → Tr g (lowL g a n L) b1 s1 → Tr g (highL g a n L) b2 s2 → Tr g L (b1 ++ b2) ((L, a, n) :: (s1 ++ s2))
theorem Tr.det {g : Geo} {L : Lot} {b b' : List Lot} {s s' : List (Lot × Bool × Int)} (h : Tr g L b s) (h' : Tr g L b' s') : b = b' ∧ s = s' := by
  induction h generalizing b' s' with
  | leaf e =>
    cases h' with
    | leaf _ => exact ⟨rfl, rfl⟩
    | node e' _ _ => rw [e] at e'; cases e'
  | node e _ _ i1 i2 =>
    cases h' with
    | leaf e' => rw [e] at e'; cases e'
    | node e' t1 t2 =>
      rw [e] at e'
      cases e'
      obtain ⟨r1, r2⟩ := i1 t1
      obtain ⟨r3, r4⟩ := i2 t2
      exact ⟨by rw [r1, r3], by rw [r2, r4]⟩
theorem Tr.count {g : Geo} {L : Lot} {b : List Lot} {s : List (Lot × Bool × Int)} (h : Tr g L b s) : s.length + 1 = b.length := by
  induction h with
  | leaf e => rfl
  | node e _ _ i1 i2 =>
    rw [List.length_cons, List.length_append, List.length_append]
    omega
end Cz

/-! # Lb -/
namespace Cz
open L2 PyProof.Rows PySem.Spec PySem
/-! ## the blocks are the same, whatever is cut first -/
structure Part (g : Geo) (R : Lot) (Bs : List Lot) : Prop where
  perm : Bs.flatten.Perm R
  ne : ∀ B ∈ Bs, B ≠ []
  asc : ∀ B ∈ Bs, B.Pairwise (· < ·)
  cov : ∀ M : Lot, M ≠ [] → (∀ x ∈ M, x ∈ R) → Unc g M → ∃ B ∈ Bs, ∀ x ∈ M, x ∈ B
section
variable {g : Geo} {R B : Lot} {Bs Cs : List Lot} {a : Bool} {n : Int}
theorem Part.one (h1 : R ≠ []) (h2 : R.Pairwise (· < ·)) : Part g R [R] :=
  ⟨by simp, fun B h => by rw [List.mem_singleton.mp h]; exact h1, fun B h => by rw [List.mem_singleton.mp h]; exact h2, fun M _ h _ => ⟨R, List.mem_singleton.mpr rfl, h⟩⟩
theorem Part.of_perm (h : Part g R Bs) (p : Bs.Perm Cs) : Part g R Cs :=
  ⟨(p.flatten.symm).trans h.perm, fun B m => h.ne B (p.mem_iff.mpr m), fun B m => h.asc B (p.mem_iff.mpr m), fun M h1 h2 h3 => by
    obtain ⟨B, m, q⟩ := h.cov M h1 h2 h3
    exact ⟨B, p.mem_iff.mp m, q⟩⟩
theorem Part.split (hS : ∀ a, 1 ≤ g.S a) (h : Part g R (B :: Bs)) (v : Vld g a n B) : Part g R (lowL g a n B :: highL g a n B :: Bs) := by
  obtain ⟨v1, v2, v3⟩ := v
  have hs := hS a
  refine ⟨?_, fun C m => ?_, fun C m => ?_, fun M h1 h2 h3 => ?_⟩
  · have q := h.perm
    rw [List.flatten_cons] at q
    rw [List.flatten_cons, List.flatten_cons, ← List.append_assoc]
    exact ((split_perm hS v1).append_right _).trans q
  · rcases List.mem_cons.mp m with rfl | m
    · exact v2
    rcases List.mem_cons.mp m with rfl | m
    · exact v3
    · exact h.ne C (List.mem_cons_of_mem _ m)
  · rcases List.mem_cons.mp m with rfl | m
    · exact (h.asc B List.mem_cons_self).filter _
    rcases List.mem_cons.mp m with rfl | m
    · exact (h.asc B List.mem_cons_self).filter _
    · exact h.asc C (List.mem_cons_of_mem _ m)
  · obtain ⟨C, m, q⟩ := h.cov M h1 h2 h3
    rcases List.mem_cons.mp m with rfl | m
    · have nv := h3 a n
      have th : thru g a n M := fun k hk => v1 k (q k hk)
      by_cases z : lowL g a n M = []
      · refine ⟨highL g a n C, by simp, fun x hx => high_mem.mpr ⟨q x hx, ?_⟩⟩
        rcases th x hx with w | w
        · have : x ∈ lowL g a n M := low_mem.mpr ⟨hx, w⟩
          rw [z] at this
          cases this
        · exact w
      · refine ⟨lowL g a n C, by simp, fun x hx => low_mem.mpr ⟨q x hx, ?_⟩⟩
        rcases th x hx with w | w
        · exact w
        · exact absurd ⟨th, z, ne_nil.mpr ⟨x, high_mem.mpr ⟨hx, w⟩⟩⟩ nv
    · exact ⟨C, by simp [m], q⟩
theorem ascN_unique : ∀ {xs ys : List Nat}, xs.Pairwise (· < ·) → ys.Pairwise (· < ·) → (∀ k, k ∈ xs ↔ k ∈ ys) → xs = ys
  | [], [], _, _, _ => rfl
  | [], y :: ys, _, _, h => by cases (h y).mpr List.mem_cons_self
  | x :: xs, [], _, _, h => by cases (h x).mp List.mem_cons_self
  | x :: xs, y :: ys, h1, h2, h => by
    (obtain ⟨a1, a2⟩ := List.pairwise_cons.mp h1)
    (obtain ⟨b1, b2⟩ := List.pairwise_cons.mp h2)
    have e : x = y := by
      rcases List.mem_cons.mp ((h x).mp List.mem_cons_self) with e | m1
      · exact e
      rcases List.mem_cons.mp ((h y).mpr List.mem_cons_self) with e | m2
      · exact e.symm
      have := a1 y m2
      have := b1 x m1
      omega
    subst e
    rw [ascN_unique a2 b2 fun k => ?_]
    constructor
    · intro m
      rcases List.mem_cons.mp ((h k).mp (List.mem_cons_of_mem _ m)) with e | m2
      · have := a1 k m
        omega
      · exact m2
    · intro m
      rcases List.mem_cons.mp ((h k).mpr (List.mem_cons_of_mem _ m)) with e | m2
      · have := b1 k m
        omega
      · exact m2
/-- two of them with a common member are one -/
theorem flat_one {α : Type} : ∀ {Bs : List (List α)}, Bs.flatten.Nodup → ∀ {B C : List α} {x : α}, B ∈ Bs → C ∈ Bs → x ∈ B → x ∈ C → B = C
  | [], _, B, C, x, h, _, _, _ => by cases h
  | D :: Bs, hn, B, C, x, h1, h2, h3, h4 => by
    rw [List.flatten_cons, List.nodup_append] at hn
    obtain ⟨n1, n2, n3⟩ := hn
    rcases List.mem_cons.mp h1 with e1 | k1
    · rcases List.mem_cons.mp h2 with e2 | k2
      · rw [e1, e2]
      · rw [e1] at h3
        exact absurd rfl (n3 x h3 x (List.mem_flatten.mpr ⟨C, k2, h4⟩))
    · rcases List.mem_cons.mp h2 with e2 | k2
      · rw [e2] at h4
        exact absurd rfl (n3 x h4 x (List.mem_flatten.mpr ⟨B, k1, h3⟩))
      · exact flat_one n2 k1 k2 h3 h4
theorem flat_nodup {α : Type} : ∀ {Bs : List (List α)}, Bs.flatten.Nodup → (∀ B ∈ Bs, B ≠ []) → Bs.Nodup
  | [], _, _ => List.nodup_nil
  | D :: Bs, hn, h => by
    have hn' := hn
    rw [List.flatten_cons, List.nodup_append] at hn'
    obtain ⟨n1, n2, n3⟩ := hn'
    refine List.nodup_cons.mpr ⟨fun m => ?_, flat_nodup n2 fun B hB => h B (List.mem_cons_of_mem _ hB)⟩
    obtain ⟨x, hx⟩ := ne_nil.mp (h D List.mem_cons_self)
    exact absurd rfl (n3 x hx x (List.mem_flatten.mpr ⟨D, m, hx⟩))
theorem Part.half (hR : R.Nodup) (h : Part g R Bs) (k : Part g R Cs) (u : ∀ B ∈ Bs, Unc g B) (w : ∀ B ∈ Cs, Unc g B) : ∀ B ∈ Bs, B ∈ Cs := by
  intro B m
  have inR : ∀ x ∈ B, x ∈ R := fun x hx => h.perm.mem_iff.mp (List.mem_flatten.mpr ⟨B, m, hx⟩)
  obtain ⟨C, mC, q⟩ := k.cov B (h.ne B m) inR (u B m)
  have inC : ∀ x ∈ C, x ∈ R := fun x hx => k.perm.mem_iff.mp (List.mem_flatten.mpr ⟨C, mC, hx⟩)
  obtain ⟨D, mD, q2⟩ := h.cov C (k.ne C mC) inC (w C mC)
  obtain ⟨x, hx⟩ := ne_nil.mp (h.ne B m)
  have e : B = D := flat_one (h.perm.nodup_iff.mpr hR) m mD hx (q2 x (q x hx))
  subst e
  have e : B = C := ascN_unique (h.asc B m) (k.asc C mC) fun z => ⟨q z, q2 z⟩
  rw [e]
  exact mC
theorem Part.unique (hR : R.Nodup) (h : Part g R Bs) (k : Part g R Cs) (u : ∀ B ∈ Bs, Unc g B) (w : ∀ B ∈ Cs, Unc g B) : Bs.Perm Cs := by
  have n1 := flat_nodup (h.perm.nodup_iff.mpr hR) h.ne
  have n2 := flat_nodup (k.perm.nodup_iff.mpr hR) k.ne
  exact (List.perm_ext_iff_of_nodup n1 n2).mpr fun B => ⟨h.half hR k u w B, k.half hR h w u B⟩
/-- the tree's blocks are such a part -/
theorem Tr.part (hS : ∀ a, 1 ≤ g.S a) {L : Lot} {b : List Lot} {s : List (Lot × Bool × Int)} (t : Tr g L b s) : ∀ {Bs : List Lot}, Part g R (L :: Bs) → Part g R (b ++ Bs) := by
  induction t with
  | leaf e => exact fun h => h
  | node e _ _ i1 i2 =>
    intro Bs h
    have h1 := h.split hS (fc_vld hS e)
    have h2 := i1 h1
    have h3 := i2 (h2.of_perm (List.perm_middle))
    refine h3.of_perm ?_
    rw [← List.append_assoc]
    exact List.perm_append_comm.append_right _
theorem Tr.unc (hS : ∀ a, 1 ≤ g.S a) {L : Lot} {b : List Lot} {s : List (Lot × Bool × Int)} (t : Tr g L b s) : ∀ B ∈ b, Unc g B := by
  induction t with
  | leaf e =>
    intro B m
    rw [List.mem_singleton.mp m]
    exact (unc_fc hS).mp e
  | node e _ _ i1 i2 =>
    intro B m
    rcases List.mem_append.mp m with m | m
    · exact i1 B m
    · exact i2 B m
end
/-! ## moved -/
def Geo.mv (g : Geo) (d : Bool → Int) : Geo := ⟨fun a k => g.P a k + d a, g.S⟩
section
variable {g : Geo} {d : Bool → Int} {a : Bool} {n : Int} {L : Lot}
theorem mv_low : lowL (g.mv d) a (n + d a) L = lowL g a n L := by
  unfold lowL
  refine List.filter_congr fun k _ => ?_
  show decide (g.P a k + d a + g.S a ≤ n + d a) = decide (g.P a k + g.S a ≤ n)
  rw [decide_eq_decide]
  omega
theorem mv_high : highL (g.mv d) a (n + d a) L = highL g a n L := by
  unfold highL
  refine List.filter_congr fun k _ => ?_
  show decide (n + d a ≤ g.P a k + d a) = decide (n ≤ g.P a k)
  rw [decide_eq_decide]
  omega
theorem mv_vld : Vld (g.mv d) a (n + d a) L ↔ Vld g a n L := by
  unfold Vld
  rw [mv_low, mv_high]
  refine and_congr_left fun _ => forall_congr' fun k => forall_congr' fun _ => ?_
  show g.P a k + d a + g.S a ≤ n + d a ∨ n + d a ≤ g.P a k + d a ↔ _
  omega
theorem asc_mv {c : Int} (ns : List Int) : ascI (ns.map (· + c)) = (ascI ns).map (· + c) := by
  refine asc_unique (ascI_lt _) ?_ fun k => ?_
  · rw [List.pairwise_map]
    exact (ascI_lt ns).imp fun h => by omega
  · rw [ascI_mem, List.mem_map, List.mem_map]
    exact exists_congr fun x => by rw [ascI_mem]
theorem mv_fcA : fcA (g.mv d) a L = (fcA g a L).map (· + d a) := by
  unfold fcA
  have e : ends (g.mv d) a L = (ends g a L).map (· + d a) := by
    unfold ends
    rw [List.map_map]
    (refine List.map_congr_left fun k _ => ?_)
    show g.P a k + d a + g.S a = g.P a k + g.S a + d a
    omega
  rw [e, asc_mv, List.find?_map]
  congr 1
  congr 1
  funext n
  show decide (Vld (g.mv d) a (n + d a) L) = _
  rw [decide_eq_decide]
  exact mv_vld
def mvS (d : Bool → Int) (p : Bool × Int) : Bool × Int := (p.1, p.2 + d p.1)
theorem mv_fc : fc (g.mv d) L = (fc g L).map (mvS d) := by
  unfold fc
  rw [mv_fcA, mv_fcA]
  cases fcA g false L with
  | some n => rfl
  | none =>
    cases fcA g true L with
    | some n => rfl
    | none => rfl
theorem Tr.mv {b : List Lot} {s : List (Lot × Bool × Int)} (t : Tr g L b s) : Tr (g.mv d) L b (s.map fun p => (p.1, mvS d p.2)) := by
  induction t with
  | leaf e => exact .leaf (by rw [mv_fc, e]; rfl)
  | node e _ _ i1 i2 =>
    rename_i L a n b1 b2 s1 s2 t1 t2
    have q := Tr.node (g := g.mv d) (L := L) (a := a) (n := n + d a) (b1 := b1) (b2 := b2) (by rw [mv_fc, e]; rfl) (by rw [mv_low]; exact i1) (by rw [mv_high]; exact i2)
    rw [List.map_cons, List.map_append]
    exact q
end
end Cz

/-! # Lc -/
namespace Cz
open L2 PyProof.Rows PySem.Spec PySem
open PySem.W (dataLt alike rowLt)
/-! ## lots as data, sorted -/
def lotI (L : Lot) : List Int := L.map fun (k : Nat) => (k : Int)
def lotL (L : Lot) : List D := L.map fun (k : Nat) => D.int k
def lotD (L : Lot) : D := .tup (lotL L)
def lotP (L : Lot) : PyData := .tuple ((lotI L).map .int)
theorem lotL_py (L : Lot) : toPys (lotL L) = some ((lotI L).map .int) := by
  unfold lotL lotI
  induction L with
  | nil => rfl
  | cons k L ih =>
    simp only [List.map_cons, toPys, toPy]
    rw [ih]
    rfl
theorem lotD_py (L : Lot) : toPy (lotD L) = some (lotP L) := by
  unfold lotD
  simp only [toPy]
  rw [lotL_py]
  rfl
theorem lots_py : ∀ bs : List Lot, toPys (bs.map lotD) = some (bs.map lotP)
  | [] => rfl
  | L :: bs => by
    simp only [List.map_cons, toPys]
    rw [lotD_py, lots_py bs]
    rfl
def leN (x y : Lot) : Bool := leG (lotD x) (lotD y)
theorem leN_eq (x y : Lot) : leN x y = decide (lotI x ≤ lotI y) := by
  unfold leN leG pyD
  rw [lotD_py, lotD_py]
  show (!dataLt (lotP y) (lotP x)) = _
  unfold lotP
  rw [PySem.W.dataLt_tuple]
  show (!rowLt ((lotI y).map .int) ((lotI x).map .int)) = _
  rw [PySem.W.dataLt_ints]
  by_cases h : lotI y < lotI x
  · have h' : ¬ lotI x ≤ lotI y := fun r => List.not_lt.mpr r h
    simp [h, h']
  · have h' : lotI x ≤ lotI y := List.not_lt.mp h
    simp [h, h']
theorem lotI_inj {x y : Lot} (h : lotI x = lotI y) : x = y := by
  unfold lotI at h
  exact (List.map_inj_right fun a b e => by omega).mp h
def srtN (bs : List Lot) : List Lot := bs.mergeSort leN
theorem leN_tr (a b c : Lot) (h : leN a b = true) (k : leN b c = true) : leN a c = true := by
  rw [leN_eq, decide_eq_true_eq] at *
  exact List.le_trans h k
theorem leN_tot (a b : Lot) : (leN a b || leN b a) = true := by
  rw [leN_eq, leN_eq, Bool.or_eq_true, decide_eq_true_eq, decide_eq_true_eq]
  exact List.le_total _ _
theorem srtN_perm (bs : List Lot) : (srtN bs).Perm bs := List.mergeSort_perm _ _
theorem srtN_same {bs cs : List Lot} (p : bs.Perm cs) : srtN bs = srtN cs := by
  have h1 := List.pairwise_mergeSort (le := leN) leN_tr leN_tot bs
  have h2 := List.pairwise_mergeSort (le := leN) leN_tr leN_tot cs
  refine List.Perm.eq_of_pairwise (le := fun a b => leN a b = true) (fun a b _ _ x y => ?_) h1 h2 ((srtN_perm bs).trans (p.trans (srtN_perm cs).symm))
  rw [leN_eq, decide_eq_true_eq] at x y
  exact lotI_inj (List.le_antisymm x y)
theorem alike_lots (x y : Lot) : alike (lotP x) (lotP y) = true := by
  unfold lotP
  rw [alike]
  exact PySem.W.alike_ints _ _
theorem depth_lot (x : Lot) : (lotP x).depth ≤ 60 := by
  unfold lotP
  rw [PyData.depth, dep_ints]
  decide
theorem sort_lots {bs : List Lot} (h : ∀ B ∈ bs, B ≠ []) (hl : bs.length ≤ 1000) : sortG (.lst (bs.map lotD)) = some (.o (.lst ((srtN bs).map lotD))) := by
  have e1 : (bs.map lotD).mergeSort leG = (srtN bs).map lotD := (List.map_mergeSort (r := leN) (s := leG) (f := lotD) (fun a _ b _ => rfl)).symm
  show (toPys (bs.map lotD)).bind _ = _
  rw [lots_py, Option.bind_some, if_pos ?_, e1]
  unfold sortOk
  rw [Bool.and_eq_true, List.all_eq_true, decide_eq_true_eq, List.length_map]
  refine ⟨fun p hp => ?_, by omega⟩
  obtain ⟨B, m, rfl⟩ := List.mem_map.mp hp
  rw [Bool.and_eq_true, Bool.and_eq_true, decide_eq_true_eq, List.all_eq_true]
  refine ⟨⟨?_, depth_lot B⟩, fun q hq => ?_⟩
  · cases B with
    | nil => exact absurd rfl (h _ m)
    | cons k B => rfl
  · obtain ⟨C, _, rfl⟩ := List.mem_map.mp hq
    exact alike_lots B C
/-! ## == and in of rows of lots -/
theorem lay_ints : ∀ ns : List Int, PyData.canLayAll0 (ns.map .int) = true
  | [] => (by simp [PyData.canLayAll0])
  | n :: r => by
    rw [List.map_cons, PyData.canLayAll0, lay_ints r]
    simp [PyData.canLay0]
theorem lay_lots : ∀ bs : List Lot, PyData.canLayAll0 (bs.map lotP) = true ∧ PyData.depthAll (bs.map lotP) ≤ 1
  | [] => by simp [PyData.canLayAll0, PyData.depthAll]
  | B :: bs => by
    obtain ⟨h1, h2⟩ := lay_lots bs
    rw [List.map_cons, PyData.canLayAll0, h1]
    refine ⟨?_, ?_⟩
    · unfold lotP
      simp only [PyData.canLay0, lay_ints, Bool.and_true]
    · rw [PyData.depthAll]
      have : (lotP B).depth = 1 := by
        unfold lotP
        rw [PyData.depth, dep_ints]
      omega
theorem cmpb_lot (L : Lot) : cmpb (lotD L) = true := by
  unfold cmpb
  rw [lotD_py]
  show SeqAt.shaped (lotP L) = true
  unfold SeqAt.shaped lotP
  rw [Bool.and_eq_true]
  refine ⟨by simp only [PyData.canLay0]; exact lay_ints _, decide_eq_true ?_⟩
  rw [PyData.depth, dep_ints]
  decide
theorem cmpb_lots (bs : List Lot) : cmpb (.tup (bs.map lotD)) = true := by
  obtain ⟨h1, h2⟩ := lay_lots bs
  unfold cmpb
  simp only [toPy]
  rw [lots_py]
  show SeqAt.shaped (.tuple (bs.map lotP)) = true
  unfold SeqAt.shaped
  rw [Bool.and_eq_true]
  refine ⟨by simp only [PyData.canLay0]; exact h1, decide_eq_true ?_⟩
  simp only [PyData.depth]
  omega
theorem deqs_lot : ∀ l : Lot, deqs (lotL l) (lotL l) = true
  | [] => rfl
  | k :: l => by
    show (deq (.int k) (.int k) && deqs (lotL l) (lotL l)) = true
    rw [deqs_lot l]
    show (((k : Int) == (k : Int)) && true) = true
    simp
theorem deqs_lots : ∀ bs : List Lot, deqs (bs.map lotD) (bs.map lotD) = true
  | [] => rfl
  | B :: bs => by
    show (deqs (lotL B) (lotL B) && deqs (bs.map lotD) (bs.map lotD)) = true
    rw [deqs_lot, deqs_lots bs]
    rfl
theorem ne_lots (bs : List Lot) : neD (.tup (bs.map lotD)) (.tup (bs.map lotD)) = some (.d (.bl false)) := by
  unfold neD eqB
  show (if cmpb (.tup (bs.map lotD)) && cmpb (.tup (bs.map lotD)) then some (deqs (bs.map lotD) (bs.map lotD)) else none).map _ = _
  rw [cmpb_lots, deqs_lots]
  rfl
/-- () in a pair of lots -/
theorem nil_in (x y : Lot) : notInD (.tup []) (.tup [lotD x, lotD y]) = some (.d (.bl !(x.isEmpty || y.isEmpty))) := by
  have c0 : cmpb (.tup []) = true := cmpb_lot []
  have c1 : cmpb (.tup [lotD x, lotD y]) = true := cmpb_lots [x, y]
  have e : ∀ L : Lot, deq (lotD L) (.tup []) = L.isEmpty := fun L => by cases L <;> rfl
  unfold notInD inB
  simp only [seqD, c0, c1, Bool.and_self, if_true, List.any_cons, List.any_nil, e, Bool.or_false]
  rfl
end Cz

/-! # Ba73 -/
namespace Cz
open L2 PyProof.Rows PySem.Spec PySem
/-! what many laws share: the bag, lists, isinstance, plain, same -/
section
variable {i : Int} {x : Str} {l : List D} {b : Bool}
theorem y_lt1 : isiB tab_lt (.int i) = some false := by first | rfl | decide +kernel
theorem y_lt2 : isiB tab_lt (.str x) = some false := by first | rfl | decide +kernel
theorem y_lt3 : isiB tab_lt (.tup l) = some true := by first | rfl | decide +kernel
theorem y_lt4 : isiB tab_lt (.lst l) = some true := by first | rfl | decide +kernel
theorem y_lt5 : isiB tab_lt (.tuk l) = some true := by first | rfl | decide +kernel
theorem y_tu1 : isiB tab_tuple (.int i) = some false := by first | rfl | decide +kernel
theorem y_tu2 : isiB tab_tuple (.str x) = some false := by first | rfl | decide +kernel
theorem y_tu3 : isiB tab_tuple (.tup l) = some true := by first | rfl | decide +kernel
theorem y_tu4 : isiB tab_tuple (.lst l) = some false := by first | rfl | decide +kernel
theorem y_tu5 : isiB tab_tuple (.tuk l) = some true := by first | rfl | decide +kernel
theorem y_st1 : isiB tab_str (.int i) = some false := by first | rfl | decide +kernel
theorem y_st2 : isiB tab_str (.str x) = some true := by first | rfl | decide +kernel
theorem y_in1 : isiB tab_int (.int i) = some true := by first | rfl | decide +kernel
theorem y_bo1 : isiB tab_bool (.int i) = some false := by first | rfl | decide +kernel
theorem y_lt6 : isiB tab_lt (.bl b) = some false := by first | rfl | decide +kernel
theorem y_bo2 : isiB tab_bool (.bl b) = some true := by first | rfl | decide +kernel
theorem y_st3 : isiB tab_str (.bl b) = some false := by first | rfl | decide +kernel
theorem y_tu6 : isiB tab_tuple (.bl b) = some false := by first | rfl | decide +kernel
theorem y_tu7 : isiB tab_tuple .non = some false := by first | rfl | decide +kernel
theorem y_in2 : isiB tab_int (.bl b) = some true := by first | rfl | decide +kernel
theorem y_tu8 : isiB tab_tuple (.rol l) = some false := by first | rfl | decide +kernel
end
theorem e_mem1 {a : Addr} : a ∈ [a] ↔ True := by simp
theorem e_tul0 {l : List D} : tupL (.tuk l) = some l := rfl
theorem e_eqI {a b : Int} : eqD (.int a) (.int b) = some (.d (.bl (decide (a = b)))) := rfl
theorem e_neI {a b : Int} : neD (.int a) (.int b) = some (.d (.bl (!decide (a = b)))) := rfl
theorem e_eqS {x y : Str} : eqD (.str x) (.str y) = some (.d (.bl (decide (x = y)))) := rfl
theorem e_neS {x y : Str} : neD (.str x) (.str y) = some (.d (.bl (!decide (x = y)))) := rfl
theorem e_ntd {p : Prop} [Decidable p] : ((!decide p) = true) = ¬ p := by simp
theorem e_gnT {i : Nat} {d : D} {s : SS} (h : feS (s[i]?) = true) : mgName i d s = some (s.set i (some (.fz d))) := e_gn.trans (if_pos h)
theorem ex_bl {p : Bool} {P : Bool → Prop} : (∃ c, some (Rv.d (.bl p)) = some (.d (.bl c)) ∧ P c) ↔ P p := ⟨fun ⟨c, h, q⟩ => by cases h; exact q, fun q => ⟨p, rfl, q⟩⟩
theorem e_is1 {p q : Bool} : isD (.bl p) (.bl q) = some (.d (.bl (decide (p = q)))) := by cases p <;> cases q <;> rfl
theorem e_is2 {l : List D} {q : Bool} : isD (.tup l) (.bl q) = some (.d (.bl false)) := rfl
theorem e_isn1 {p q : Bool} : isNotD (.bl p) (.bl q) = some (.d (.bl (!decide (p = q)))) := by cases p <;> cases q <;> rfl
theorem e_isn2 {l : List D} {q : Bool} : isNotD (.tup l) (.bl q) = some (.d (.bl true)) := rfl
theorem e_is3 : isD .non .non = some (.d (.bl true)) := rfl
theorem e_is4 {l : List D} : isD (.tup l) .non = some (.d (.bl false)) := rfl
theorem e_isn3 {l : List D} : isNotD (.tup l) .non = some (.d (.bl true)) := rfl
theorem e_isn4 : isNotD .non .non = some (.d (.bl false)) := rfl
theorem e_isn6 {b : Bool} : isD (.bl b) .non = some (.d (.bl false)) := rfl
theorem e_isn5 {b : Bool} : isD .non (.bl b) = some (.d (.bl false)) := rfl
theorem e_is5 {x : Str} : isD (.str x) .non = some (.d (.bl false)) := rfl
theorem e_is6 {x : Str} {b : Bool} : isD (.str x) (.bl b) = some (.d (.bl false)) := rfl
theorem e_is7 {i : Int} {b : Bool} : isD (.int i) (.bl b) = some (.d (.bl false)) := rfl
theorem e_is8 {i : Int} : isD (.int i) .non = some (.d (.bl false)) := rfl
theorem enum_ln {l : List D} : (pairsD (nums l.length) l).length = l.length := by
  unfold pairsD nums
  simp
theorem enum_at {l : List D} {j : Nat} (h : j < l.length) : ∃ hj : j < (pairsD (nums l.length) l).length, (pairsD (nums l.length) l)[j] = .tup [.int (j : Nat), l[j]] := by
  have hj : j < (pairsD (nums l.length) l).length := by
    unfold pairsD nums
    simp
    exact h
  refine ⟨hj, ?_⟩
  simp only [pairsD, nums, List.getElem_map, List.getElem_zip, List.getElem_range]
theorem enum_cons {l : List D} {d : D} {ds : List D} {j : Nat} (h : d :: ds = (pairsD (nums l.length) l).drop j) : ∃ hj : j < l.length, d = .tup [.int (j : Nat), l[j]] ∧ ds = (pairsD (nums l.length) l).drop (j + 1) := by
  have hj : j < l.length := by
    refine Nat.lt_of_not_le fun z => ?_
    rw [List.drop_eq_nil_of_le (by rw [enum_ln]; exact z)] at h
    cases h
  obtain ⟨h2, e⟩ := enum_at hj
  rw [List.drop_eq_getElem_cons h2, e] at h
  obtain ⟨rfl, rfl⟩ := List.cons.inj h
  exact ⟨hj, rfl, rfl⟩
theorem pop_in {l : List D} {k : Int} (h0 : 0 ≤ k) (h1 : k < (l.length : Nat)) (hl : l.length ≤ 100000) : ∃ (j : Nat) (h : j < l.length), popF [.int k] l = some (l[j], l.eraseIdx j) := by
  obtain ⟨j, rfl⟩ : ∃ j : Nat, k = (j : Int) := ⟨k.toNat, by omega⟩
  have hj : j < l.length := by omega
  refine ⟨j, hj, ?_⟩
  have e : seqIndex? (j : Int) l.length = some j := by
    unfold seqIndex?
    simp
    omega
  unfold popF
  split
  · rename_i z
    cases z
  · rename_i i m z
    cases z
    rw [if_pos (by omega), e, Option.bind_some, List.getElem?_eq_getElem hj]
    rfl
  · rename_i z1 z2
    exact absurd rfl (z2 _ )
theorem erase_perm {α : Type} {l : List α} {j : Nat} (hj : j < l.length) : (l[j] :: l.eraseIdx j).Perm l := by
  rw [List.eraseIdx_eq_take_drop_succ]
  refine List.perm_middle.symm.trans ?_
  rw [← List.drop_eq_getElem_cons hj, List.take_append_drop]
theorem cut_to {α : Type} {l : List α} {k : Int} (h : 0 ≤ k) : cutL l none (some k) = l.take k.toNat := by
  have e1 : HT.sIx l.length 0 none = 0 := rfl
  have e2 : HT.sIx l.length l.length (some k) = min k.toNat l.length := if_neg (show ¬ k < 0 by omega)
  unfold cutL
  rw [e1, e2, List.drop_zero, Nat.sub_zero]
  by_cases q : k.toNat ≤ l.length
  · rw [Nat.min_eq_left q]
  · rw [Nat.min_eq_right (by omega), List.take_length, List.take_of_length_le (by omega)]
def lsOf : D → Option (List D)
  | .tup l => some l
  | .lst l => some l
  | .tuk l => some l
  | _ => none
def plF (mk : List D → D) : Nat → D → D
  | 0, d => d
  | n + 1, d => match lsOf d with
    | some l => mk (l.map (plF mk n))
    | none => d
inductive PlOk : Nat → D → Prop where
  | int {n : Nat} {i : Int} : PlOk (n + 1) (.int i)
  | str {n : Nat} {x : Str} : PlOk (n + 1) (.str x)
  | bl {n : Nat} {b : Bool} : PlOk (n + 1) (.bl b)
  | tup {n : Nat} {l : List D} : l.length ≤ 1000 → (∀ d ∈ l, PlOk n d) → PlOk (n + 1) (.tup l)
  | lst {n : Nat} {l : List D} : l.length ≤ 1000 → (∀ d ∈ l, PlOk n d) → PlOk (n + 1) (.lst l)
  | tuk {n : Nat} {l : List D} : l.length ≤ 1000 → (∀ d ∈ l, PlOk n d) → PlOk (n + 1) (.tuk l)
inductive SmOk : Nat → D → Prop where
  | int {n : Nat} {i : Int} : SmOk (n + 1) (.int i)
  | str {n : Nat} {x : Str} : SmOk (n + 1) (.str x)
  | non {n : Nat} : SmOk (n + 1) .non
  | bl {n : Nat} {b : Bool} : SmOk (n + 1) (.bl b)
  | tup {n : Nat} {l : List D} : l.length ≤ 1000 → (∀ d ∈ l, SmOk n d) → SmOk (n + 1) (.tup l)
local macro_rules
  | `(tactic| simp_all only [$xs,*]) => `(tactic| simp (config := {decide := true}) only [mIfS, mRet, mAsg, mSetL, mNext, mDrop, mRetN, Oo.seq, Oo.out, Oo.ite, Oo.opt, Oo.nx, Oo.rt, Oo.bk, Oo.ct, Oo.no, Ok1.bind, Ok1.ok, Ok1.ite, Ok1.opt, e_var, e_rd1, e_rd2, e_rd3, e_c, e_pk1, e_pk2, e_pk3, e_pk4, e_pk5, e_pk6, e_nr1, e_nr2, e_nr3, e_fr1, e_fr2, e_fr3, e_fr4, e_fr5, e_fz1, e_fz2, e_fz3, e_fz4, e_ow, e_ow1, e_ow2, e_ls, e_ls1, e_ls2, e_pt1, e_pt2, e_fe, e_fe1, e_fe2, e_fe3,
    k_op, k_un, k_cb1, k_o1, k_o2, k_tr, k_and, k_or, k_not, k_andV, k_orV, k_notV, k_if, k_nil, k_cons, k_ref, k_tup, k_lst, e_al1, e_al2, e_mp, e_bd, k_cb, k_call, k_lm, k_yes, k_np, k_pt, k_sl, e_io, e_add1, e_add2, e_add3, e_sub, e_mul, mulOk_r, mulOk_l, e_fdiv, e_mod, e_pow, e_neg, e_lt, e_le, e_gt, e_ge, e_ltS, e_ix1, e_ix2, e_ix3, e_ix4, e_ix5, e_len1, e_len2, e_len3, e_len4, e_len5, e_bl, e_int1, e_abs, e_lst1, e_lst2, e_lst3, e_lst4, e_tup1, e_tup2, e_tup3, e_app, e_ext, e_at0, e_at1, e_at2, e_at3, e_in0, e_in1, e_in2, ex_some, k_items, k_rng1, k_rngE, e_i1, e_inr, e_ea1, e_ea2, e_ea3, e_ea4, Int.toNat_natCast, e_it1, e_it2, e_it3, e_it4, e_en1, e_en2, k_for, e_es1, e_es2, e_es3, e_nb1, e_nb2, e_rdd,
    k_callS, e_nq1, e_nq2, e_sv1, e_sv2, e_rf1, e_rf2, e_rf3, g_as1, g_as2, g_as3, g_as4, g_as5, g_as6, g_b1, g_b2, g_b3, g_b4, g_b5, g_b6, k_make, k_fld, e_fld, k_setA, e_ob1, e_pa1, e_pa2, k_asgG, e_gn, e_gnil, e_gcons, e_gtup, e_gtuk, e_gany1, e_gany2, e_gany3, k_dput, e_opk, e_opt, e_kt, e_kk1, e_kk2, e_ks1, e_ks2, e_dg1, e_dg2, e_ixk, e_din, e_dno, k_dnT, k_dnK, k_get2, e_dd1, e_dd2, e_pm1, e_pm2, k_disp, k_og, e_iob, k_oi, k_index, k_isi, k_chain, k_keys, e_fzs, k_forD, e_lo1, e_lo2, e_lb1, e_lb2, e_wi1, e_wi2, e_re1, e_re2, e_gd,
    decide_eq_true_eq, true_and, and_true, List.getElem?_cons_zero, List.getElem?_cons_succ, List.set_cons_zero, List.set_cons_succ, List.map_cons, List.map_nil, List.length_cons, List.length_nil, List.replicate_succ, List.replicate_zero, List.cons_append, List.nil_append, List.append_nil, if_true, if_false, k_ol, k_ob, k_oit, e_oit, e_tpl, k_par, e_st1, e_st2, k_star, e_sq1, e_sq2, k_tupRg, e_min2, e_max2, e_minL, e_maxL, e_tul0, e_mem1, e_eqI, e_neI, e_eqS, e_neS, e_ntd, y_lt1, y_lt2, y_lt3, y_lt4, y_lt5, y_lt6, y_tu1, y_tu2, y_tu3, y_tu4, y_tu5, y_st1, y_st2, y_in1, y_bo1, y_bo2, y_st3, y_tu6, y_tu7, y_in2, y_tu8, ex_bl, e_is1, e_is2, e_isn1, e_isn2, e_is3, e_is4, e_is5, e_is6, e_is7, e_is8, e_isn3, e_isn4, e_isn5, e_isn6, Option.map_none, Bool.not_true, Bool.not_false, Bool.false_eq_true, Bool.true_eq_false, Bool.not_eq_true', decide_eq_false_iff_not, k_meth, e_mth, Option.bind_some, $xs,*])
variable {A : Ad}
/-- a bag: what is left of the number, the state, the count -/
def bagD (b : Int × Int × Int) : List D := [.int b.1, .int b.2.1, .int b.2.2]

theorem pick_ok {b : Int × Int × Int} {n : Int} (hn : 1 ≤ n) (hs : n < 1073741824) : OkF (f_l_pick A) [.br (.lst (bagD b)), .fz (.int n)] fun r as' => ∃ (k : Int) (g : Int × Int × Int), r = .d (.int k) ∧ as' = [.br (.lst (bagD g)), .fz (.int n)] ∧ 0 ≤ k ∧ k < n := by
  obtain ⟨a, b, c⟩ := b
  have h0 : 0 < n := by omega
  refine OkF.run rfl ?_
  unfold m_l_pick bagD
  simp_all only [h0, hs, and_self]
  split
  · exact ⟨0, (a, b, c), rfl, rfl, by omega, by omega⟩
  · split
    · exact ⟨_, (_, _, _), rfl, rfl, Int.emod_nonneg _ (by omega), Int.emod_lt_of_pos _ h0⟩
    · exact ⟨_, (_, _, _), rfl, rfl, Int.emod_nonneg _ (by omega), Int.emod_lt_of_pos _ h0⟩
theorem one_of_ok {b : Int × Int × Int} {d : D} {l : List D} (hd : seqD d = some l) (h1 : 1 ≤ l.length) (h2 : l.length ≤ 100000) : OkF (f_l_one_of A) [.br (.lst (bagD b)), .fz d] fun r as' => ∃ (e : D) (g : Int × Int × Int), r = .d e ∧ as' = [.br (.lst (bagD g)), .fz d] ∧ e ∈ l := by
  refine OkF.run rfl ?_
  unfold m_l_one_of
  simp_all only [len_seq hd]
  refine OkF.use (pick_ok (by omega) (by omega)) ?_
  rintro r as' - ⟨k, g, rfl, rfl, k0, k1⟩
  obtain ⟨e, e1, e2⟩ := at_in k0 k1
  simp_all only [ix_seqD hd, e2]
  exact ⟨e, g, rfl, rfl, e1⟩
theorem bag_of_ok {ns : List Int} {j : Nat} : OkF (f_l_bag_of A) [.fz (.rol (ns.map .int)), .fz (.int (j : Nat))] fun r as' => ∃ g : Int × Int × Int, r = .o (.lst (bagD g)) ∧ as' = [.fz (.rol (ns.map .int)), .fz (.int (j : Nat))] := by
  refine OkF.run rfl ?_
  unfold m_l_bag_of
  refine Oo.cut (fun s => ∃ t : Int, s = [some (.fz (.rol (ns.map .int))), some (.fz (.int (j : Nat))), some (.fz (.int t)), none, none, none, none]) ?_ ?_
  · simp_all only [true_and]
    exact ⟨_, rfl⟩
  rintro s ⟨t, rfl⟩
  refine Oo.cut (fun s => ∃ (t : Int) (z3 z4 : Option SV), s = [some (.fz (.rol (ns.map .int))), some (.fz (.int (j : Nat))), some (.fz (.int t)), z3, z4, none, none] ∧ feS (some z3) = true ∧ feS (some z4) = true) ?_ ?_
  · simp_all only [true_and]
    refine Oo.loop (fun ds s => (∀ d ∈ ds, ∃ x y, d = D.tup [.int x, .int y]) ∧ ∃ (t : Int) (z3 z4 : Option SV), s = [some (.fz (.rol (ns.map .int))), some (.fz (.int (j : Nat))), some (.fz (.int t)), z3, z4, none, none] ∧ feS (some z3) = true ∧ feS (some z4) = true) ?_ ?_ _ _ ⟨?_, _, none, none, rfl, rfl, rfl⟩
    · rintro s ⟨_, h⟩
      exact h
    · rintro d ds s ⟨hd, t, z3, z4, rfl, f3, f4⟩
      obtain ⟨x, y, rfl⟩ := hd d List.mem_cons_self
      refine ⟨_, e_g2 f3 (by simpa using f4), ?_⟩
      simp_all only [true_and]
      split
      · exact ⟨fun d h => hd d (List.mem_cons_of_mem _ h), _, _, _, rfl, rfl, rfl⟩
      · exact ⟨fun d h => hd d (List.mem_cons_of_mem _ h), _, _, _, rfl, rfl, rfl⟩
    · intro d hd
      obtain ⟨x, y, rfl, hx, hy⟩ := pairs_in hd
      obtain ⟨i, _, rfl⟩ := nums_in hx
      obtain ⟨k, rfl⟩ := ints_in hy
      exact ⟨_, _, rfl⟩
  rintro s ⟨t, z3, z4, rfl, f3, f4⟩
  refine Oo.cut (fun s => ∃ c : Int, s = [some (.fz (.rol (ns.map .int))), some (.fz (.int (j : Nat))), some (.fz (.int t)), z3, some (.fz (.int c)), none, none]) ?_ ?_
  · simp_all only [f3, f4]
    split
    · rename_i h
      have h' : j < ns.length := by simpa using h
      have hat : atI (ns.map D.int) (j : Int) = some (.int ns[j]) := atI_nat (by rw [List.getElem?_map, List.getElem?_eq_getElem h']; rfl)
      simp_all only [hat, f3, f4]
      exact ⟨_, rfl⟩
    · exact ⟨_, rfl⟩
  rintro s ⟨c, rfl⟩
  refine Oo.cut (fun s => ∃ z : Int, s = [some (.fz (.rol (ns.map .int))), some (.fz (.int (j : Nat))), some (.fz (.int t)), z3, some (.fz (.int c)), some (.fz (.int z)), none]) ?_ ?_
  · simp_all only [true_and]
    split
    · exact ⟨_, rfl⟩
    · exact ⟨_, rfl⟩
  rintro s ⟨z, rfl⟩
  refine Oo.cut (fun s => ∃ (z : Int) (z3 : Option SV), s = [some (.fz (.rol (ns.map .int))), some (.fz (.int (j : Nat))), some (.fz (.int t)), z3, some (.fz (.int c)), some (.fz (.int z)), none] ∧ feS (some z3) = true) ?_ ?_
  · simp_all only [true_and]
    refine Oo.loop (fun ds s => (∀ d ∈ ds, ∃ x, d = D.int x) ∧ ∃ (z : Int) (z3 : Option SV), s = [some (.fz (.rol (ns.map .int))), some (.fz (.int (j : Nat))), some (.fz (.int t)), z3, some (.fz (.int c)), some (.fz (.int z)), none] ∧ feS (some z3) = true) ?_ ?_ _ _ ⟨?_, _, _, rfl, f3⟩
    · rintro s ⟨_, h⟩
      exact h
    · rintro d ds s ⟨hd, z, z3, rfl, f3⟩
      obtain ⟨x, rfl⟩ := hd d List.mem_cons_self
      refine ⟨_, e_g1 f3, ?_⟩
      simp_all only [true_and]
      exact ⟨fun d h => hd d (List.mem_cons_of_mem _ h), _, _, rfl, rfl⟩
    · intro d hd
      obtain ⟨i, _, rfl⟩ := upTo_in hd
      exact ⟨_, rfl⟩
  rintro s ⟨z, z3, rfl, f3⟩
  refine Oo.cut (fun s => ∃ q : Int, s = [some (.fz (.rol (ns.map .int))), some (.fz (.int (j : Nat))), some (.fz (.int t)), z3, some (.fz (.int c)), some (.fz (.int z)), some (.fz (.int q))]) ?_ ?_
  · simp_all only [true_and]
    repeat' split
    all_goals exact ⟨_, rfl⟩
  rintro s ⟨q, rfl⟩
  simp_all only [true_and]
  exact ⟨(q, z, 0), rfl⟩
theorem mixed_ok {b : Int × Int × Int} {d : D} {l : List D} (hd : seqD d = some l) (h2 : l.length ≤ 1000) : OkF (f_l_mixed_of A) [.br (.lst (bagD b)), .fz d] fun r as' => ∃ (m : List D) (g : Int × Int × Int), r = .o (.lst m) ∧ as' = [.br (.lst (bagD g)), .fz d] ∧ m.Perm l := by
  refine OkF.run rfl ?_
  unfold m_l_mixed_of
  refine Oo.cut (fun s => s = [some (.br (.lst (bagD b))), some (.fz d), some (.ow (.lst l)), none, none]) ?_ ?_
  · simp_all only [lst_seq hd]
  rintro s rfl
  refine Oo.cut (fun s => s = [some (.br (.lst (bagD b))), some (.fz d), some (.ow (.lst l)), some (.ow (.lst [])), none]) ?_ ?_
  · simp_all only [true_and]
  rintro s rfl
  refine Oo.cut (fun s => ∃ (m : List D) (g : Int × Int × Int) (z : Option SV), s = [some (.br (.lst (bagD g))), some (.fz d), some (.ow (.lst [])), some (.ow (.lst m)), z] ∧ m.Perm l) ?_ ?_
  · simp_all only [len_seq hd, e_inrN (n := l.length) (by omega)]
    refine Oo.loop (fun ds s => ∃ (rest m : List D) (g : Int × Int × Int) (z : Option SV), s = [some (.br (.lst (bagD g))), some (.fz d), some (.ow (.lst rest)), some (.ow (.lst m)), z] ∧ feS (some z) = true ∧ rest.length = ds.length ∧ (m ++ rest).Perm l) ?_ ?_ _ _ ⟨l, [], b, none, rfl, rfl, by simp [upTo], List.Perm.refl _⟩
    · rintro s ⟨rest, m, g, z, rfl, _, h1, h3⟩
      have e : rest = [] := List.eq_nil_of_length_eq_zero h1
      subst e
      rw [List.append_nil] at h3
      exact ⟨m, g, z, rfl, h3⟩
    · rintro e ds s ⟨rest, m, g, z, rfl, hz, h1, h3⟩
      have h1' : rest.length = ds.length + 1 := h1
      have hp := h3.length_eq
      rw [List.length_append] at hp
      refine ⟨_, (e_gn.trans (if_pos hz)), ?_⟩
      simp_all only [true_and]
      refine OkF.use (pick_ok (n := (rest.length : Nat)) (by omega) (by omega)) ?_
      rintro r as' - ⟨k, g', rfl, rfl, k0, k1⟩
      obtain ⟨j, hj, ep⟩ := pop_in k0 k1 (by omega)
      simp_all only [ep, show m.length < 100000 by omega]
      refine ⟨rest.eraseIdx j, m ++ [rest[j]], g', _, rfl, rfl, ?_, ?_⟩
      · rw [List.length_eraseIdx_of_lt hj]
        omega
      · rw [List.append_assoc]
        exact (List.Perm.append_left m (erase_perm hj)).trans h3
  rintro s ⟨m, g, z, rfl, hm⟩
  simp_all only [true_and]
  exact ⟨m, g, rfl, rfl, hm⟩
theorem plain_ok : ∀ (n : Nat) (d : D), PlOk n d → OkF (fr_plain_g A n) [.fz d] fun r as' => r = .d (plF .tup n d) ∧ as' = [.fz d]
  | 0, d, h => by cases h
  | n + 1, d, h => by
    show OkF (runN 1 2 (m_plain_g A (fr_plain_g A n))) _ _
    refine OkF.run rfl ?_
    unfold m_plain_g
    have go : ∀ l : List D, l.length ≤ 1000 → (∀ d ∈ l, PlOk n d) → lsOf d = some l → itemsD d = some l → isiB tab_lt d = some true → Oo (mSeq (mIfS (mTr blD (mIsi tab_lt (mVar 0))) (mRet (mCB1 tupD (mLc (mItems (mVar 0)) (mgName 1) mYes (mCall (fr_plain_g A n) [] (mACons (mVar 1) mANil)) [1]))) mNext) (mRet (mVar 0)) ([some (.fz d), none])) (fun s => ∃ as', endS [.fz d] s = some as' ∧ Rv.d .non = .d (plF .tup (n + 1) d) ∧ as' = [.fz d]) (fun r s => ∃ as', endS [.fz d] s = some as' ∧ (∀ i, r ≠ .b i) ∧ r = .d (plF .tup (n + 1) d) ∧ as' = [.fz d]) (fun _ => False) (fun _ => False) := by
      intro l hl hs hl2 hi ht
      simp_all only [ht]
      refine Ok1.lcM (plF .tup n) ?_
      simp_all only [hi]
      refine ⟨by omega, fun e he => ?_, ?_⟩
      · refine OkF.use (plain_ok n e (hs e he)) ?_
        rintro r as' - ⟨rfl, rfl⟩
        simp_all only [true_and]
      · simp only [plF, hl2]
    cases h with
    | int => simp_all only [plF]; rfl
    | str => simp_all only [plF]; rfl
    | bl => simp_all only [plF]; rfl
    | tup h1 h2 => exact go _ h1 h2 rfl rfl y_lt3
    | lst h1 h2 => exact go _ h1 h2 rfl rfl y_lt4
    | tuk h1 h2 => exact go _ h1 h2 rfl rfl y_lt5
theorem isint_ok {i : Int} : OkF (f_l_is_int A) [.fz (.int i)] fun r as' => r = .d (.bl true) ∧ as' = [.fz (.int i)] := by
  refine OkF.run rfl ?_
  unfold m_l_is_int
  simp_all only [true_and]
theorem same_ok : ∀ (n : Nat) (d : D), SmOk n d → OkF (fr_l_same A n) [.fz d, .fz d] fun r as' => r = .d (.bl true) ∧ as' = [.fz d, .fz d]
  | 0, d, h => by cases h
  | n + 1, d, h => by
    show OkF (runN 2 3 (m_l_same A (fr_l_same A n))) _ _
    refine OkF.run rfl ?_
    unfold m_l_same
    cases h with
    | int =>
      simp_all only [true_and]
      refine OkF.use isint_ok ?_
      rintro r as' - ⟨rfl, rfl⟩
      simp_all only [true_and]
      rfl
    | str =>
      simp_all only [true_and]
      rfl
    | non =>
      simp_all only [true_and]
    | bl =>
      rename_i b
      cases b <;> simp_all only [true_and]
      all_goals rfl
    | tup h1 h2 =>
      rename_i l
      simp_all only [true_and]
      refine Ok1.lcP (fun _ => false) id ?_
      simp_all only [e_inrN (n := l.length) (by omega)]
      refine ⟨by simp [upTo]; omega, fun e he => ?_, ?_⟩
      · obtain ⟨i, hi, rfl⟩ := upTo_in he
        have ei : atI l (i : Int) = some l[i] := atI_nat (List.getElem?_eq_getElem hi)
        refine ⟨_, e_gnT rfl, ?_⟩
        simp_all only [ei]
        refine OkF.use (same_ok n l[i] (h2 _ (List.getElem_mem hi))) ?_
        rintro r as' - ⟨rfl, rfl⟩
        simp_all only [true_and]
      · have ef : ∀ ds : List D, (ds.filter fun _ => false).map id = [] := fun ds => by simp
        simp_all only [ef]
        rfl
theorem bagI {ns : List Int} {j : Int} (h : 0 ≤ j) : OkF (f_l_bag_of A) [.fz (.rol (ns.map .int)), .fz (.int j)] fun r as' => ∃ g : Int × Int × Int, r = .o (.lst (bagD g)) ∧ as' = [.fz (.rol (ns.map .int)), .fz (.int j)] := by
  obtain ⟨n, rfl⟩ := Int.eq_ofNat_of_zero_le h
  exact bag_of_ok
end Cz

/-! # LA -/
namespace Cz
open L2 PyProof.Rows PySem.Spec PySem
/-! ## the layout of k73 -/
abbrev Cp := Int × Int × Bool
def cpD (c : Cp) : D := .tup [.int c.1, .int c.2.1, .bl c.2.2]
def absI (i : Int) : Int := if i < 0 then -i else i
def meetI (h w : Int) (c d : Cp) : Prop := absI (c.1 - d.1) < h ∧ absI (c.2.1 - d.2.1) < w
instance {h w : Int} {c d : Cp} : Decidable (meetI h w c d) := inferInstanceAs (Decidable (_ ∧ _))
structure Cps (h w : Int) (cs : List Cp) : Prop where
  hh : 1 ≤ h ∧ h ≤ 12
  ww : 1 ≤ w ∧ w ≤ 12
  l : 1 ≤ cs.length ∧ cs.length ≤ 8
  b : ∀ c ∈ cs, (0 ≤ c.1 ∧ c.1 ≤ 60) ∧ 0 ≤ c.2.1 ∧ c.2.1 ≤ 60
  m : cs.Pairwise fun c d => ¬ meetI h w c d
def layD (A : Ad) (h w : Int) (cs : List Cp) : D := .obj A.Layout [("height", .int h), ("width", .int w), ("copies", .tup (cs.map cpD))]
theorem absI_sub (a b : Int) : absI (a - b) = absI (b - a) := by
  unfold absI
  split <;> split <;> omega
theorem meet_symm {h w : Int} {c d : Cp} : meetI h w c d ↔ meetI h w d c := by
  unfold meetI
  rw [absI_sub c.1, absI_sub c.2.1]
theorem e_absI (i : Int) : absD (.int i) = some (.d (.int (absI i))) := rfl
theorem dec_and {p q : Prop} [Decidable p] [Decidable q] : decide (p ∧ q) = (decide p && decide q) := by
  by_cases p <;> by_cases q <;> simp_all
local macro_rules
  | `(tactic| simp_all only [$xs,*]) => `(tactic| simp (config := {decide := true}) only [mIfS, mRet, mAsg, mSetL, mNext, mDrop, mRetN, Oo.seq, Oo.out, Oo.ite, Oo.opt, Oo.nx, Oo.rt, Oo.bk, Oo.ct, Oo.no, Ok1.bind, Ok1.ok, Ok1.ite, Ok1.opt, e_var, e_rd1, e_rd2, e_rd3, e_c, e_pk1, e_pk2, e_pk3, e_pk4, e_pk5, e_pk6, e_nr1, e_nr2, e_nr3, e_fr1, e_fr2, e_fr3, e_fr4, e_fr5, e_fz1, e_fz2, e_fz3, e_fz4, e_ow, e_ow1, e_ow2, e_ls, e_ls1, e_ls2, e_pt1, e_pt2, e_fe, e_fe1, e_fe2, e_fe3,
    k_op, k_un, k_cb1, k_o1, k_o2, k_tr, k_and, k_or, k_not, k_andV, k_orV, k_notV, k_if, k_nil, k_cons, k_ref, k_tup, k_lst, e_al1, e_al2, e_mp, e_bd, k_cb, k_call, k_lm, k_yes, k_np, k_pt, k_sl, e_io, e_add1, e_add2, e_add3, e_sub, e_mul, mulOk_r, mulOk_l, e_fdiv, e_mod, e_pow, e_neg, e_lt, e_le, e_gt, e_ge, e_ltS, e_ix1, e_ix2, e_ix3, e_ix4, e_ix5, e_len1, e_len2, e_len3, e_len4, e_len5, e_bl, e_int1, e_abs, e_lst1, e_lst2, e_lst3, e_lst4, e_tup1, e_tup2, e_tup3, e_app, e_ext, e_at0, e_at1, e_at2, e_at3, e_in0, e_in1, e_in2, ex_some, k_items, k_rng1, k_rngE, e_i1, e_inr, e_ea1, e_ea2, e_ea3, e_ea4, Int.toNat_natCast, e_it1, e_it2, e_it3, e_it4, e_en1, e_en2, k_for, e_es1, e_es2, e_es3, e_nb1, e_nb2, e_rdd,
    k_callS, e_nq1, e_nq2, e_sv1, e_sv2, e_rf1, e_rf2, e_rf3, g_as1, g_as2, g_as3, g_as4, g_as5, g_as6, g_b1, g_b2, g_b3, g_b4, g_b5, g_b6, k_make, k_fld, e_fld, k_setA, e_ob1, e_pa1, e_pa2, k_asgG, e_gn, e_gnil, e_gcons, e_gtup, e_gtuk, e_gany1, e_gany2, e_gany3, k_dput, e_opk, e_opt, e_kt, e_kk1, e_kk2, e_ks1, e_ks2, e_dg1, e_dg2, e_ixk, e_din, e_dno, k_dnT, k_dnK, k_get2, e_dd1, e_dd2, e_pm1, e_pm2, k_disp, k_og, e_iob, k_oi, k_index, k_isi, k_chain, k_keys, e_fzs, k_forD, e_lo1, e_lo2, e_lb1, e_lb2, e_wi1, e_wi2, e_re1, e_re2, e_gd,
    decide_eq_true_eq, true_and, and_true, List.getElem?_cons_zero, List.getElem?_cons_succ, List.set_cons_zero, List.set_cons_succ, List.map_cons, List.map_nil, List.length_cons, List.length_nil, List.replicate_succ, List.replicate_zero, List.cons_append, List.nil_append, List.append_nil, if_true, if_false, k_ol, k_ob, k_oit, e_oit, e_tpl, k_par, e_st1, e_st2, k_star, e_sq1, e_sq2, k_tupRg, e_min2, e_max2, e_minL, e_maxL, e_tul0, e_mem1, e_eqI, e_neI, e_eqS, e_neS, e_ntd, y_lt1, y_lt2, y_lt3, y_lt4, y_lt5, y_lt6, y_tu1, y_tu2, y_tu3, y_tu4, y_tu5, y_st1, y_st2, y_in1, y_bo1, y_bo2, y_st3, y_tu6, y_tu7, y_in2, y_tu8, ex_bl, e_is1, e_is2, e_isn1, e_isn2, e_is3, e_is4, e_is5, e_is6, e_is7, e_is8, e_isn3, e_isn4, e_isn5, e_isn6, Option.map_none, Bool.not_true, Bool.not_false, Bool.false_eq_true, Bool.true_eq_false, Bool.not_eq_true', decide_eq_false_iff_not, k_meth, e_mth, Option.bind_some, $xs,*])
variable {A : Ad}
theorem isinteger_ok {i : Int} : OkF (f_is_integer_g A) [.fz (.int i)] fun r as' => r = .d (.bl true) ∧ as' = [.fz (.int i)] := by
  refine OkF.run rfl ?_
  unfold m_is_integer_g
  simp_all only [true_and]
theorem iswithin_ok {i a b : Int} (h1 : a ≤ i) (h2 : i ≤ b) : OkF (f_is_within_g A) [.fz (.int i), .fz (.int a), .fz (.int b)] fun r as' => r = .d (.bl true) ∧ as' = [.fz (.int i), .fz (.int a), .fz (.int b)] := by
  refine OkF.run rfl ?_
  unfold m_is_within_g
  simp_all only [true_and]
  refine OkF.use isinteger_ok ?_
  rintro r as' - ⟨rfl, rfl⟩
  simp_all only [h1, h2]
  rfl
theorem istuple_ok {l : List D} {a c : Int} (h1 : a ≤ (l.length : Nat)) (h2 : ((l.length : Nat) : Int) ≤ c) : OkF (f_is_tuple_g A) [.fz (.tup l), .fz (.int a), .fz (.int c)] fun r as' => r = .d (.bl true) ∧ as' = [.fz (.tup l), .fz (.int a), .fz (.int c)] := by
  refine OkF.run rfl ?_
  unfold m_is_tuple_g
  simp_all only [h1, h2]
  rfl
theorem isnumber_ok {k : Nat} {l : List D} (h : k < l.length) : OkF (f_is_number_of_g A) [.fz (.int (k : Nat)), .fz (.tup l)] fun r as' => r = .d (.bl true) ∧ as' = [.fz (.int (k : Nat)), .fz (.tup l)] := by
  refine OkF.run rfl ?_
  unfold m_is_number_of_g
  simp_all only [true_and]
  refine OkF.use (iswithin_ok (by omega) (by omega)) ?_
  rintro r as' - ⟨rfl, rfl⟩
  simp_all only [true_and]
theorem iscopy_ok {c : Cp} (h : (0 ≤ c.1 ∧ c.1 ≤ 60) ∧ 0 ≤ c.2.1 ∧ c.2.1 ≤ 60) : OkF (f_is_copy_f A) [.fz (cpD c)] fun r as' => r = .d (.bl true) ∧ as' = [.fz (cpD c)] := by
  refine OkF.run rfl ?_
  unfold m_is_copy_f cpD
  simp_all only [true_and]
  refine OkF.use (istuple_ok (by simp) (by simp)) ?_
  rintro r as' - ⟨rfl, rfl⟩
  simp_all only [true_and]
  refine OkF.use (iswithin_ok h.1.1 h.1.2) ?_
  rintro r as' - ⟨rfl, rfl⟩
  simp_all only [true_and]
  refine OkF.use (iswithin_ok h.2.1 h.2.2) ?_
  rintro r as' - ⟨rfl, rfl⟩
  simp_all only [true_and]
theorem meet_ok {h w : Int} {c d : Cp} : OkF (f_meet_f A) [.fz (cpD c), .fz (cpD d), .fz (.int h), .fz (.int w)] fun r as' => r = .d (.bl (decide (meetI h w c d))) ∧ as' = [.fz (cpD c), .fz (cpD d), .fz (.int h), .fz (.int w)] := by
  refine OkF.run rfl ?_
  unfold m_meet_f cpD
  simp_all only [true_and]
  unfold meetI absI
  split
  · rename_i q
    simp only [Rv.d.injEq, D.bl.injEq, and_true, true_and, dec_and]
    simp_all
  · rename_i q
    simp only [Rv.d.injEq, D.bl.injEq, and_true, true_and, dec_and]
    simp_all
theorem lmeet_ok {h w : Int} {c d : Cp} {c' d' : D} (hc : ∃ l, c' = .tup (.int c.1 :: .int c.2.1 :: l)) (hd : ∃ l, d' = .tup (.int d.1 :: .int d.2.1 :: l)) : OkF (f_l_meet A) [.fz c', .fz d', .fz (.tup [.int h, .int w])] fun r as' => r = .d (.bl (decide (meetI h w c d))) ∧ as' = [.fz c', .fz d', .fz (.tup [.int h, .int w])] := by
  obtain ⟨l, rfl⟩ := hc
  obtain ⟨m, rfl⟩ := hd
  refine OkF.run rfl ?_
  unfold m_l_meet
  simp_all only [true_and]
  unfold meetI absI
  split
  · rename_i q
    simp only [Rv.d.injEq, D.bl.injEq, and_true, true_and, dec_and]
    simp_all
  · rename_i q
    simp only [Rv.d.injEq, D.bl.injEq, and_true, true_and, dec_and]
    simp_all
theorem plain_cps {cs : List Cp} (hl : cs.length ≤ 8) {d : D} (hd : d = .lst (cs.map cpD)) : OkF (f_plain_g A) [.fz d] fun r as' => r = .d (.tup (cs.map cpD)) ∧ as' = [.fz d] := by
  subst hd
  refine (plain_ok 6 _ (.lst (by rw [List.length_map]; omega) fun d hd => ?_)).mono fun r as' q => ⟨q.1.trans ?_, q.2⟩
  · obtain ⟨c, _, rfl⟩ := List.mem_map.mp hd
    refine .tup (by simp) fun d hd => ?_
    simp only [List.mem_cons, List.not_mem_nil, or_false] at hd
    rcases hd with rfl | rfl | rfl
    · exact .int
    · exact .int
    · exact .bl
  · show Rv.d (.tup ((cs.map cpD).map (plF .tup 5))) = _
    rw [List.map_map]
    rfl
theorem slice_to (l : List D) (j : Nat) : slD (.tup l) none (some (j : Int)) = some (.d (.tup (l.take j))) := by
  show some (Rv.d (.tup (cutL l none (some (j : Int))))) = _
  rw [cut_to (by omega), Int.toNat_natCast]
theorem any_false {α : Type} (l : List α) : anyB (.lst (l.map fun _ => D.bl false)) = some (.d (.bl false)) := by
  show (blsD (l.map fun _ => D.bl false)).map _ = _
  have e : blsD (l.map fun _ => D.bl false) = some (l.map fun _ => false) := by
    induction l with
    | nil => rfl
    | cons x l ih =>
      show (blsD (l.map fun _ => D.bl false)).map _ = _
      rw [ih]
      rfl
  rw [e]
  show some (Rv.d (.bl ((l.map fun _ => false).any id))) = _
  rw [List.any_map]
  congr 3
  induction l with
  | nil => rfl
  | cons x l ih => simp
theorem layout_init_ok {h w : Int} {cs : List Cp} (k : Cps h w cs) : OkF (f_Layout_init A) [.br (.obj A.Layout []), .fz (.int h), .fz (.int w), .fz (.lst (cs.map cpD))] fun r as' => r = .d .non ∧ as' = [.br (.obj A.Layout [("height", .int h), ("width", .int w), ("copies", .tup (cs.map cpD))]), .fz (.int h), .fz (.int w), .fz (.lst (cs.map cpD))] := by
  obtain ⟨l1, l2⟩ := k.l
  refine OkF.run rfl ?_
  unfold m_Layout_init
  refine Oo.cut (fun s => s = [some (.br (.obj A.Layout [])), some (.fz (.int h)), some (.fz (.int w)), some (.fz (.lst (cs.map cpD))), some (.fz (.tup (cs.map cpD))), none, none, none]) ?_ ?_
  · simp_all only [true_and]
    refine OkF.use (plain_cps l2 rfl) ?_
    rintro r as' - ⟨rfl, rfl⟩
    simp_all only [true_and]
  rintro s rfl
  refine Oo.cut (fun s => s = [some (.br (.obj A.Layout [])), some (.fz (.int h)), some (.fz (.int w)), some (.fz (.lst (cs.map cpD))), some (.fz (.tup (cs.map cpD))), none, none, none]) ?_ ?_
  · simp_all only [true_and]
    refine OkF.use (iswithin_ok k.hh.1 k.hh.2) ?_
    rintro r as' - ⟨rfl, rfl⟩
    simp_all only [true_and]
    refine OkF.use (iswithin_ok k.ww.1 k.ww.2) ?_
    rintro r as' - ⟨rfl, rfl⟩
    simp_all only [true_and]
    refine OkF.use (istuple_ok (by rw [List.length_map]; omega) (by rw [List.length_map]; omega)) ?_
    rintro r as' - ⟨rfl, rfl⟩
    simp_all only [true_and]
  rintro s rfl
  refine Oo.cut (fun s => ∃ z5 z6 : Option SV, s = [some (.br (.obj A.Layout [])), some (.fz (.int h)), some (.fz (.int w)), some (.fz (.lst (cs.map cpD))), some (.fz (.tup (cs.map cpD))), z5, z6, none]) ?_ ?_
  · simp_all only [true_and]
    refine Oo.loop (fun ds s => ∃ (j : Nat) (z5 z6 : Option SV), ds = (pairsD (nums (cs.map cpD).length) (cs.map cpD)).drop j ∧ feS (some z5) = true ∧ feS (some z6) = true ∧ s = [some (.br (.obj A.Layout [])), some (.fz (.int h)), some (.fz (.int w)), some (.fz (.lst (cs.map cpD))), some (.fz (.tup (cs.map cpD))), z5, z6, none]) ?_ ?_ _ _ ⟨0, none, none, rfl, rfl, rfl, rfl⟩
    · rintro st ⟨j, z5, z6, -, -, -, rfl⟩
      exact ⟨z5, z6, rfl⟩
    · rintro d ds st ⟨j, z5, z6, hd, f5, f6, rfl⟩
      obtain ⟨hj, rfl, rfl⟩ := enum_cons hd
      have hj2 : j < cs.length := by
        rw [List.length_map] at hj
        exact hj
      rw [List.getElem_map]
      have hm := List.getElem_mem hj2
      refine ⟨_, e_g2 f5 (by simpa using f6), ?_⟩
      simp_all only [true_and]
      refine OkF.use (iscopy_ok (k.b _ hm)) ?_
      rintro r as' - ⟨rfl, rfl⟩
      simp_all only [true_and]
      refine Ok1.lcM (fun _ => .bl false) ?_
      simp_all only [slice_to]
      refine ⟨by rw [List.length_take, List.length_map]; omega, fun e he => ?_, ?_⟩
      · rw [← List.map_take] at he
        obtain ⟨q, hq, rfl⟩ := List.mem_map.mp he
        refine OkF.use meet_ok ?_
        rintro r as' - ⟨rfl, rfl⟩
        obtain ⟨i, hi, rfl⟩ := List.mem_take_iff_getElem.mp hq
        have hnm := List.pairwise_iff_getElem.mp k.m i j (by omega) hj2 (by omega)
        have hnm' : ¬ meetI h w cs[j] cs[i] := fun z => hnm (meet_symm.mp z)
        simp_all only [decide_eq_false hnm']
      · simp_all only [any_false]
        exact ⟨j + 1, _, _, rfl, rfl, rfl, rfl⟩
  rintro st ⟨z5, z6, rfl⟩
  simp_all only [true_and]
end Cz

/-! # LB -/
namespace Cz
open L2 PyProof.Rows PySem.Spec PySem
def geo (h w : Int) (cs : List Cp) : Geo := ⟨fun a k => match cs[k]? with
  | some c => if a then c.2.1 else c.1
  | none => 0, fun a => if a then w else h⟩
def wS (a : Bool) : Str := if a then "down" else "across"
theorem geo_row {h w : Int} {cs : List Cp} {k : Nat} (hk : k < cs.length) : (geo h w cs).P false k = cs[k].1 := by
  unfold geo
  simp [List.getElem?_eq_getElem hk]
theorem geo_col {h w : Int} {cs : List Cp} {k : Nat} (hk : k < cs.length) : (geo h w cs).P true k = cs[k].2.1 := by
  unfold geo
  simp [List.getElem?_eq_getElem hk]
theorem geo_h {h w : Int} {cs : List Cp} : (geo h w cs).S false = h := rfl
theorem geo_w {h w : Int} {cs : List Cp} : (geo h w cs).S true = w := rfl
theorem way_f : decide (wS false = ("across" : Str)) = true := decide_eq_true rfl
theorem way_t : decide (wS true = ("across" : Str)) = false := by decide +kernel
theorem lotL_app (x : Lot) (k : Nat) : lotL (x ++ [k]) = lotL x ++ [D.int (k : Nat)] := by
  unfold lotL
  rw [List.map_append]
  rfl
theorem lotL_cons {L : Lot} {d : D} {ds : List D} (h : d :: ds = lotL L) : ∃ k L', L = k :: L' ∧ d = .int (k : Nat) ∧ ds = lotL L' := by
  cases L with
  | nil => cases h
  | cons k L =>
    obtain ⟨h1, h2⟩ := List.cons.inj h
    exact ⟨k, L, rfl, h1, h2⟩
theorem lotL_len (L : Lot) : (lotL L).length = L.length := List.length_map ..
section
variable {g : Geo} {a : Bool} {n : Int} {L : Lot} {k : Nat}
theorem low_in (h : g.P a k + g.S a ≤ n) : lowL g a n (L ++ [k]) = lowL g a n L ++ [k] := by
  unfold lowL
  rw [List.filter_append, List.filter_cons, if_pos (decide_eq_true h)]
  rfl
theorem low_out (h : ¬ g.P a k + g.S a ≤ n) : lowL g a n (L ++ [k]) = lowL g a n L := by
  unfold lowL
  rw [List.filter_append, List.filter_cons, if_neg (by rw [decide_eq_true_eq]; exact h)]
  exact List.append_nil _
theorem high_in (h : n ≤ g.P a k) : highL g a n (L ++ [k]) = highL g a n L ++ [k] := by
  unfold highL
  rw [List.filter_append, List.filter_cons, if_pos (decide_eq_true h)]
  rfl
theorem high_out (h : ¬ n ≤ g.P a k) : highL g a n (L ++ [k]) = highL g a n L := by
  unfold highL
  rw [List.filter_append, List.filter_cons, if_neg (by rw [decide_eq_true_eq]; exact h)]
  exact List.append_nil _
theorem low_le : (lowL g a n L).length ≤ L.length := List.length_filter_le ..
theorem high_le : (highL g a n L).length ≤ L.length := List.length_filter_le ..
end
local macro_rules
  | `(tactic| simp_all only [$xs,*]) => `(tactic| simp (config := {decide := true}) only [mIfS, mRet, mAsg, mSetL, mNext, mDrop, mRetN, Oo.seq, Oo.out, Oo.ite, Oo.opt, Oo.nx, Oo.rt, Oo.bk, Oo.ct, Oo.no, Ok1.bind, Ok1.ok, Ok1.ite, Ok1.opt, e_var, e_rd1, e_rd2, e_rd3, e_c, e_pk1, e_pk2, e_pk3, e_pk4, e_pk5, e_pk6, e_nr1, e_nr2, e_nr3, e_fr1, e_fr2, e_fr3, e_fr4, e_fr5, e_fz1, e_fz2, e_fz3, e_fz4, e_ow, e_ow1, e_ow2, e_ls, e_ls1, e_ls2, e_pt1, e_pt2, e_fe, e_fe1, e_fe2, e_fe3,
    k_op, k_un, k_cb1, k_o1, k_o2, k_tr, k_and, k_or, k_not, k_andV, k_orV, k_notV, k_if, k_nil, k_cons, k_ref, k_tup, k_lst, e_al1, e_al2, e_mp, e_bd, k_cb, k_call, k_lm, k_yes, k_np, k_pt, k_sl, e_io, e_add1, e_add2, e_add3, e_sub, e_mul, mulOk_r, mulOk_l, e_fdiv, e_mod, e_pow, e_neg, e_lt, e_le, e_gt, e_ge, e_ltS, e_ix1, e_ix2, e_ix3, e_ix4, e_ix5, e_len1, e_len2, e_len3, e_len4, e_len5, e_bl, e_int1, e_abs, e_lst1, e_lst2, e_lst3, e_lst4, e_tup1, e_tup2, e_tup3, e_app, e_ext, e_at0, e_at1, e_at2, e_at3, e_in0, e_in1, e_in2, ex_some, k_items, k_rng1, k_rngE, e_i1, e_inr, e_ea1, e_ea2, e_ea3, e_ea4, Int.toNat_natCast, e_it1, e_it2, e_it3, e_it4, e_en1, e_en2, k_for, e_es1, e_es2, e_es3, e_nb1, e_nb2, e_rdd,
    k_callS, e_nq1, e_nq2, e_sv1, e_sv2, e_rf1, e_rf2, e_rf3, g_as1, g_as2, g_as3, g_as4, g_as5, g_as6, g_b1, g_b2, g_b3, g_b4, g_b5, g_b6, k_make, k_fld, e_fld, k_setA, e_ob1, e_pa1, e_pa2, k_asgG, e_gn, e_gnil, e_gcons, e_gtup, e_gtuk, e_gany1, e_gany2, e_gany3, k_dput, e_opk, e_opt, e_kt, e_kk1, e_kk2, e_ks1, e_ks2, e_dg1, e_dg2, e_ixk, e_din, e_dno, k_dnT, k_dnK, k_get2, e_dd1, e_dd2, e_pm1, e_pm2, k_disp, k_og, e_iob, k_oi, k_index, k_isi, k_chain, k_keys, e_fzs, k_forD, e_lo1, e_lo2, e_lb1, e_lb2, e_wi1, e_wi2, e_re1, e_re2, e_gd,
    decide_eq_true_eq, true_and, and_true, List.getElem?_cons_zero, List.getElem?_cons_succ, List.set_cons_zero, List.set_cons_succ, List.map_cons, List.map_nil, List.length_cons, List.length_nil, List.replicate_succ, List.replicate_zero, List.cons_append, List.nil_append, List.append_nil, if_true, if_false, k_ol, k_ob, k_oit, e_oit, e_tpl, k_par, e_st1, e_st2, k_star, e_sq1, e_sq2, k_tupRg, e_min2, e_max2, e_minL, e_maxL, e_tul0, e_mem1, e_eqI, e_neI, e_eqS, e_neS, e_ntd, y_lt1, y_lt2, y_lt3, y_lt4, y_lt5, y_lt6, y_tu1, y_tu2, y_tu3, y_tu4, y_tu5, y_st1, y_st2, y_in1, y_bo1, y_bo2, y_st3, y_tu6, y_tu7, y_in2, y_tu8, ex_bl, e_is1, e_is2, e_isn1, e_isn2, e_is3, e_is4, e_is5, e_is6, e_is7, e_is8, e_isn3, e_isn4, e_isn5, e_isn6, Option.map_none, Bool.not_true, Bool.not_false, Bool.false_eq_true, Bool.true_eq_false, Bool.not_eq_true', decide_eq_false_iff_not, k_meth, e_mth, Option.bind_some, $xs,*])
variable {A : Ad} {h w : Int} {cs : List Cp}
theorem laylen_ok (hl : cs.length ≤ 8) : OkF (f_Layout_len A) [.fz (layD A h w cs)] fun r as' => r = .d (.int (cs.length : Nat)) ∧ as' = [.fz (layD A h w cs)] := by
  refine OkF.run rfl ?_
  unfold m_Layout_len layD
  have e : List.lookup ("copies" : Str) [(("height" : Str), D.int h), ("width", .int w), ("copies", .tup (cs.map cpD))] = some (.tup (cs.map cpD)) := rfl
  simp_all only [e, List.length_map]
theorem layget_ok {k : Nat} (hk : k < cs.length) : OkF (f_Layout_getitem A) [.fz (layD A h w cs), .fz (.int (k : Nat))] fun r as' => r = .d (cpD cs[k]) ∧ as' = [.fz (layD A h w cs), .fz (.int (k : Nat))] := by
  refine OkF.run rfl ?_
  unfold m_Layout_getitem layD
  have e : List.lookup ("copies" : Str) [(("height" : Str), D.int h), ("width", .int w), ("copies", .tup (cs.map cpD))] = some (.tup (cs.map cpD)) := rfl
  have ea : atI (cs.map cpD) ((k : Nat) : Int) = some (cpD cs[k]) := atI_nat (by rw [List.getElem?_map, List.getElem?_eq_getElem hk]; rfl)
  simp_all only [e]
  refine OkF.use (isnumber_ok (by rw [List.length_map]; exact hk)) ?_
  rintro r as' - ⟨rfl, rfl⟩
  simp_all only [e, ea]
theorem parts_ok {d : D} {L : Lot} {a : Bool} {n : Int} (hd : itemsD d = some (lotL L)) (hk : ∀ k ∈ L, k < cs.length) (hl : L.length ≤ 1000) (h1 : 1 ≤ h) (w1 : 1 ≤ w) : OkF (f_parts_f A) [.fz (layD A h w cs), .fz d, .fz (.str (wS a)), .fz (.int n)] fun r as' =>
    r = (if thru (geo h w cs) a n L then .d (.tup [lotD (lowL (geo h w cs) a n L), lotD (highL (geo h w cs) a n L)]) else .d .non) ∧ as' = [.fz (layD A h w cs), .fz d, .fz (.str (wS a)), .fz (.int n)] := by
  obtain ⟨ly, hly⟩ : ∃ ly, ly = layD A h w cs := ⟨_, rfl⟩
  obtain ⟨g, hg⟩ : ∃ g, g = geo h w cs := ⟨_, rfl⟩
  have e1 : fldD [A.Layout] "height" ly = some (.int h) := by rw [hly]; unfold layD; simp_all only []; rfl
  have e2 : fldD [A.Layout] "width" ly = some (.int w) := by rw [hly]; unfold layD; simp_all only []; rfl
  have io : isOb A.Layout ly := by rw [hly]; rfl
  have gt : ∀ k : Nat, (hk : k < cs.length) → OkF (f_Layout_getitem A) [.fz ly, .fz (.int (k : Nat))] fun r as' => r = .d (cpD cs[k]) ∧ as' = [.fz ly, .fz (.int (k : Nat))] := fun k hk => by rw [hly]; exact layget_ok hk
  rw [← hly, ← hg]
  refine OkF.run rfl ?_
  unfold m_parts_f
  refine Oo.cut (fun s => s = [some (.fz ly), some (.fz d), some (.fz (.str (wS a))), some (.fz (.int n)), some (.ow (.lst [])), some (.ow (.lst [])), none, none, none, none, none, none]) ?_ ?_
  · simp_all only [true_and]
  rintro s rfl
  refine Oo.cut (fun s => thru g a n L ∧ ∃ z6 z7 z8 z9 z10 z11 : Option SV, s = [some (.fz ly), some (.fz d), some (.fz (.str (wS a))), some (.fz (.int n)), some (.ow (.lst (lotL (lowL g a n L)))), some (.ow (.lst (lotL (highL g a n L)))), z6, z7, z8, z9, z10, z11]) ?_ ?_
  · simp_all only [hd]
    refine Oo.loop (fun ds s => ∃ (M : Lot) (Z : Lot) (z6 z7 z8 z9 z10 z11 : Option SV), ds = lotL Z ∧ M ++ Z = L ∧ thru g a n M ∧ (feS (some z6) = true ∧ feS (some z7) = true ∧ feS (some z8) = true ∧ feS (some z9) = true ∧ feS (some z10) = true ∧ feS (some z11) = true) ∧
      s = [some (.fz ly), some (.fz d), some (.fz (.str (wS a))), some (.fz (.int n)), some (.ow (.lst (lotL (lowL g a n M)))), some (.ow (.lst (lotL (highL g a n M)))), z6, z7, z8, z9, z10, z11]) ?_ ?_ _ _ ⟨[], L, none, none, none, none, none, none, rfl, rfl, (fun k hk => by cases hk), ⟨rfl, rfl, rfl, rfl, rfl, rfl⟩, rfl⟩
    · rintro s ⟨M, Z, z6, z7, z8, z9, z10, z11, hz, hm, ht, -, rfl⟩
      have e : Z = [] := by
        cases Z with
        | nil => rfl
        | cons k Z => cases hz
      subst e
      rw [List.append_nil] at hm
      subst hm
      exact ⟨ht, z6, z7, z8, z9, z10, z11, rfl⟩
    · rintro e ds s ⟨M, Z, z6, z7, z8, z9, z10, z11, hz, hm, ht, ⟨f6, f7, f8, f9, f10, f11⟩, rfl⟩
      obtain ⟨k, Z', rfl, rfl, rfl⟩ := lotL_cons hz
      have mk : k ∈ L := by rw [← hm]; simp
      have lk := hk k mk
      have lm : M.length < L.length := by rw [← hm]; simp
      have s1 : (lotL (lowL g a n M)).length < 100000 := by rw [lotL_len]; have := low_le (g := g) (a := a) (n := n) (L := M); omega
      have s2 : (lotL (highL g a n M)).length < 100000 := by rw [lotL_len]; have := high_le (g := g) (a := a) (n := n) (L := M); omega
      have hm2 : (M ++ [k]) ++ Z' = L := by rw [List.append_assoc]; exact hm
      refine ⟨_, e_gnT f6, ?_⟩
      simp_all only [true_and]
      refine ⟨io, OkF.use (gt k lk) ?_⟩
      rintro r as' - ⟨rfl, rfl⟩
      unfold cpD
      cases a with
      | false =>
        have gp : g.P false k = cs[k].1 := by rw [hg]; exact geo_row lk
        have gs : g.S false = h := by rw [hg]; rfl
        simp_all only [way_f, f7, f8, f9, f10, f11, e1, s1, s2]
        split
        · rename_i q
          refine ⟨M ++ [k], Z', some (.fz (.int (k : Nat))), some (.fz (.int cs[k].1)), some (.fz (.int cs[k].2.1)), some (.fz (.bl cs[k].2.2)), some (.fz (.int cs[k].1)), some (.fz (.int h)), rfl, hm2, fun i hi => ?_, ⟨rfl, rfl, rfl, rfl, rfl, rfl⟩, ?_⟩
          · rcases List.mem_append.mp hi with z | z
            · exact ht i z
            · rw [List.mem_singleton.mp z, gp]
              exact .inr q
          · rw [low_out (by rw [gp, gs]; omega), high_in (by rw [gp]; exact q), lotL_app]
        · rename_i q
          split
          · rename_i q2
            refine ⟨M ++ [k], Z', some (.fz (.int (k : Nat))), some (.fz (.int cs[k].1)), some (.fz (.int cs[k].2.1)), some (.fz (.bl cs[k].2.2)), some (.fz (.int cs[k].1)), some (.fz (.int h)), rfl, hm2, fun i hi => ?_, ⟨rfl, rfl, rfl, rfl, rfl, rfl⟩, ?_⟩
            · rcases List.mem_append.mp hi with z | z
              · exact ht i z
              · rw [List.mem_singleton.mp z, gp, gs]
                exact .inl q2
            · rw [low_in (by rw [gp, gs]; exact q2), high_out (by rw [gp]; exact q), lotL_app]
          · rename_i q2
            have nt : ¬ thru g false n L := fun z => by
              rcases z k mk with z | z
              · rw [gp, gs] at z
                exact q2 z
              · rw [gp] at z
                exact q z
            rw [if_neg nt]
      | true =>
        have gp : g.P true k = cs[k].2.1 := by rw [hg]; exact geo_col lk
        have gs : g.S true = w := by rw [hg]; rfl
        simp_all only [way_t, f7, f8, f9, f10, f11, e2, s1, s2]
        split
        · rename_i q
          refine ⟨M ++ [k], Z', some (.fz (.int (k : Nat))), some (.fz (.int cs[k].1)), some (.fz (.int cs[k].2.1)), some (.fz (.bl cs[k].2.2)), some (.fz (.int cs[k].2.1)), some (.fz (.int w)), rfl, hm2, fun i hi => ?_, ⟨rfl, rfl, rfl, rfl, rfl, rfl⟩, ?_⟩
          · rcases List.mem_append.mp hi with z | z
            · exact ht i z
            · rw [List.mem_singleton.mp z, gp]
              exact .inr q
          · rw [low_out (by rw [gp, gs]; omega), high_in (by rw [gp]; exact q), lotL_app]
        · rename_i q
          split
          · rename_i q2
            refine ⟨M ++ [k], Z', some (.fz (.int (k : Nat))), some (.fz (.int cs[k].1)), some (.fz (.int cs[k].2.1)), some (.fz (.bl cs[k].2.2)), some (.fz (.int cs[k].2.1)), some (.fz (.int w)), rfl, hm2, fun i hi => ?_, ⟨rfl, rfl, rfl, rfl, rfl, rfl⟩, ?_⟩
            · rcases List.mem_append.mp hi with z | z
              · exact ht i z
              · rw [List.mem_singleton.mp z, gp, gs]
                exact .inl q2
            · rw [low_in (by rw [gp, gs]; exact q2), high_out (by rw [gp]; exact q), lotL_app]
          · rename_i q2
            have nt : ¬ thru g true n L := fun z => by
              rcases z k mk with z | z
              · rw [gp, gs] at z
                exact q2 z
              · rw [gp] at z
                exact q z
            rw [if_neg nt]
  rintro s ⟨ht, z6, z7, z8, z9, z10, z11, rfl⟩
  rw [if_pos ht]
  simp_all only [true_and]
  rfl
end Cz

/-! # LC -/
namespace Cz
open L2 PyProof.Rows PySem.Spec PySem
def cutD (p : Bool × Int) : D := .tup [.str (wS p.1), .int p.2]
def fcD : Option (Bool × Int) → D
  | some p => cutD p
  | none => .non
def endD (g : Geo) (a : Bool) : D → D
  | .int i => .int (g.P a i.toNat + g.S a)
  | d => d
theorem ends_map (g : Geo) (a : Bool) (L : Lot) : (lotL L).map (endD g a) = (ends g a L).map .int := by
  unfold lotL ends
  (rw [List.map_map, List.map_map])
  rfl
theorem asc_len (ns : List Int) : (ascI ns).length ≤ ns.length := by
  induction ns with
  | nil => exact Nat.le_refl _
  | cons n ns ih =>
    have h : ∀ (k : Int) (l : List Int), (insI k l).length ≤ l.length + 1 := by
      intro k l
      induction l with
      | nil => exact Nat.le_refl _
      | cons x l ih =>
        unfold insI
        split
        · exact Nat.le_refl _
        · split
          · exact Nat.le_succ _
          · rw [List.length_cons, List.length_cons]
            omega
    have := h n (ascI ns)
    show (insI n (ascI ns)).length ≤ ns.length + 1
    omega
theorem isnot_tup {l : List D} : isNotD (.tup l) .non = some (.d (.bl true)) := rfl
theorem isnot_non : isNotD .non .non = some (.d (.bl false)) := rfl
theorem items_map {ns : List Int} {d : D} {ds : List D} (h : d :: ds = ns.map D.int) : ∃ n ms, ns = n :: ms ∧ d = .int n ∧ ds = ms.map .int := by
  cases ns with
  | nil => cases h
  | cons n ms =>
    obtain ⟨h1, h2⟩ := List.cons.inj h
    exact ⟨n, ms, rfl, h1, h2⟩
local macro_rules
  | `(tactic| simp_all only [$xs,*]) => `(tactic| simp (config := {decide := true}) only [mIfS, mRet, mAsg, mSetL, mNext, mDrop, mRetN, Oo.seq, Oo.out, Oo.ite, Oo.opt, Oo.nx, Oo.rt, Oo.bk, Oo.ct, Oo.no, Ok1.bind, Ok1.ok, Ok1.ite, Ok1.opt, e_var, e_rd1, e_rd2, e_rd3, e_c, e_pk1, e_pk2, e_pk3, e_pk4, e_pk5, e_pk6, e_nr1, e_nr2, e_nr3, e_fr1, e_fr2, e_fr3, e_fr4, e_fr5, e_fz1, e_fz2, e_fz3, e_fz4, e_ow, e_ow1, e_ow2, e_ls, e_ls1, e_ls2, e_pt1, e_pt2, e_fe, e_fe1, e_fe2, e_fe3,
    k_op, k_un, k_cb1, k_o1, k_o2, k_tr, k_and, k_or, k_not, k_andV, k_orV, k_notV, k_if, k_nil, k_cons, k_ref, k_tup, k_lst, e_al1, e_al2, e_mp, e_bd, k_cb, k_call, k_lm, k_yes, k_np, k_pt, k_sl, e_io, e_add1, e_add2, e_add3, e_sub, e_mul, mulOk_r, mulOk_l, e_fdiv, e_mod, e_pow, e_neg, e_lt, e_le, e_gt, e_ge, e_ltS, e_ix1, e_ix2, e_ix3, e_ix4, e_ix5, e_len1, e_len2, e_len3, e_len4, e_len5, e_bl, e_int1, e_abs, e_lst1, e_lst2, e_lst3, e_lst4, e_tup1, e_tup2, e_tup3, e_app, e_ext, e_at0, e_at1, e_at2, e_at3, e_in0, e_in1, e_in2, ex_some, k_items, k_rng1, k_rngE, e_i1, e_inr, e_ea1, e_ea2, e_ea3, e_ea4, Int.toNat_natCast, e_it1, e_it2, e_it3, e_it4, e_en1, e_en2, k_for, e_es1, e_es2, e_es3, e_nb1, e_nb2, e_rdd,
    k_callS, e_nq1, e_nq2, e_sv1, e_sv2, e_rf1, e_rf2, e_rf3, g_as1, g_as2, g_as3, g_as4, g_as5, g_as6, g_b1, g_b2, g_b3, g_b4, g_b5, g_b6, k_make, k_fld, e_fld, k_setA, e_ob1, e_pa1, e_pa2, k_asgG, e_gn, e_gnil, e_gcons, e_gtup, e_gtuk, e_gany1, e_gany2, e_gany3, k_dput, e_opk, e_opt, e_kt, e_kk1, e_kk2, e_ks1, e_ks2, e_dg1, e_dg2, e_ixk, e_din, e_dno, k_dnT, k_dnK, k_get2, e_dd1, e_dd2, e_pm1, e_pm2, k_disp, k_og, e_iob, k_oi, k_index, k_isi, k_chain, k_keys, e_fzs, k_forD, e_lo1, e_lo2, e_lb1, e_lb2, e_wi1, e_wi2, e_re1, e_re2, e_gd,
    decide_eq_true_eq, true_and, and_true, List.getElem?_cons_zero, List.getElem?_cons_succ, List.set_cons_zero, List.set_cons_succ, List.map_cons, List.map_nil, List.length_cons, List.length_nil, List.replicate_succ, List.replicate_zero, List.cons_append, List.nil_append, List.append_nil, if_true, if_false, k_ol, k_ob, k_oit, e_oit, e_tpl, k_par, e_st1, e_st2, k_star, e_sq1, e_sq2, k_tupRg, e_min2, e_max2, e_minL, e_maxL, e_tul0, e_mem1, e_eqI, e_neI, e_eqS, e_neS, e_ntd, y_lt1, y_lt2, y_lt3, y_lt4, y_lt5, y_lt6, y_tu1, y_tu2, y_tu3, y_tu4, y_tu5, y_st1, y_st2, y_in1, y_bo1, y_bo2, y_st3, y_tu6, y_tu7, y_in2, y_tu8, ex_bl, e_is1, e_is2, e_isn1, e_isn2, e_is3, e_is4, e_is5, e_is6, e_is7, e_is8, e_isn3, e_isn4, e_isn5, e_isn6, Option.map_none, Bool.not_true, Bool.not_false, Bool.false_eq_true, Bool.true_eq_false, Bool.not_eq_true', decide_eq_false_iff_not, k_meth, e_mth, Option.bind_some, $xs,*])
variable {A : Ad} {h w : Int} {cs : List Cp}
theorem firstcut_ok {d : D} {L : Lot} (hd : itemsD d = some (lotL L)) (hk : ∀ k ∈ L, k < cs.length) (hl : L.length ≤ 8) (h1 : 1 ≤ h) (w1 : 1 ≤ w) : OkF (f_first_cut_g A) [.fz (layD A h w cs), .fz d] fun r as' => r = .d (fcD (fc (geo h w cs) L)) ∧ as' = [.fz (layD A h w cs), .fz d] := by
  obtain ⟨ly, hly⟩ : ∃ ly, ly = layD A h w cs := ⟨_, rfl⟩
  obtain ⟨g, hg⟩ : ∃ g, g = geo h w cs := ⟨_, rfl⟩
  have e1 : fldD [A.Layout] "height" ly = some (.int h) := by rw [hly]; unfold layD; simp_all only []; rfl
  have e2 : fldD [A.Layout] "width" ly = some (.int w) := by rw [hly]; unfold layD; simp_all only []; rfl
  have io : isOb A.Layout ly := by rw [hly]; rfl
  have gt : ∀ k : Nat, (hk : k < cs.length) → OkF (f_Layout_getitem A) [.fz ly, .fz (.int (k : Nat))] fun r as' => r = .d (cpD cs[k]) ∧ as' = [.fz ly, .fz (.int (k : Nat))] := fun k hk => by rw [hly]; exact layget_ok hk
  have pt : ∀ (a : Bool) (n : Int), OkF (f_parts_f A) [.fz ly, .fz d, .fz (.str (wS a)), .fz (.int n)] fun r as' =>
    r = (if thru g a n L then .d (.tup [lotD (lowL g a n L), lotD (highL g a n L)]) else .d .non) ∧ as' = [.fz ly, .fz d, .fz (.str (wS a)), .fz (.int n)] := fun a n => by
    rw [hly, hg]
    exact parts_ok hd hk (by omega) h1 w1
  rw [← hly, ← hg]
  refine OkF.run rfl ?_
  unfold m_first_cut_g
  have ew : [D.str ("across" : Str), D.str ("down" : Str)] = [D.str (wS false), D.str (wS true)] := rfl
  refine Oo.cut (fun s => fc g L = none ∧ ∃ z2 z3 z4 z5 z6 : Option SV, s = [some (.fz ly), some (.fz d), z2, z3, z4, z5, z6]) ?_ ?_
  · simp_all only [true_and]
    refine Oo.loop (fun ds s => ∃ (as : List Bool) (z2 z3 z4 z5 z6 : Option SV), ds = as.map (fun a => D.str (wS a)) ∧ (as = [false, true] ∨ (as = [true] ∧ fcA g false L = none) ∨ (as = [] ∧ fc g L = none)) ∧ s = [some (.fz ly), some (.fz d), z2, z3, z4, z5, z6] ∧ feS (some z2) = true ∧ feS (some z3) = true ∧ z4 = none ∧ feS (some z5) = true ∧ feS (some z6) = true) ?_ ?_ _ _ ⟨[false, true], none, none, none, none, none, rfl, .inl rfl, rfl, rfl, rfl, rfl, rfl, rfl⟩
    · rintro s ⟨as, z2, z3, z4, z5, z6, ea, hq, rfl, -⟩
      have e : as = [] := by
        cases as with
        | nil => rfl
        | cons a as => cases ea
      subst e
      refine ⟨?_, z2, z3, z4, z5, z6, rfl⟩
      rcases hq with q | ⟨q, _⟩ | ⟨_, q⟩
      · cases q
      · cases q
      · exact q
    · rintro e ds s ⟨as, z2, z3, z4, z5, z6, ea, hq, rfl, f2, f3, rfl, f5, f6⟩
      obtain ⟨a, as', rfl, rfl, rfl⟩ : ∃ a as', as = a :: as' ∧ e = D.str (wS a) ∧ ds = as'.map (fun a => D.str (wS a)) := by
        cases as with
        | nil => cases ea
        | cons a as =>
          obtain ⟨h1, h2⟩ := List.cons.inj ea
          exact ⟨a, as, rfl, h1, h2⟩
      refine ⟨_, e_gnT f2, ?_⟩
      refine Oo.cut (fun s => s = [some (.fz ly), some (.fz d), some (.fz (.str (wS a))), some (.ow (.lst ((ends g a L).map .int))), none, z5, z6]) ?_ ?_
      · simp_all only [true_and]
        refine Ok1.lcM (endD g a) ?_
        simp_all only [hd]
        refine ⟨by rw [lotL_len]; omega, fun e he => ?_, ?_⟩
        · obtain ⟨k, mk, rfl⟩ := List.mem_map.mp he
          have lk := hk k mk
          cases a with
          | false =>
            have gp : endD g false (.int (k : Nat)) = .int (cs[k].1 + h) := by
              show D.int (g.P false ((k : Nat) : Int).toNat + g.S false) = _
              rw [Int.toNat_natCast, hg, geo_row lk]
              rfl
            simp_all only [way_f]
            refine ⟨io, OkF.use (gt k lk) ?_⟩
            rintro r as' - ⟨rfl, rfl⟩
            unfold cpD
            simp_all only [e1, gp]
          | true =>
            have gp : endD g true (.int (k : Nat)) = .int (cs[k].2.1 + w) := by
              show D.int (g.P true ((k : Nat) : Int).toNat + g.S true) = _
              rw [Int.toNat_natCast, hg, geo_col lk]
              rfl
            simp_all only [way_t]
            refine ⟨io, OkF.use (gt k lk) ?_⟩
            rintro r as' - ⟨rfl, rfl⟩
            unfold cpD
            simp_all only [e2, gp]
        · simp_all only [ends_map, f3]
      rintro s rfl
      have le : (ends g a L).length < 60 := by
        unfold ends
        rw [List.length_map]
        omega
      simp_all only [e_sset le]
      refine Oo.loop (fun ds s => ∃ (M Z : List Int) (z5 z6 : Option SV), ds = Z.map .int ∧ M ++ Z = ascI (ends g a L) ∧ (∀ n ∈ M, ¬ Vld g a n L) ∧ s = [some (.fz ly), some (.fz d), some (.fz (.str (wS a))), some (.ow (.lst ((ends g a L).map .int))), none, z5, z6] ∧ feS (some z5) = true ∧ feS (some z6) = true) ?_ ?_ _ _ ⟨[], ascI (ends g a L), z5, z6, rfl, rfl, (fun n hn => by cases hn), rfl, f5, f6⟩
      · rintro s ⟨M, Z, z5, z6, hz, hm, hv, rfl, f5, f6⟩
        have e : Z = [] := List.map_eq_nil_iff.mp hz.symm
        subst e
        rw [List.append_nil] at hm
        have fn : fcA g a L = none := by
          unfold fcA
          rw [← hm, List.find?_eq_none]
          exact fun n hn => by rw [decide_eq_true_eq]; exact hv n hn
        refine ⟨as', _, _, _, _, _, rfl, ?_, rfl, rfl, rfl, rfl, f5, f6⟩
        rcases hq with q | ⟨q, q2⟩ | ⟨q, _⟩
        · cases q
          exact .inr (.inl ⟨rfl, fn⟩)
        · cases q
          exact .inr (.inr ⟨rfl, by unfold fc; rw [q2, fn]; rfl⟩)
        · cases q
      · rintro e ds s ⟨M, Z, z5, z6, hz, hm, hv, rfl, f5, f6⟩
        obtain ⟨n, Z', rfl, rfl, rfl⟩ := items_map hz
        have hm2 : (M ++ [n]) ++ Z' = ascI (ends g a L) := by rw [List.append_assoc]; exact hm
        refine ⟨_, e_gnT f5, ?_⟩
        simp_all only [true_and]
        refine OkF.use (pt a n) ?_
        rintro r as'' - ⟨rfl, rfl⟩
        have fnd : Vld g a n L → fcA g a L = some n := fun v => by
          unfold fcA
          rw [← hm, List.find?_append, List.find?_eq_none.mpr (fun m hm => by rw [decide_eq_true_eq]; exact hv m hm), List.find?_cons, decide_eq_true v]
          rfl
        have nxt : ¬ Vld g a n L → ∀ m ∈ M ++ [n], ¬ Vld g a m L := fun v m hm => by
          rcases List.mem_append.mp hm with z | z
          · exact hv m z
          · (rw [List.mem_singleton.mp z])
            exact v
        by_cases th : thru g a n L
        · rw [if_pos th]
          simp_all only [isnot_tup, nil_in, f6]
          by_cases ne : lowL g a n L = [] ∨ highL g a n L = []
          · have eb : ¬ (((lowL g a n L).isEmpty || (highL g a n L).isEmpty) = false) := by
              rcases ne with z | z <;> rw [z] <;> simp
            rw [if_neg eb]
            refine ⟨M ++ [n], Z', some (.fz (.int n)), some (.fz (.tup [lotD (lowL g a n L), lotD (highL g a n L)])), rfl, hm2, nxt (fun v => ?_), rfl, rfl, rfl⟩
            rcases ne with z | z
            · exact v.2.1 z
            · exact v.2.2 z
          · have n1 : lowL g a n L ≠ [] := fun z => ne (.inl z)
            have n2 : highL g a n L ≠ [] := fun z => ne (.inr z)
            have eb : ((lowL g a n L).isEmpty || (highL g a n L).isEmpty) = false := by
              simp [n1, n2]
            have fa := fnd ⟨th, n1, n2⟩
            have ef : fc g L = some (a, n) := by
              rcases hq with q | ⟨q, q2⟩ | ⟨q, _⟩
              · cases q
                unfold fc
                rw [fa]
              · cases q
                unfold fc
                rw [q2, fa]
                rfl
              · cases q
            rw [ef, if_pos eb]
            rfl
        · rw [if_neg th]
          simp_all only [isnot_non, f6]
          exact ⟨M ++ [n], Z', some (.fz (.int n)), some (.fz .non), rfl, hm2, nxt (fun v => th v.1), rfl, rfl, rfl⟩
  rintro s ⟨hf, z2, z3, z4, z5, z6, rfl⟩
  rw [hf]
  simp_all only [true_and]
  rfl
end Cz

/-! # LD -/
namespace Cz
open L2 PyProof.Rows PySem.Spec PySem
theorem k_rng2 {ma : M (List Rv)} {s : SS} {Q : List D → SS → Prop} : Ok1 (mRng rng2D ma s) Q ↔ Ok1 (ma s) fun rs s1 => ∃ l, allD rs = some l ∧ ∃ m, rng2D l = some m ∧ Q m s1 := by
  unfold mRng
  rw [Ok1.bind]
  refine Ok1.congr fun rs s1 => ?_
  rw [Ok1.opt]
  exact ⟨fun ⟨m, e, q⟩ => by rw [Option.bind_eq_some_iff] at e; obtain ⟨l, e1, e2⟩ := e; exact ⟨l, e1, m, e2, Ok1.ok.mp q⟩, fun ⟨l, e1, m, e2, q⟩ => ⟨m, by rw [e1]; exact e2, Ok1.ok.mpr q⟩⟩
theorem e_rng2 {lo hi : Int} (h1 : -1000000 ≤ lo ∧ lo ≤ 1000000) (h2 : -1000000 ≤ hi ∧ hi ≤ 1000000) : rng2D [.int lo, .int hi] = some ((rgI lo hi).map .int) := by
  show (if _ then _ else _) = _
  rw [if_pos (by omega)]
  unfold rgI
  rw [List.map_map]
  rfl
def bI (a : Bool) : Int := if a then 1 else 0
theorem two_up : upTo 2 = [false, true].map fun a => D.int (bI a) := rfl
def posD (g : Geo) (a : Bool) : D → D
  | .int i => .int (g.P a i.toNat)
  | d => d
theorem pos_map (g : Geo) (a : Bool) (L : Lot) : (lotL L).map (posD g a) = (L.map (g.P a)).map .int := by
  unfold lotL
  (rw [List.map_map, List.map_map])
  rfl
def thrT (n s : Int) : D → Bool
  | .int x => decide (x < n ∧ n < x + s)
  | _ => false
def clear (g : Geo) (a : Bool) (L : Lot) (n : Int) : Bool := decide (∀ k ∈ L, ¬ (g.P a k < n ∧ n < g.P a k + g.S a))
theorem thr_len (g : Geo) (a : Bool) (L : Lot) (n : Int) : decide ((((((L.map (g.P a)).map D.int).filter (thrT n (g.S a))).map id).length : Nat) = (0 : Int)) = clear g a L n := by
  unfold clear
  rw [decide_eq_decide, List.map_id]
  constructor
  · intro e k hk z
    have e' : (((L.map (g.P a)).map D.int).filter (thrT n (g.S a))).length = 0 := by omega
    have e2 := List.eq_nil_of_length_eq_zero e'
    have := List.filter_eq_nil_iff.mp e2 (.int (g.P a k)) (List.mem_map.mpr ⟨_, List.mem_map.mpr ⟨k, hk, rfl⟩, rfl⟩)
    exact this (decide_eq_true z)
  · intro q
    have e2 : ((L.map (g.P a)).map D.int).filter (thrT n (g.S a)) = [] := by
      rw [List.filter_eq_nil_iff]
      intro d hd
      obtain ⟨x, hx, rfl⟩ := List.mem_map.mp hd
      obtain ⟨k, hk, rfl⟩ := List.mem_map.mp hx
      intro z
      exact q k hk (of_decide_eq_true z)
    rw [e2]
    rfl
theorem acA_cons {g : Geo} {a : Bool} {L : Lot} {x : Int} {r : List Int} (e : L.map (g.P a) = x :: r) : acA g a L = (rgI (least x r + 1) (most x r + 1)).filter (clear g a L) := by
  unfold acA
  rw [e]
  rfl
theorem rgI_len {lo hi : Int} : (rgI lo hi).length = (hi - lo).toNat := by
  unfold rgI
  (rw [List.length_map, List.length_range])
theorem way_at (a : Bool) : atI [D.str ("across" : Str), D.str ("down" : Str)] (bI a) = some (.str (wS a)) := by
  cases a
  · exact e_at0
  · exact e_at1
def szD (h w : Int) : D := .tup [.int h, .int w]
theorem sz_at {h w : Int} {cs : List Cp} (a : Bool) : ixD (szD h w) (.int (bI a)) = some (.d (.int ((geo h w cs).S a))) := by
  cases a <;> rfl
theorem cp_at {h w : Int} {cs : List Cp} {k : Nat} (hk : k < cs.length) (a : Bool) : ixD (cpD cs[k]) (.int (bI a)) = some (.d (.int ((geo h w cs).P a k))) := by
  cases a
  · rw [geo_row hk]
    rfl
  · rw [geo_col hk]
    rfl
theorem cps_at {cs : List Cp} {k : Nat} (hk : k < cs.length) : ixD (.lst (cs.map cpD)) (.int (k : Nat)) = some (.d (cpD cs[k])) := by
  rw [e_ix1, show atI (cs.map cpD) ((k : Nat) : Int) = some (cpD cs[k]) from atI_nat (by rw [List.getElem?_map, List.getElem?_eq_getElem hk]; rfl)]
  rfl
theorem geo_small {h w : Int} {cs : List Cp} (b : ∀ c ∈ cs, (0 ≤ c.1 ∧ c.1 ≤ 60) ∧ 0 ≤ c.2.1 ∧ c.2.1 ≤ 60) {k : Nat} (hk : k < cs.length) (a : Bool) : 0 ≤ (geo h w cs).P a k ∧ (geo h w cs).P a k ≤ 60 := by
  have := b _ (List.getElem_mem hk)
  cases a
  · rw [geo_row hk]
    omega
  · rw [geo_col hk]
    omega
local macro_rules
  | `(tactic| simp_all only [$xs,*]) => `(tactic| simp (config := {decide := true}) only [mIfS, mRet, mAsg, mSetL, mNext, mDrop, mRetN, Oo.seq, Oo.out, Oo.ite, Oo.opt, Oo.nx, Oo.rt, Oo.bk, Oo.ct, Oo.no, Ok1.bind, Ok1.ok, Ok1.ite, Ok1.opt, e_var, e_rd1, e_rd2, e_rd3, e_c, e_pk1, e_pk2, e_pk3, e_pk4, e_pk5, e_pk6, e_nr1, e_nr2, e_nr3, e_fr1, e_fr2, e_fr3, e_fr4, e_fr5, e_fz1, e_fz2, e_fz3, e_fz4, e_ow, e_ow1, e_ow2, e_ls, e_ls1, e_ls2, e_pt1, e_pt2, e_fe, e_fe1, e_fe2, e_fe3,
    k_op, k_un, k_cb1, k_o1, k_o2, k_tr, k_and, k_or, k_not, k_andV, k_orV, k_notV, k_if, k_nil, k_cons, k_ref, k_tup, k_lst, e_al1, e_al2, e_mp, e_bd, k_cb, k_call, k_lm, k_yes, k_np, k_pt, k_sl, e_io, e_add1, e_add2, e_add3, e_sub, e_mul, mulOk_r, mulOk_l, e_fdiv, e_mod, e_pow, e_neg, e_lt, e_le, e_gt, e_ge, e_ltS, e_ix1, e_ix2, e_ix3, e_ix4, e_ix5, e_len1, e_len2, e_len3, e_len4, e_len5, e_bl, e_int1, e_abs, e_lst1, e_lst2, e_lst3, e_lst4, e_tup1, e_tup2, e_tup3, e_app, e_ext, e_at0, e_at1, e_at2, e_at3, e_in0, e_in1, e_in2, ex_some, k_items, k_rng1, k_rngE, e_i1, e_inr, e_ea1, e_ea2, e_ea3, e_ea4, Int.toNat_natCast, e_it1, e_it2, e_it3, e_it4, e_en1, e_en2, k_for, e_es1, e_es2, e_es3, e_nb1, e_nb2, e_rdd,
    k_callS, e_nq1, e_nq2, e_sv1, e_sv2, e_rf1, e_rf2, e_rf3, g_as1, g_as2, g_as3, g_as4, g_as5, g_as6, g_b1, g_b2, g_b3, g_b4, g_b5, g_b6, k_make, k_fld, e_fld, k_setA, e_ob1, e_pa1, e_pa2, k_asgG, e_gn, e_gnil, e_gcons, e_gtup, e_gtuk, e_gany1, e_gany2, e_gany3, k_dput, e_opk, e_opt, e_kt, e_kk1, e_kk2, e_ks1, e_ks2, e_dg1, e_dg2, e_ixk, e_din, e_dno, k_dnT, k_dnK, k_get2, e_dd1, e_dd2, e_pm1, e_pm2, k_disp, k_og, e_iob, k_oi, k_index, k_isi, k_chain, k_keys, e_fzs, k_forD, e_lo1, e_lo2, e_lb1, e_lb2, e_wi1, e_wi2, e_re1, e_re2, e_gd,
    decide_eq_true_eq, true_and, and_true, List.getElem?_cons_zero, List.getElem?_cons_succ, List.set_cons_zero, List.set_cons_succ, List.map_cons, List.map_nil, List.length_cons, List.length_nil, List.replicate_succ, List.replicate_zero, List.cons_append, List.nil_append, List.append_nil, if_true, if_false, k_ol, k_ob, k_oit, e_oit, e_tpl, k_par, e_st1, e_st2, k_star, e_sq1, e_sq2, k_tupRg, e_min2, e_max2, e_minL, e_maxL, e_tul0, e_mem1, e_eqI, e_neI, e_eqS, e_neS, e_ntd, y_lt1, y_lt2, y_lt3, y_lt4, y_lt5, y_lt6, y_tu1, y_tu2, y_tu3, y_tu4, y_tu5, y_st1, y_st2, y_in1, y_bo1, y_bo2, y_st3, y_tu6, y_tu7, y_in2, y_tu8, ex_bl, e_is1, e_is2, e_isn1, e_isn2, e_is3, e_is4, e_is5, e_is6, e_is7, e_is8, e_isn3, e_isn4, e_isn5, e_isn6, Option.map_none, Bool.not_true, Bool.not_false, Bool.false_eq_true, Bool.true_eq_false, Bool.not_eq_true', decide_eq_false_iff_not, k_meth, e_mth, Option.bind_some, k_rng2, $xs,*])
variable {A : Ad} {h w : Int} {cs : List Cp}
theorem allcuts_ok {L : Lot} (k0 : Cps h w cs) (hk : ∀ k ∈ L, k < cs.length) (hn : L ≠ []) (hl : L.length ≤ 8) : OkF (f_l_all_cuts A) [.fz (szD h w), .fz (.lst (cs.map cpD)), .fz (lotD L)] fun r as' => r = .o (.lst ((ac (geo h w cs) L).map cutD)) ∧ as' = [.fz (szD h w), .fz (.lst (cs.map cpD)), .fz (lotD L)] := by
  obtain ⟨g, hg⟩ : ∃ g, g = geo h w cs := ⟨_, rfl⟩
  obtain ⟨sz, hsz⟩ : ∃ sz, sz = szD h w := ⟨_, rfl⟩
  obtain ⟨cd, hcd⟩ : ∃ cd, cd = D.lst (cs.map cpD) := ⟨_, rfl⟩
  have sa : ∀ a, ixD sz (.int (bI a)) = some (.d (.int (g.S a))) := fun a => by rw [hsz, hg]; exact sz_at a
  have ca : ∀ k : Nat, (hk : k < cs.length) → ixD cd (.int (k : Nat)) = some (.d (cpD cs[k])) := fun k hk => by rw [hcd]; exact cps_at hk
  have pa : ∀ k : Nat, (hk : k < cs.length) → ∀ a, ixD (cpD cs[k]) (.int (bI a)) = some (.d (.int (g.P a k))) := fun k hk a => by rw [hg]; exact cp_at hk a
  have sm : ∀ k ∈ L, ∀ a, 0 ≤ g.P a k ∧ g.P a k ≤ 60 := fun k m a => by rw [hg]; exact geo_small k0.b (hk k m) a
  have il : itemsD (lotD L) = some (lotL L) := rfl
  obtain ⟨ld, hld⟩ : ∃ ld, ld = lotD L := ⟨_, rfl⟩
  rw [← hg, ← hsz, ← hcd, ← hld]
  rw [← hld] at il
  refine OkF.run rfl ?_
  unfold m_l_all_cuts
  refine Oo.cut (fun s => s = [some (.fz sz), some (.fz cd), some (.fz ld), some (.ow (.lst [])), none, none, none, none, none, none]) ?_ ?_
  · simp_all only [true_and]
  rintro s rfl
  refine Oo.cut (fun s => ∃ z4 z5 z6 z7 z8 z9 : Option SV, s = [some (.fz sz), some (.fz cd), some (.fz ld), some (.ow (.lst ((ac g L).map cutD))), z4, z5, z6, z7, z8, z9]) ?_ ?_
  · simp_all only [e_inr (k := 2) (by decide) (by decide)]
    refine Oo.loop (fun ds s => ∃ (as : List Bool) (F : List (Bool × Int)) (z4 z5 z7 z8 : Option SV), ds = as.map (fun a => D.int (bI a)) ∧ ((as = [false, true] ∧ F = []) ∨ (as = [true] ∧ F = ((acA g false L).map fun n => (false, n)) ∧ F.length ≤ 60) ∨ (as = [] ∧ F = ac g L)) ∧ s = [some (.fz sz), some (.fz cd), some (.fz ld), some (.ow (.lst (F.map cutD))), z4, z5, none, z7, z8, none] ∧ feS (some z4) = true ∧ feS (some z5) = true ∧ feS (some z7) = true ∧ feS (some z8) = true) ?_ ?_ _ _ ⟨[false, true], [], none, none, none, none, two_up, .inl ⟨rfl, rfl⟩, rfl, rfl, rfl, rfl, rfl⟩
    · rintro s ⟨as, F, z4, z5, z7, z8, ea, hq, rfl, -⟩
      have e : as = [] := by
        cases as with
        | nil => rfl
        | cons a as => cases ea
      subst e
      rcases hq with ⟨q, _⟩ | ⟨q, _⟩ | ⟨_, q⟩
      · cases q
      · cases q
      · subst q
        exact ⟨z4, z5, none, z7, z8, none, rfl⟩
    · rintro e ds s ⟨as, F, z4, z5, z7, z8, ea, hq, rfl, f4, f5, f7, f8⟩
      obtain ⟨a, as', rfl, rfl, rfl⟩ : ∃ a as', as = a :: as' ∧ e = D.int (bI a) ∧ ds = as'.map (fun a => D.int (bI a)) := by
        cases as with
        | nil => cases ea
        | cons a as =>
          obtain ⟨h1, h2⟩ := List.cons.inj ea
          exact ⟨a, as, rfl, h1, h2⟩
      have lF : F.length ≤ 60 := by
        rcases hq with ⟨_, q⟩ | ⟨_, _, q⟩ | ⟨q, _⟩
        · rw [q]
          exact Nat.zero_le _
        · exact q
        · cases q
      refine ⟨_, e_gnT f4, ?_⟩
      refine Oo.cut (fun s => s = [some (.fz sz), some (.fz cd), some (.fz ld), some (.ow (.lst (F.map cutD))), some (.fz (.int (bI a))), some (.ow (.lst ((L.map (g.P a)).map .int))), none, z7, z8, none]) ?_ ?_
      · simp_all only [true_and]
        refine Ok1.lcM (posD g a) ?_
        simp_all only [il]
        refine ⟨by rw [lotL_len]; omega, fun e he => ?_, ?_⟩
        · obtain ⟨k, mk, rfl⟩ := List.mem_map.mp he
          have lk := hk k mk
          have gp : posD g a (.int (k : Nat)) = .int (g.P a k) := rfl
          simp_all only [ca k lk, pa k lk, gp]
        · simp_all only [pos_map, f5]
      rintro s rfl
      obtain ⟨x, r, ex⟩ : ∃ x r, L.map (g.P a) = x :: r := by
        cases q : L.map (g.P a) with
        | nil => exact absurd (List.map_eq_nil_iff.mp q) hn
        | cons x r => (exact ⟨x, r, rfl⟩)
      have bx : ∀ y ∈ x :: r, 0 ≤ y ∧ y ≤ 60 := fun y hy => by
        rw [← ex] at hy
        obtain ⟨k, m, rfl⟩ := List.mem_map.mp hy
        exact sm k m a
      have b1 := bx _ (least_mem x r)
      have b2 := bx _ (most_mem x r)
      have em : minD (.lst ((L.map (g.P a)).map .int)) = some (.d (.int (least x r))) := by rw [ex]; exact e_minL
      have eM : maxD (.lst ((L.map (g.P a)).map .int)) = some (.d (.int (most x r))) := by rw [ex]; exact e_maxL
      obtain ⟨lo, hlo⟩ : ∃ lo, lo = least x r := ⟨_, rfl⟩
      obtain ⟨hi, hhi⟩ : ∃ hi, hi = most x r := ⟨_, rfl⟩
      rw [← hlo] at em b1
      rw [← hhi] at eM b2
      have er := e_rng2 (lo := lo + 1) (hi := hi + 1) (by omega) (by omega)
      have ecl : acA g a L = (rgI (lo + 1) (hi + 1)).filter (clear g a L) := by rw [hlo, hhi]; exact acA_cons ex
      have lrg : (rgI (lo + 1) (hi + 1)).length ≤ 60 := by rw [rgI_len]; omega
      simp_all only [em, eM, er]
      refine Oo.loop (fun ds s => ∃ (M Z : List Int) (z5 z7 z8 : Option SV), ds = Z.map .int ∧ M ++ Z = rgI (lo + 1) (hi + 1) ∧ (z5 = some (.ow (.lst ((L.map (g.P a)).map .int))) ∨ z5 = some (.fz (.lst ((L.map (g.P a)).map .int)))) ∧
        s = [some (.fz sz), some (.fz cd), some (.fz ld), some (.ow (.lst ((F ++ (M.filter (clear g a L)).map fun n => (a, n)).map cutD))), some (.fz (.int (bI a))), z5, none, z7, z8, none] ∧ feS (some z7) = true ∧ feS (some z8) = true) ?_ ?_ _ _ ⟨[], rgI (lo + 1) (hi + 1), _, z7, z8, rfl, rfl, .inl rfl, by simp, f7, f8⟩
      · rintro s ⟨M, Z, z5, z7, z8, hz, hm, h5, rfl, f7, f8⟩
        have e : Z = [] := List.map_eq_nil_iff.mp hz.symm
        subst e
        rw [List.append_nil] at hm
        subst hm
        have f5 : feS (some z5) = true := by rcases h5 with h5 | h5 <;> rw [h5] <;> rfl
        refine ⟨as', _, _, z5, z7, z8, rfl, ?_, rfl, rfl, f5, f7, f8⟩
        rw [← ecl]
        rcases hq with ⟨q, q2⟩ | ⟨q, q2, _⟩ | ⟨q, _⟩
        · cases q
          subst q2
          refine .inr (.inl ⟨rfl, rfl, ?_⟩)
          show ((acA g false L).map _).length ≤ 60
          rw [List.length_map, ecl]
          exact Nat.le_trans (List.length_filter_le ..) lrg
        · cases q
          subst q2
          exact .inr (.inr ⟨rfl, rfl⟩)
        · cases q
      · rintro e ds s ⟨M, Z, z5, z7, z8, hz, hm, h5, rfl, f7, f8⟩
        obtain ⟨n, Z', rfl, rfl, rfl⟩ := items_map hz
        have hm2 : (M ++ [n]) ++ Z' = rgI (lo + 1) (hi + 1) := by rw [List.append_assoc]; exact hm
        have lM : M.length ≤ 60 := by
          have := congrArg List.length hm
          rw [List.length_append] at this
          omega
        have lG : (((F ++ (M.filter (clear g a L)).map fun n => (a, n)).map cutD)).length < 100000 := by
          rw [List.length_map, List.length_append, List.length_map]
          have := List.length_filter_le (clear g a L) M
          omega
        refine ⟨_, e_gnT f7, ?_⟩
        refine Oo.cut (fun s => s = [some (.fz sz), some (.fz cd), some (.fz ld), some (.ow (.lst ((F ++ (M.filter (clear g a L)).map fun n => (a, n)).map cutD))), some (.fz (.int (bI a))), some (.fz (.lst ((L.map (g.P a)).map .int))), none, some (.fz (.int n)), some (.ow (.lst ((((L.map (g.P a)).map D.int).filter (thrT n (g.S a))).map id))), none]) ?_ ?_
        · have turn : ∀ e ∈ (L.map (g.P a)).map D.int, ∃ y, e = .int y := fun e he => by
            obtain ⟨y, _, rfl⟩ := List.mem_map.mp he
            exact ⟨y, rfl⟩
          have li : ((L.map (g.P a)).map D.int).length ≤ 100000 := by
            rw [List.length_map, List.length_map]
            omega
          rcases h5 with rfl | rfl
          · simp_all only [true_and]
            refine Ok1.lcP (thrT n (g.S a)) id ?_
            simp_all only [li]
            refine ⟨fun e he => ?_, ?_⟩
            · obtain ⟨y, rfl⟩ := turn e he
              refine ⟨_, e_gnT rfl, ?_⟩
              have tt : thrT n (g.S a) (.int y) = decide (y < n ∧ n < y + g.S a) := rfl
              simp_all only [sa a, tt]
              by_cases q1 : y < n
              · by_cases q2 : n < y + g.S a
                · simp_all only [q1, q2]
                  rfl
                · simp_all only [q1, q2]
              · simp_all only [q1]
                rfl
            · simp_all only [f8]
          · simp_all only [true_and]
            refine Ok1.lcP (thrT n (g.S a)) id ?_
            simp_all only [li]
            refine ⟨fun e he => ?_, ?_⟩
            · obtain ⟨y, rfl⟩ := turn e he
              refine ⟨_, e_gnT rfl, ?_⟩
              have tt : thrT n (g.S a) (.int y) = decide (y < n ∧ n < y + g.S a) := rfl
              simp_all only [sa a, tt]
              by_cases q1 : y < n
              · by_cases q2 : n < y + g.S a
                · simp_all only [q1, q2]
                  rfl
                · simp_all only [q1, q2]
              · simp_all only [q1]
                rfl
            · simp_all only [f8]
        rintro s rfl
        have tl := thr_len g a L n
        by_cases hc : clear g a L n = true
        · rw [hc, decide_eq_true_eq] at tl
          simp_all only [tl, lG, way_at]
          refine ⟨M ++ [n], Z', some (.fz (.lst ((L.map (g.P a)).map .int))), some (.fz (.int n)), some (.ow (.lst ((((L.map (g.P a)).map D.int).filter (thrT n (g.S a))).map id))), rfl, hm2, .inr rfl, ?_, rfl, rfl⟩
          rw [List.filter_append, List.filter_cons, if_pos hc]
          simp only [List.map_append, List.append_assoc, List.map_cons, List.map_nil, List.filter_nil, List.append_nil]
          rfl
        · have hc' : clear g a L n = false := by simpa using hc
          rw [hc', decide_eq_false_iff_not] at tl
          simp_all only [tl]
          refine ⟨M ++ [n], Z', some (.fz (.lst ((L.map (g.P a)).map .int))), some (.fz (.int n)), some (.ow (.lst ((((L.map (g.P a)).map D.int).filter (thrT n (g.S a))).map id))), rfl, hm2, .inr rfl, ?_, rfl, rfl⟩
          rw [List.filter_append, List.filter_cons, if_neg hc]
          rw [show List.filter (clear g a L) [] = [] from rfl, List.append_nil]
  rintro s ⟨z4, z5, z6, z7, z8, z9, rfl⟩
  simp_all only [true_and]
end Cz

/-! # LE -/
namespace Cz
open L2 PyProof.Rows PySem.Spec PySem
def stD (p : Lot × Bool × Int) : D := .tup [lotD p.1, cutD p.2]
def lowT (g : Geo) (a : Bool) (n : Int) : D → Bool
  | .int i => decide (g.P a i.toNat + g.S a ≤ n)
  | _ => false
def highT (g : Geo) (a : Bool) (n : Int) : D → Bool
  | .int i => decide (n ≤ g.P a i.toNat)
  | _ => false
theorem low_map (g : Geo) (a : Bool) (n : Int) (L : Lot) : ((lotL L).filter (lowT g a n)).map id = lotL (lowL g a n L) := by
  unfold lotL lowL
  rw [List.map_id, List.filter_map]
  rfl
theorem high_map (g : Geo) (a : Bool) (n : Int) (L : Lot) : ((lotL L).filter (highT g a n)).map id = lotL (highL g a n L) := by
  unfold lotL highL
  rw [List.map_id, List.filter_map]
  rfl
theorem cut0 (a : Bool) (n : Int) : ixD (cutD (a, n)) (.int 0) = some (.d (.str (wS a))) := rfl
theorem cut1 (a : Bool) (n : Int) : ixD (cutD (a, n)) (.int 1) = some (.d (.int n)) := rfl
theorem Tr.len {g : Geo} (hS : ∀ a, 1 ≤ g.S a) {L : Lot} {b : List Lot} {s : List (Lot × Bool × Int)} (t : Tr g L b s) : L ≠ [] → b.length ≤ L.length := by
  induction t with
  | leaf e => exact fun h => pos_len h
  | node e _ _ i1 i2 =>
    intro _
    obtain ⟨v1, v2, v3⟩ := fc_vld hS e
    have := split_len hS v1
    have := i1 v2
    have := i2 v3
    rw [List.length_append]
    omega
theorem Tr.sub {g : Geo} (hS : ∀ a, 1 ≤ g.S a) {L : Lot} {b : List Lot} {s : List (Lot × Bool × Int)} (t : Tr g L b s) : L ≠ [] → ∀ B ∈ b, B ≠ [] ∧ ∀ x ∈ B, x ∈ L := by
  induction t with
  | leaf e => exact fun h B m => by rw [List.mem_singleton.mp m]; exact ⟨h, fun x hx => hx⟩
  | node e _ _ i1 i2 =>
    intro _ B m
    obtain ⟨v1, v2, v3⟩ := fc_vld hS e
    rcases List.mem_append.mp m with m | m
    · obtain ⟨q1, q2⟩ := i1 v2 B m
      exact ⟨q1, fun x hx => (low_mem.mp (q2 x hx)).1⟩
    · obtain ⟨q1, q2⟩ := i2 v3 B m
      exact ⟨q1, fun x hx => (high_mem.mp (q2 x hx)).1⟩
theorem geo_pos {h w : Int} {cs : List Cp} (k : Cps h w cs) : ∀ a, 1 ≤ (geo h w cs).S a := fun a => by
  cases a
  · exact k.hh.1
  · exact k.ww.1
def ThI (g : Geo) (L : Lot) (a : Bool) (n : Int) (ds : List D) (B : List Lot) (S : List (Lot × Bool × Int)) : Prop := (ds = [lotD (lowL g a n L), lotD (highL g a n L)] ∧ B = [] ∧ S = []) ∨ (ds = [lotD (highL g a n L)] ∧ Tr g (lowL g a n L) B S) ∨ (ds = [] ∧ ∃ b1 b2 s1 s2, Tr g (lowL g a n L) b1 s1 ∧ Tr g (highL g a n L) b2 s2 ∧ B = b1 ++ b2 ∧ S = s1 ++ s2)
theorem e_trL {l : List D} : trD (.lst l) = some !l.isEmpty := rfl
theorem isfc (p : Bool × Int) : isD (cutD p) .non = some (.d (.bl false)) := rfl
local macro_rules
  | `(tactic| simp_all only [$xs,*]) => `(tactic| simp (config := {decide := true}) only [mIfS, mRet, mAsg, mSetL, mNext, mDrop, mRetN, Oo.seq, Oo.out, Oo.ite, Oo.opt, Oo.nx, Oo.rt, Oo.bk, Oo.ct, Oo.no, Ok1.bind, Ok1.ok, Ok1.ite, Ok1.opt, e_var, e_rd1, e_rd2, e_rd3, e_c, e_pk1, e_pk2, e_pk3, e_pk4, e_pk5, e_pk6, e_nr1, e_nr2, e_nr3, e_fr1, e_fr2, e_fr3, e_fr4, e_fr5, e_fz1, e_fz2, e_fz3, e_fz4, e_ow, e_ow1, e_ow2, e_ls, e_ls1, e_ls2, e_pt1, e_pt2, e_fe, e_fe1, e_fe2, e_fe3,
    k_op, k_un, k_cb1, k_o1, k_o2, k_tr, k_and, k_or, k_not, k_andV, k_orV, k_notV, k_if, k_nil, k_cons, k_ref, k_tup, k_lst, e_al1, e_al2, e_mp, e_bd, k_cb, k_call, k_lm, k_yes, k_np, k_pt, k_sl, e_io, e_add1, e_add2, e_add3, e_sub, e_mul, mulOk_r, mulOk_l, e_fdiv, e_mod, e_pow, e_neg, e_lt, e_le, e_gt, e_ge, e_ltS, e_ix1, e_ix2, e_ix3, e_ix4, e_ix5, e_len1, e_len2, e_len3, e_len4, e_len5, e_bl, e_int1, e_abs, e_lst1, e_lst2, e_lst3, e_lst4, e_tup1, e_tup2, e_tup3, e_app, e_ext, e_at0, e_at1, e_at2, e_at3, e_in0, e_in1, e_in2, ex_some, k_items, k_rng1, k_rngE, e_i1, e_inr, e_ea1, e_ea2, e_ea3, e_ea4, Int.toNat_natCast, e_it1, e_it2, e_it3, e_it4, e_en1, e_en2, k_for, e_es1, e_es2, e_es3, e_nb1, e_nb2, e_rdd,
    k_callS, e_nq1, e_nq2, e_sv1, e_sv2, e_rf1, e_rf2, e_rf3, g_as1, g_as2, g_as3, g_as4, g_as5, g_as6, g_b1, g_b2, g_b3, g_b4, g_b5, g_b6, k_make, k_fld, e_fld, k_setA, e_ob1, e_pa1, e_pa2, k_asgG, e_gn, e_gnil, e_gcons, e_gtup, e_gtuk, e_gany1, e_gany2, e_gany3, k_dput, e_opk, e_opt, e_kt, e_kk1, e_kk2, e_ks1, e_ks2, e_dg1, e_dg2, e_ixk, e_din, e_dno, k_dnT, k_dnK, k_get2, e_dd1, e_dd2, e_pm1, e_pm2, k_disp, k_og, e_iob, k_oi, k_index, k_isi, k_chain, k_keys, e_fzs, k_forD, e_lo1, e_lo2, e_lb1, e_lb2, e_wi1, e_wi2, e_re1, e_re2, e_gd,
    decide_eq_true_eq, true_and, and_true, List.getElem?_cons_zero, List.getElem?_cons_succ, List.set_cons_zero, List.set_cons_succ, List.map_cons, List.map_nil, List.length_cons, List.length_nil, List.replicate_succ, List.replicate_zero, List.cons_append, List.nil_append, List.append_nil, if_true, if_false, k_ol, k_ob, k_oit, e_oit, e_tpl, k_par, e_st1, e_st2, k_star, e_sq1, e_sq2, k_tupRg, e_min2, e_max2, e_minL, e_maxL, e_tul0, e_mem1, e_eqI, e_neI, e_eqS, e_neS, e_ntd, y_lt1, y_lt2, y_lt3, y_lt4, y_lt5, y_lt6, y_tu1, y_tu2, y_tu3, y_tu4, y_tu5, y_st1, y_st2, y_in1, y_bo1, y_bo2, y_st3, y_tu6, y_tu7, y_in2, y_tu8, ex_bl, e_is1, e_is2, e_isn1, e_isn2, e_is3, e_is4, e_is5, e_is6, e_is7, e_is8, e_isn3, e_isn4, e_isn5, e_isn6, Option.map_none, Bool.not_true, Bool.not_false, Bool.false_eq_true, Bool.true_eq_false, Bool.not_eq_true', decide_eq_false_iff_not, k_meth, e_mth, Option.bind_some, e_trL, $xs,*])
variable {A : Ad} {h w : Int} {cs : List Cp}
theorem sides_ok {L : Lot} {a : Bool} {n : Int} (hk : ∀ k ∈ L, k < cs.length) (hl : L.length ≤ 8) : OkF (f_l_sides A) [.fz (szD h w), .fz (.lst (cs.map cpD)), .fz (lotD L), .fz (cutD (a, n))] fun r as' =>
    r = .d (.tup [lotD (lowL (geo h w cs) a n L), lotD (highL (geo h w cs) a n L)]) ∧ as' = [.fz (szD h w), .fz (.lst (cs.map cpD)), .fz (lotD L), .fz (cutD (a, n))] := by
  obtain ⟨g, hg⟩ : ∃ g, g = geo h w cs := ⟨_, rfl⟩
  obtain ⟨sz, hsz⟩ : ∃ sz, sz = szD h w := ⟨_, rfl⟩
  obtain ⟨cd, hcd⟩ : ∃ cd, cd = D.lst (cs.map cpD) := ⟨_, rfl⟩
  have sa : ∀ a, ixD sz (.int (bI a)) = some (.d (.int (g.S a))) := fun a => by rw [hsz, hg]; exact sz_at a
  have ca : ∀ k : Nat, (hk : k < cs.length) → ixD cd (.int (k : Nat)) = some (.d (cpD cs[k])) := fun k hk => by rw [hcd]; exact cps_at hk
  have pa : ∀ k : Nat, (hk : k < cs.length) → ∀ a, ixD (cpD cs[k]) (.int (bI a)) = some (.d (.int (g.P a k))) := fun k hk a => by rw [hg]; exact cp_at hk a
  have il : itemsD (lotD L) = some (lotL L) := rfl
  have c0 := cut0 a n
  have c1 := cut1 a n
  obtain ⟨cu, hcu⟩ : ∃ cu, cu = cutD (a, n) := ⟨_, rfl⟩
  obtain ⟨ld, hld⟩ : ∃ ld, ld = lotD L := ⟨_, rfl⟩
  rw [← hg, ← hsz, ← hcd, ← hld, ← hcu]
  rw [← hld] at il
  rw [← hcu] at c0 c1
  have ll : (lotL L).length ≤ 100000 := by rw [lotL_len]; omega
  refine OkF.run rfl ?_
  unfold m_l_sides
  refine Oo.cut (fun s => s = [some (.fz sz), some (.fz cd), some (.fz ld), some (.fz cu), some (.fz (.int (bI a))), none, none, none]) ?_ ?_
  · cases a with
    | false =>
      simp_all only [c0, way_f]
      rfl
    | true =>
      simp_all only [c0, way_t]
      rfl
  rintro s rfl
  refine Oo.cut (fun s => s = [some (.fz sz), some (.fz cd), some (.fz ld), some (.fz cu), some (.fz (.int (bI a))), some (.fz (lotD (lowL g a n L))), none, none]) ?_ ?_
  · simp_all only [true_and]
    refine Ok1.lcP (lowT g a n) id ?_
    simp_all only [il, ll]
    refine ⟨fun e he => ?_, ?_⟩
    · obtain ⟨k, mk, rfl⟩ := List.mem_map.mp he
      have lk := hk k mk
      have tt : lowT g a n (.int (k : Nat)) = decide (g.P a k + g.S a ≤ n) := rfl
      refine ⟨_, e_gnT rfl, ?_⟩
      simp_all only [sa, ca k lk, pa k lk, c1, tt]
      split <;> first | rfl | trivial
    · simp_all only [low_map]
      rfl
  rintro s rfl
  refine Oo.cut (fun s => s = [some (.fz sz), some (.fz cd), some (.fz ld), some (.fz cu), some (.fz (.int (bI a))), some (.fz (lotD (lowL g a n L))), none, some (.fz (lotD (highL g a n L)))]) ?_ ?_
  · simp_all only [true_and]
    refine Ok1.lcP (highT g a n) id ?_
    simp_all only [il, ll]
    refine ⟨fun e he => ?_, ?_⟩
    · obtain ⟨k, mk, rfl⟩ := List.mem_map.mp he
      have lk := hk k mk
      have tt : highT g a n (.int (k : Nat)) = decide (n ≤ g.P a k) := rfl
      refine ⟨_, e_gnT rfl, ?_⟩
      simp_all only [sa, ca k lk, pa k lk, c1, tt]
      split <;> first | rfl | trivial
    · simp_all only [high_map]
      rfl
  rintro s rfl
  simp_all only [true_and]
theorem through_ok (k0 : Cps h w cs) : ∀ (m : Nat) (L : Lot), L ≠ [] → L.length ≤ m → L.length ≤ 8 → (∀ k ∈ L, k < cs.length) → OkF (fr_cut_through_f A m) [.fz (layD A h w cs), .fz (lotD L)] fun r as' =>
    (∃ (bs : List Lot) (ss : List (Lot × Bool × Int)), Tr (geo h w cs) L bs ss ∧ r = .d (.tup [.lst (bs.map lotD), .lst (ss.map stD)])) ∧ as' = [.fz (layD A h w cs), .fz (lotD L)]
  | 0, L, hn, hl, _, _ => by
    have := pos_len hn
    omega
  | m + 1, L, hn, hl, h8, hk => by
    have hS := geo_pos k0
    show OkF (runN 2 8 (m_cut_through_f A (fr_cut_through_f A m))) _ _
    have ih := through_ok k0 m
    have fo := firstcut_ok (A := A) (h := h) (w := w) (cs := cs) (d := lotD L) rfl hk h8 k0.hh.1 k0.ww.1
    have po : ∀ (a : Bool) (n : Int), _ := fun a n => parts_ok (A := A) (h := h) (w := w) (cs := cs) (d := lotD L) (a := a) (n := n) rfl hk (by omega) k0.hh.1 k0.ww.1
    obtain ⟨ly, hly⟩ : ∃ ly, ly = layD A h w cs := ⟨_, rfl⟩
    obtain ⟨g, hg⟩ : ∃ g, g = geo h w cs := ⟨_, rfl⟩
    rw [← hly, ← hg] at ih fo
    simp only [← hly, ← hg] at po
    rw [← hly, ← hg]
    rw [← hg] at hS
    refine OkF.run rfl ?_
    unfold m_cut_through_f
    refine Oo.cut (fun s => s = [some (.fz ly), some (.fz (lotD L)), some (.fz (fcD (fc g L))), none, none, none, none, none]) ?_ ?_
    · simp_all only [true_and]
      refine OkF.use fo ?_
      rintro r as' - ⟨rfl, rfl⟩
      simp_all only [true_and]
    rintro s rfl
    cases e : fc g L with
    | none =>
      have e0 : fcD none = .non := rfl
      simp_all only [e0]
      exact ⟨[L], [], .leaf e, rfl⟩
    | some p =>
      obtain ⟨a, n⟩ := p
      obtain ⟨v1, v2, v3⟩ := fc_vld hS e
      have e0 : fcD (some (a, n)) = cutD (a, n) := rfl
      have ec : seqD (cutD (a, n)) = some [.str (wS a), .int n] := rfl
      refine Oo.cut (fun s => s = [some (.fz ly), some (.fz (lotD L)), some (.fz (cutD (a, n))), none, none, none, none, none]) ?_ ?_
      · simp_all only [e0, isfc]
      rintro s rfl
      refine Oo.cut (fun s => s = [some (.fz ly), some (.fz (lotD L)), some (.fz (cutD (a, n))), some (.ow (.lst [])), some (.ow (.lst [stD (L, a, n)])), none, none, none]) ?_ ?_
      · simp_all only [true_and]
        rfl
      rintro s rfl
      refine Oo.cut (fun s => ∃ (b1 b2 : List Lot) (s1 s2 : List (Lot × Bool × Int)) (z5 z6 z7 : Option SV), Tr g (lowL g a n L) b1 s1 ∧ Tr g (highL g a n L) b2 s2 ∧ s = [some (.fz ly), some (.fz (lotD L)), some (.fz (cutD (a, n))), some (.ow (.lst ((b1 ++ b2).map lotD))), some (.ow (.lst (((L, a, n) :: (s1 ++ s2)).map stD))), z5, z6, z7]) ?_ ?_
      · simp_all only [ec]
        refine OkF.use (po a n) ?_
        rintro r as' - ⟨rfl, rfl⟩
        rw [if_pos v1]
        simp_all only [true_and]
        have sl := split_len hS v1
        have p2 := pos_len v2
        have p3 := pos_len v3
        have lowk : ∀ k ∈ lowL g a n L, k < cs.length := fun k hk' => hk k (low_mem.mp hk').1
        have highk : ∀ k ∈ highL g a n L, k < cs.length := fun k hk' => hk k (high_mem.mp hk').1
        refine Oo.loop (fun ds s => ∃ (B : List Lot) (S : List (Lot × Bool × Int)) (z5 z6 z7 : Option SV), ThI g L a n ds B S ∧
          s = [some (.fz ly), some (.fz (lotD L)), some (.fz (cutD (a, n))), some (.ow (.lst (B.map lotD))), some (.ow (.lst (((L, a, n) :: S).map stD))), z5, z6, z7] ∧ feS (some z5) = true ∧ feS (some z6) = true ∧ feS (some z7) = true) ?_ ?_ _ _ ⟨[], [], none, none, none, .inl ⟨rfl, rfl, rfl⟩, rfl, rfl, rfl, rfl⟩
        · rintro s ⟨B, S, z5, z6, z7, hq, rfl, -⟩
          rcases hq with ⟨q, _⟩ | ⟨q, _⟩ | ⟨_, b1, b2, s1, s2, t1, t2, rfl, rfl⟩
          · cases q
          · cases q
          · exact ⟨b1, b2, s1, s2, z5, z6, z7, t1, t2, rfl⟩
        · rintro e ds s ⟨B, S, z5, z6, z7, hq, rfl, f5, f6, f7⟩
          rcases hq with ⟨q, rfl, rfl⟩ | ⟨q, t1⟩ | ⟨q, _⟩
          · (obtain ⟨rfl, rfl⟩ := List.cons.inj q)
            refine ⟨_, e_gnT f5, ?_⟩
            simp_all only [true_and]
            refine OkF.use (ih _ v2 (by omega) (by omega) lowk) ?_
            rintro r as' - ⟨⟨bs, ss, t1, rfl⟩, rfl⟩
            have l1 := t1.len hS v2
            have l2 := t1.count
            have sm1 : small ((List.map lotD []).length + (bs.map lotD).length) = true := decide_eq_true (by simp; omega)
            have sm2 : small ((List.map stD [(L, a, n)]).length + (ss.map stD).length) = true := decide_eq_true (by simp; omega)
            simp only [List.map_cons, List.map_nil, List.length_cons, List.length_nil] at sm1 sm2
            simp_all only [f6, f7, sm1, sm2]
            exact ⟨bs, ss, some (.fz (lotD (lowL g a n L))), some (.fz (.lst (bs.map lotD))), some (.fz (.lst (ss.map stD))), .inr (.inl ⟨rfl, t1⟩), rfl, rfl, rfl, rfl⟩
          · (obtain ⟨rfl, rfl⟩ := List.cons.inj q)
            refine ⟨_, e_gnT f5, ?_⟩
            simp_all only [true_and]
            refine OkF.use (ih _ v3 (by omega) (by omega) highk) ?_
            rintro r as' - ⟨⟨bs, ss, t2, rfl⟩, rfl⟩
            have l1 := t1.len hS v2
            have l2 := t1.count
            have l3 := t2.len hS v3
            have l4 := t2.count
            have sm1 : small ((B.map lotD).length + (bs.map lotD).length) = true := decide_eq_true (by simp; omega)
            have sm2 : small (((S.map stD).length + 1) + (ss.map stD).length) = true := decide_eq_true (by simp; omega)
            simp_all only [f6, f7, sm1, sm2]
            refine ⟨B ++ bs, S ++ ss, some (.fz (lotD (highL g a n L))), some (.fz (.lst (bs.map lotD))), some (.fz (.lst (ss.map stD))), .inr (.inr ⟨rfl, B, bs, S, ss, t1, t2, rfl, rfl⟩), ?_, rfl, rfl, rfl⟩
            rw [List.map_append, List.map_append]
          · cases q
      rintro s ⟨b1, b2, s1, s2, z5, z6, z7, t1, t2, rfl⟩
      simp_all only [true_and]
      exact ⟨b1 ++ b2, (L, a, n) :: (s1 ++ s2), .node e t1 t2, rfl⟩
end Cz

/-! # LF -/
namespace Cz
open L2 PyProof.Rows PySem.Spec PySem
def cutsD (A : Ad) (bs : List Lot) (ss : List (Lot × Bool × Int)) : D := .obj A.Cuts [("blocks", .tup (bs.map lotD)), ("parting", .tup (ss.map stD))]
theorem rg_lot (n : Nat) : D.tup (rgD ((n : Nat) : Int)) = lotD (List.range n) := by
  unfold rgD lotD lotL
  rw [Int.toNat_natCast]
theorem range_ne {n : Nat} (h : 1 ≤ n) : List.range n ≠ [] := by
  cases n with
  | zero => omega
  | succ n => simp [List.range_succ]
theorem all_bls (ps : List Bool) : allB (.lst (ps.map .bl)) = some (.d (.bl (ps.all id))) := by
  show (blsD (ps.map D.bl)).map _ = _
  have e : blsD (ps.map D.bl) = some ps := by
    induction ps with
    | nil => rfl
    | cons x l ih =>
      show (blsD (l.map D.bl)).map _ = _
      rw [ih]
      rfl
  rw [e]
  rfl
def one1 : D → D
  | .tup l => .bl (decide (((l.length : Nat) : Int) = 1))
  | d => d
def gt1 : D → Bool
  | .tup l => decide ((1 : Int) < ((l.length : Nat) : Int))
  | _ => false
theorem one_map (bs : List Lot) : (bs.map lotD).map one1 = (bs.map fun B => decide (((B.length : Nat) : Int) = 1)).map .bl := by
  (rw [List.map_map, List.map_map])
  refine List.map_congr_left fun B _ => ?_
  show D.bl (decide ((((lotL B).length : Nat) : Int) = 1)) = _
  rw [lotL_len]
  rfl
theorem single (bs : List Lot) (h : ∀ B ∈ bs, B ≠ []) : ((bs.map fun B => decide (((B.length : Nat) : Int) = 1)).all id) = decide (((((bs.map lotD).filter gt1).map id).length : Nat) = (0 : Int)) := by
  rw [List.map_id, Bool.eq_iff_iff, decide_eq_true_eq, List.all_eq_true]
  constructor
  · intro q
    have e : (bs.map lotD).filter gt1 = [] := by
      rw [List.filter_eq_nil_iff]
      intro d hd
      obtain ⟨B, m, rfl⟩ := List.mem_map.mp hd
      have := q _ (List.mem_map.mpr ⟨B, m, rfl⟩)
      have h1 : ((B.length : Nat) : Int) = 1 := of_decide_eq_true this
      intro z
      have z' : (1 : Int) < (((lotL B).length : Nat) : Int) := of_decide_eq_true z
      rw [lotL_len] at z'
      omega
    rw [e]
    rfl
  · intro q b hb
    have e : (bs.map lotD).filter gt1 = [] := List.eq_nil_of_length_eq_zero (by omega)
    obtain ⟨B, m, rfl⟩ := List.mem_map.mp hb
    have := List.filter_eq_nil_iff.mp e _ (List.mem_map.mpr ⟨B, m, rfl⟩)
    have h1 := pos_len (h B m)
    have z : ¬ (1 : Int) < (((lotL B).length : Nat) : Int) := fun z => this (decide_eq_true z)
    rw [lotL_len] at z
    (exact decide_eq_true (by omega))
theorem sm_lot {n : Nat} {L : Lot} (h : L.length ≤ 1000) : SmOk (n + 2) (lotD L) := .tup (by rw [lotL_len]; exact h) fun d hd => by
  obtain ⟨k, _, rfl⟩ := List.mem_map.mp hd
  exact .int
theorem sm_lots {n : Nat} {bs : List Lot} (h : bs.length ≤ 1000) (h2 : ∀ B ∈ bs, B.length ≤ 1000) : SmOk (n + 3) (.tup (bs.map lotD)) := .tup (by rw [List.length_map]; exact h) fun d hd => by
  obtain ⟨B, m, rfl⟩ := List.mem_map.mp hd
  exact sm_lot (h2 B m)
theorem sm_cut {n : Nat} (p : Bool × Int) : SmOk (n + 2) (cutD p) := .tup (by simp) fun d hd => by
  simp only [List.mem_cons, List.not_mem_nil, or_false] at hd
  rcases hd with rfl | rfl
  · exact .str
  · exact .int
theorem sm_st {n : Nat} {p : Lot × Bool × Int} (h : p.1.length ≤ 1000) : SmOk (n + 3) (stD p) := .tup (by simp) fun d hd => by
  simp only [List.mem_cons, List.not_mem_nil, or_false] at hd
  rcases hd with rfl | rfl
  · exact sm_lot h
  · exact sm_cut p.2
theorem sm_sts {n : Nat} {ss : List (Lot × Bool × Int)} (h : ss.length ≤ 1000) (h2 : ∀ p ∈ ss, p.1.length ≤ 1000) : SmOk (n + 4) (.tup (ss.map stD)) := .tup (by rw [List.length_map]; exact h) fun d hd => by
  obtain ⟨p, m, rfl⟩ := List.mem_map.mp hd
  exact sm_st (h2 p m)
theorem sm_fc {n : Nat} (o : Option (Bool × Int)) : SmOk (n + 2) (fcD o) := by
  cases o with
  | none => exact .non
  | some p => exact sm_cut p
theorem Tr.subs {g : Geo} {L : Lot} {b : List Lot} {s : List (Lot × Bool × Int)} (t : Tr g L b s) : ∀ p ∈ s, p.1.length ≤ L.length := by
  induction t with
  | leaf e => exact fun p m => by cases m
  | node e _ _ i1 i2 =>
    intro p m
    rcases List.mem_cons.mp m with rfl | m
    · exact Nat.le_refl _
    rcases List.mem_append.mp m with m | m
    · exact Nat.le_trans (i1 p m) low_le
    · exact Nat.le_trans (i2 p m) high_le
theorem Tr.blk {g : Geo} {L : Lot} {b : List Lot} {s : List (Lot × Bool × Int)} (t : Tr g L b s) : ∀ B ∈ b, B.length ≤ L.length := by
  induction t with
  | leaf e => exact fun B m => by rw [List.mem_singleton.mp m]; exact Nat.le_refl _
  | node e _ _ i1 i2 =>
    intro B m
    rcases List.mem_append.mp m with m | m
    · exact Nat.le_trans (i1 B m) low_le
    · exact Nat.le_trans (i2 B m) high_le
local macro_rules
  | `(tactic| simp_all only [$xs,*]) => `(tactic| simp (config := {decide := true}) only [mIfS, mRet, mAsg, mSetL, mNext, mDrop, mRetN, Oo.seq, Oo.out, Oo.ite, Oo.opt, Oo.nx, Oo.rt, Oo.bk, Oo.ct, Oo.no, Ok1.bind, Ok1.ok, Ok1.ite, Ok1.opt, e_var, e_rd1, e_rd2, e_rd3, e_c, e_pk1, e_pk2, e_pk3, e_pk4, e_pk5, e_pk6, e_nr1, e_nr2, e_nr3, e_fr1, e_fr2, e_fr3, e_fr4, e_fr5, e_fz1, e_fz2, e_fz3, e_fz4, e_ow, e_ow1, e_ow2, e_ls, e_ls1, e_ls2, e_pt1, e_pt2, e_fe, e_fe1, e_fe2, e_fe3,
    k_op, k_un, k_cb1, k_o1, k_o2, k_tr, k_and, k_or, k_not, k_andV, k_orV, k_notV, k_if, k_nil, k_cons, k_ref, k_tup, k_lst, e_al1, e_al2, e_mp, e_bd, k_cb, k_call, k_lm, k_yes, k_np, k_pt, k_sl, e_io, e_add1, e_add2, e_add3, e_sub, e_mul, mulOk_r, mulOk_l, e_fdiv, e_mod, e_pow, e_neg, e_lt, e_le, e_gt, e_ge, e_ltS, e_ix1, e_ix2, e_ix3, e_ix4, e_ix5, e_len1, e_len2, e_len3, e_len4, e_len5, e_bl, e_int1, e_abs, e_lst1, e_lst2, e_lst3, e_lst4, e_tup1, e_tup2, e_tup3, e_app, e_ext, e_at0, e_at1, e_at2, e_at3, e_in0, e_in1, e_in2, ex_some, k_items, k_rng1, k_rngE, e_i1, e_inr, e_ea1, e_ea2, e_ea3, e_ea4, Int.toNat_natCast, e_it1, e_it2, e_it3, e_it4, e_en1, e_en2, k_for, e_es1, e_es2, e_es3, e_nb1, e_nb2, e_rdd,
    k_callS, e_nq1, e_nq2, e_sv1, e_sv2, e_rf1, e_rf2, e_rf3, g_as1, g_as2, g_as3, g_as4, g_as5, g_as6, g_b1, g_b2, g_b3, g_b4, g_b5, g_b6, k_make, k_fld, e_fld, k_setA, e_ob1, e_pa1, e_pa2, k_asgG, e_gn, e_gnil, e_gcons, e_gtup, e_gtuk, e_gany1, e_gany2, e_gany3, k_dput, e_opk, e_opt, e_kt, e_kk1, e_kk2, e_ks1, e_ks2, e_dg1, e_dg2, e_ixk, e_din, e_dno, k_dnT, k_dnK, k_get2, e_dd1, e_dd2, e_pm1, e_pm2, k_disp, k_og, e_iob, k_oi, k_index, k_isi, k_chain, k_keys, e_fzs, k_forD, e_lo1, e_lo2, e_lb1, e_lb2, e_wi1, e_wi2, e_re1, e_re2, e_gd,
    decide_eq_true_eq, true_and, and_true, List.getElem?_cons_zero, List.getElem?_cons_succ, List.set_cons_zero, List.set_cons_succ, List.map_cons, List.map_nil, List.length_cons, List.length_nil, List.replicate_succ, List.replicate_zero, List.cons_append, List.nil_append, List.append_nil, if_true, if_false, k_ol, k_ob, k_oit, e_oit, e_tpl, k_par, e_st1, e_st2, k_star, e_sq1, e_sq2, k_tupRg, e_min2, e_max2, e_minL, e_maxL, e_tul0, e_mem1, e_eqI, e_neI, e_eqS, e_neS, e_ntd, y_lt1, y_lt2, y_lt3, y_lt4, y_lt5, y_lt6, y_tu1, y_tu2, y_tu3, y_tu4, y_tu5, y_st1, y_st2, y_in1, y_bo1, y_bo2, y_st3, y_tu6, y_tu7, y_in2, y_tu8, ex_bl, e_is1, e_is2, e_isn1, e_isn2, e_is3, e_is4, e_is5, e_is6, e_is7, e_is8, e_isn3, e_isn4, e_isn5, e_isn6, Option.map_none, Bool.not_true, Bool.not_false, Bool.false_eq_true, Bool.true_eq_false, Bool.not_eq_true', decide_eq_false_iff_not, k_meth, e_mth, Option.bind_some, e_trL, $xs,*])
variable {A : Ad} {h w : Int} {cs : List Cp}
theorem cutsinit_ok (k0 : Cps h w cs) : OkF (f_Cuts_init A) [.br (.obj A.Cuts []), .fz (layD A h w cs)] fun r as' => ∃ (bs : List Lot) (ss : List (Lot × Bool × Int)), Tr (geo h w cs) (List.range cs.length) bs ss ∧ r = .d .non ∧
    as' = [.br (.obj A.Cuts [("blocks", .tup ((srtN bs).map lotD)), ("parting", .tup (ss.map stD))]), .fz (layD A h w cs)] := by
  obtain ⟨l1, l2⟩ := k0.l
  have hS := geo_pos k0
  have ll := laylen_ok (A := A) (h := h) (w := w) l2
  have th := through_ok (A := A) k0 9 (List.range cs.length) (range_ne l1) (by rw [List.length_range]; omega) (by rw [List.length_range]; omega) (fun k hk => List.mem_range.mp hk)
  have rl := rg_lot cs.length
  have io : isOb A.Layout (layD A h w cs) := rfl
  obtain ⟨ly, hly⟩ : ∃ ly, ly = layD A h w cs := ⟨_, rfl⟩
  rw [← hly] at ll th io
  rw [← hly]
  refine OkF.run rfl ?_
  unfold m_Cuts_init
  refine Oo.cut (fun s => ∃ (bs : List Lot) (ss : List (Lot × Bool × Int)), Tr (geo h w cs) (List.range cs.length) bs ss ∧ s = [some (.br (.obj A.Cuts [])), some (.fz ly), some (.fz (.lst (bs.map lotD))), some (.fz (.lst (ss.map stD)))]) ?_ ?_
  · simp_all only [io]
    refine OkF.use ll ?_
    rintro r as' - ⟨rfl, rfl⟩
    have b1 : (0 : Int) ≤ ((cs.length : Nat) : Int) ∧ ((cs.length : Nat) : Int) < 2 ^ 63 := by omega
    have b2 : (0 : Int) ≤ ((cs.length : Nat) : Int) ∧ ((cs.length : Nat) : Int) ≤ 16777216 := by omega
    simp_all only [b1, b2, rl]
    refine OkF.use th ?_
    rintro r as' - ⟨⟨bs, ss, t, rfl⟩, rfl⟩
    simp_all only [true_and]
    exact ⟨bs, ss, t, rfl⟩
  rintro s ⟨bs, ss, t, rfl⟩
  have nb := t.len hS (range_ne l1)
  rw [List.length_range] at nb
  have so := sort_lots (fun B m => (t.sub hS (range_ne l1) B m).1) (by omega)
  simp_all only [so]
  exact ⟨bs, ss, t, rfl⟩
theorem cutslen_ok {bs : List Lot} {ss : List (Lot × Bool × Int)} : OkF (f_Cuts_len A) [.fz (cutsD A bs ss)] fun r as' => r = .d (.int (bs.length : Nat)) ∧ as' = [.fz (cutsD A bs ss)] := by
  refine OkF.run rfl ?_
  unfold m_Cuts_len cutsD
  have e : List.lookup ("blocks" : Str) [(("blocks" : Str), D.tup (bs.map lotD)), ("parting", .tup (ss.map stD))] = some (.tup (bs.map lotD)) := rfl
  simp_all only [e, List.length_map]
theorem cutsbool_ok {bs : List Lot} {ss : List (Lot × Bool × Int)} (hl : bs.length ≤ 1000) : OkF (f_Cuts_bool A) [.fz (cutsD A bs ss)] fun r as' => r = .d (.bl ((bs.map fun B => decide (((B.length : Nat) : Int) = 1)).all id)) ∧ as' = [.fz (cutsD A bs ss)] := by
  refine OkF.run rfl ?_
  unfold m_Cuts_bool cutsD
  have e : List.lookup ("blocks" : Str) [(("blocks" : Str), D.tup (bs.map lotD)), ("parting", .tup (ss.map stD))] = some (.tup (bs.map lotD)) := rfl
  simp_all only [true_and]
  refine Ok1.lcM one1 ?_
  simp_all only [e]
  refine ⟨by rw [List.length_map]; omega, fun e he => ?_, ?_⟩
  · obtain ⟨B, m, rfl⟩ := List.mem_map.mp he
    unfold lotD
    simp_all only [true_and]
    rfl
  · simp_all only [one_map, all_bls]
end Cz

/-! # LG -/
namespace Cz
open L2 PyProof.Rows PySem.Spec PySem
abbrev St3 := Lot × Bool × Int
abbrev Wt := Lot × List Lot × List St3
structure WkI (g : Geo) (n : Nat) (bs : List Lot) (ss : List St3) (P : List Wt) (F : List Lot) (j m : Nat) : Prop where
  tr : ∀ p ∈ P, Tr g p.1 p.2.1 p.2.2 ∧ p.1 ≠ [] ∧ p.1.length ≤ 8 ∧ ∀ k ∈ p.1, k < n
  bl : F ++ (P.map fun p => p.2.1).flatten = bs
  st : ss.drop j = (P.map fun p => p.2.2).flatten
  po : (P.map fun p => 2 * p.1.length - 1).sum ≤ m
  jl : j ≤ ss.length
section
variable {g : Geo} {n : Nat} {bs : List Lot} {ss : List St3} {P : List Wt} {F : List Lot} {j m : Nat} {L : Lot} {b : List Lot} {s : List St3}
theorem WkI.done (I : WkI g n bs ss [] F j m) : F = bs ∧ j = ss.length := by
  have h1 := I.bl
  have h2 := congrArg List.length I.st
  have h3 := I.jl
  rw [List.length_drop] at h2
  rw [List.map_nil, List.flatten_nil, List.append_nil] at h1
  rw [List.map_nil, List.flatten_nil, List.length_nil] at h2
  exact ⟨h1, by omega⟩
theorem WkI.end_ (I : WkI g n bs ss P F j 0) : P = [] := by
  cases P with
  | nil => rfl
  | cons p P =>
    have h := I.po
    have h1 := pos_len (I.tr p List.mem_cons_self).2.1
    rw [List.map_cons, List.sum_cons] at h
    omega
theorem WkI.leaf (hS : ∀ a, 1 ≤ g.S a) (I : WkI g n bs ss ((L, b, s) :: P) F j (m + 1)) (e : ac g L = []) : WkI g n bs ss P (F ++ [L]) j m := by
  obtain ⟨t, hn, _, _⟩ := I.tr _ List.mem_cons_self
  have ef : fc g L = none := (unc_fc hS).mpr ((unc_ac hS).mp e)
  have hp := I.po
  have h1 := pos_len hn
  have hb := I.bl
  have hs := I.st
  rw [List.map_cons, List.sum_cons] at hp
  rw [List.map_cons, List.flatten_cons] at hb hs
  dsimp only at t hp hb hs h1
  cases t with
  | leaf _ =>
    refine ⟨fun p hp => I.tr p (List.mem_cons_of_mem _ hp), ?_, ?_, by omega, I.jl⟩
    · rw [List.append_assoc]
      exact hb
    · exact hs
  | node e' _ _ => rw [ef] at e'; cases e'
theorem WkI.node (hS : ∀ a, 1 ≤ g.S a) {c : Bool × Int} {r : List (Bool × Int)} (I : WkI g n bs ss ((L, b, s) :: P) F j (m + 1)) (e : ac g L = c :: r) : ss[j]? = some (L, c) ∧ j < ss.length ∧
    ∃ b1 b2 s1 s2, WkI g n bs ss ((lowL g c.1 c.2 L, b1, s1) :: (highL g c.1 c.2 L, b2, s2) :: P) F (j + 1) m := by
  obtain ⟨t, hn, h8, hk⟩ := I.tr _ List.mem_cons_self
  have ef : fc g L = some (c.1, c.2) := by
    rw [fc_eq hS, e]
    rfl
  obtain ⟨v1, v2, v3⟩ := fc_vld hS ef
  have hl := split_len hS v1
  have p1 := pos_len v2
  have p2 := pos_len v3
  have hp := I.po
  have h1 := pos_len hn
  have hb := I.bl
  have hs := I.st
  rw [List.map_cons, List.sum_cons] at hp
  rw [List.map_cons, List.flatten_cons] at hb hs
  dsimp only at t hp hb hs h1 h8 hk
  cases t with
  | leaf e' => rw [ef] at e'; cases e'
  | node e' t1 t2 =>
    rw [ef] at e'
    cases e'
    rename_i b1 b2 s1 s2
    have jl : j < ss.length := by
      refine Nat.lt_of_not_le fun z => ?_
      rw [List.drop_eq_nil_of_le z] at hs
      cases hs
    have hs2 := hs
    rw [List.drop_eq_getElem_cons jl] at hs2
    obtain ⟨q1, q2⟩ := List.cons.inj hs2
    refine ⟨by rw [List.getElem?_eq_getElem jl, q1], jl, b1, b2, s1, s2, ?_, ?_, ?_, ?_, jl⟩
    · intro p hp
      (rcases List.mem_cons.mp hp with rfl | hp)
      · exact ⟨t1, v2, Nat.le_trans low_le h8, fun k hk' => hk k (low_mem.mp hk').1⟩
      (rcases List.mem_cons.mp hp with rfl | hp)
      · exact ⟨t2, v3, Nat.le_trans high_le h8, fun k hk' => hk k (high_mem.mp hk').1⟩
      · exact I.tr p (List.mem_cons_of_mem _ hp)
    · rw [List.map_cons, List.map_cons, List.flatten_cons, List.flatten_cons]
      rw [← hb, List.append_assoc b1]
    · rw [q2]
      rw [List.map_cons, List.map_cons, List.flatten_cons, List.flatten_cons, ← List.append_assoc]
      rfl
    · rw [List.map_cons, List.map_cons, List.sum_cons, List.sum_cons]
      dsimp only
      omega
end
theorem upTo_lot (n : Nat) : upTo n = lotL (List.range n) := by
  unfold upTo lotL
  (refine List.map_congr_left fun i _ => ?_)
  rw [Int.zero_add]
theorem pop_end {l : List D} {d : D} : popF [] (l ++ [d]) = some (d, l) := by
  show (match (l ++ [d]).getLast? with
    | some d' => some (d', (l ++ [d]).dropLast)
    | none => none) = _
  rw [List.getLast?_append]
  simp
theorem st_at {ss : List St3} {j : Nat} {p : St3} (h : ss[j]? = some p) : atI (ss.map stD) ((j : Nat) : Int) = some (stD p) := atI_nat (by rw [List.getElem?_map, h]; rfl)
def stk (P : List Wt) : List D := P.reverse.map fun p => lotD p.1
theorem stk_cons (p : Wt) (P : List Wt) : stk (p :: P) = stk P ++ [lotD p.1] := by
  unfold stk
  rw [List.reverse_cons, List.map_append]
  rfl
theorem stk_len (P : List Wt) : (stk P).length = P.length := by
  unfold stk
  rw [List.length_map, List.length_reverse]
local macro_rules
  | `(tactic| simp_all only [$xs,*]) => `(tactic| simp (config := {decide := true}) only [mIfS, mRet, mAsg, mSetL, mNext, mDrop, mRetN, Oo.seq, Oo.out, Oo.ite, Oo.opt, Oo.nx, Oo.rt, Oo.bk, Oo.ct, Oo.no, Ok1.bind, Ok1.ok, Ok1.ite, Ok1.opt, e_var, e_rd1, e_rd2, e_rd3, e_c, e_pk1, e_pk2, e_pk3, e_pk4, e_pk5, e_pk6, e_nr1, e_nr2, e_nr3, e_fr1, e_fr2, e_fr3, e_fr4, e_fr5, e_fz1, e_fz2, e_fz3, e_fz4, e_ow, e_ow1, e_ow2, e_ls, e_ls1, e_ls2, e_pt1, e_pt2, e_fe, e_fe1, e_fe2, e_fe3,
    k_op, k_un, k_cb1, k_o1, k_o2, k_tr, k_and, k_or, k_not, k_andV, k_orV, k_notV, k_if, k_nil, k_cons, k_ref, k_tup, k_lst, e_al1, e_al2, e_mp, e_bd, k_cb, k_call, k_lm, k_yes, k_np, k_pt, k_sl, e_io, e_add1, e_add2, e_add3, e_sub, e_mul, mulOk_r, mulOk_l, e_fdiv, e_mod, e_pow, e_neg, e_lt, e_le, e_gt, e_ge, e_ltS, e_ix1, e_ix2, e_ix3, e_ix4, e_ix5, e_len1, e_len2, e_len3, e_len4, e_len5, e_bl, e_int1, e_abs, e_lst1, e_lst2, e_lst3, e_lst4, e_tup1, e_tup2, e_tup3, e_app, e_ext, e_at0, e_at1, e_at2, e_at3, e_in0, e_in1, e_in2, ex_some, k_items, k_rng1, k_rngE, e_i1, e_inr, e_ea1, e_ea2, e_ea3, e_ea4, Int.toNat_natCast, e_it1, e_it2, e_it3, e_it4, e_en1, e_en2, k_for, e_es1, e_es2, e_es3, e_nb1, e_nb2, e_rdd,
    k_callS, e_nq1, e_nq2, e_sv1, e_sv2, e_rf1, e_rf2, e_rf3, g_as1, g_as2, g_as3, g_as4, g_as5, g_as6, g_b1, g_b2, g_b3, g_b4, g_b5, g_b6, k_make, k_fld, e_fld, k_setA, e_ob1, e_pa1, e_pa2, k_asgG, e_gn, e_gnil, e_gcons, e_gtup, e_gtuk, e_gany1, e_gany2, e_gany3, k_dput, e_opk, e_opt, e_kt, e_kk1, e_kk2, e_ks1, e_ks2, e_dg1, e_dg2, e_ixk, e_din, e_dno, k_dnT, k_dnK, k_get2, e_dd1, e_dd2, e_pm1, e_pm2, k_disp, k_og, e_iob, k_oi, k_index, k_isi, k_chain, k_keys, e_fzs, k_forD, e_lo1, e_lo2, e_lb1, e_lb2, e_wi1, e_wi2, e_re1, e_re2, e_gd,
    decide_eq_true_eq, true_and, and_true, List.getElem?_cons_zero, List.getElem?_cons_succ, List.set_cons_zero, List.set_cons_succ, List.map_cons, List.map_nil, List.length_cons, List.length_nil, List.replicate_succ, List.replicate_zero, List.cons_append, List.nil_append, List.append_nil, if_true, if_false, k_ol, k_ob, k_oit, e_oit, e_tpl, k_par, e_st1, e_st2, k_star, e_sq1, e_sq2, k_tupRg, e_min2, e_max2, e_minL, e_maxL, e_tul0, e_mem1, e_eqI, e_neI, e_eqS, e_neS, e_ntd, y_lt1, y_lt2, y_lt3, y_lt4, y_lt5, y_lt6, y_tu1, y_tu2, y_tu3, y_tu4, y_tu5, y_st1, y_st2, y_in1, y_bo1, y_bo2, y_st3, y_tu6, y_tu7, y_in2, y_tu8, ex_bl, e_is1, e_is2, e_isn1, e_isn2, e_is3, e_is4, e_is5, e_is6, e_is7, e_is8, e_isn3, e_isn4, e_isn5, e_isn6, Option.map_none, Bool.not_true, Bool.not_false, Bool.false_eq_true, Bool.true_eq_false, Bool.not_eq_true', decide_eq_false_iff_not, k_meth, e_mth, Option.bind_some, e_trL, $xs,*])
variable {A : Ad} {h w : Int} {cs : List Cp}
theorem toldright_ok {bs : List Lot} {ss : List St3} (h1 : ∀ B ∈ bs, B ≠ [] ∧ B.length ≤ 8) (h2 : ∀ p ∈ ss, p.1.length ≤ 8) (l1 : bs.length ≤ 8) (l2 : ss.length ≤ 8) : OkF (f_l_told_right A) [.fz (cutsD A bs ss), .fz (.tup (bs.map lotD)), .fz (.tup (ss.map stD))] fun r as' => r = .d (.bl true) ∧ as' = [.fz (cutsD A bs ss), .fz (.tup (bs.map lotD)), .fz (.tup (ss.map stD))] := by
  have c1 := cutslen_ok (A := A) (bs := bs) (ss := ss)
  have c2 := cutsbool_ok (A := A) (bs := bs) (ss := ss) (by omega)
  have s1 := same_ok (A := A) 6 (.tup (bs.map lotD)) (sm_lots (n := 3) (by omega) fun B m => by have := (h1 B m).2; omega)
  have s2 := same_ok (A := A) 6 (.tup (ss.map stD)) (sm_sts (n := 2) (by omega) fun p m => by have := h2 p m; omega)
  have e1 : fldD [A.Cuts] "blocks" (cutsD A bs ss) = some (.tup (bs.map lotD)) := by
    unfold cutsD
    rw [e_fld, if_pos List.mem_cons_self]
    rfl
  have e2 : fldD [A.Cuts] "parting" (cutsD A bs ss) = some (.tup (ss.map stD)) := by
    unfold cutsD
    rw [e_fld, if_pos List.mem_cons_self]
    rfl
  have io : isOb A.Cuts (cutsD A bs ss) := rfl
  have oi : ownIt A.Cuts "blocks" (cutsD A bs ss) = some (bs.map lotD) := by
    unfold cutsD
    rw [e_oit, if_pos rfl]
    rfl
  have sg := single bs fun B m => (h1 B m).1
  obtain ⟨td, htd⟩ : ∃ td, td = cutsD A bs ss := ⟨_, rfl⟩
  rw [← htd] at c1 c2 e1 e2 io oi
  rw [← htd]
  refine OkF.run rfl ?_
  unfold m_l_told_right
  refine Oo.cut (fun s => s = [some (.fz td), some (.fz (.tup (bs.map lotD))), some (.fz (.tup (ss.map stD))), none]) ?_ ?_
  · simp_all only [e1]
    refine OkF.use s1 ?_
    rintro r as' - ⟨rfl, rfl⟩
    simp_all only [e2]
    refine OkF.use s2 ?_
    rintro r as' - ⟨rfl, rfl⟩
    simp_all only [true_and]
  rintro s rfl
  refine Oo.cut (fun s => s = [some (.fz td), some (.fz (.tup (bs.map lotD))), some (.fz (.tup (ss.map stD))), none]) ?_ ?_
  · simp_all only [io]
    refine OkF.use c1 ?_
    rintro r as' - ⟨rfl, rfl⟩
    have b1 : (0 : Int) ≤ ((bs.length : Nat) : Int) ∧ ((bs.length : Nat) : Int) < 2 ^ 63 := by omega
    simp_all only [b1, List.length_map]
    refine Ok1.lcM id ?_
    simp_all only [oi]
    refine ⟨by rw [List.length_map]; omega, fun e he => rfl, ?_⟩
    rw [List.map_id]
    simp_all only [true_and]
    refine OkF.use s1 ?_
    rintro r as' - ⟨rfl, rfl⟩
    simp_all only [true_and]
  rintro s rfl
  simp_all only [io]
  refine OkF.use c2 ?_
  rintro r as' - ⟨rfl, rfl⟩
  simp_all only [true_and]
  refine Ok1.lcP gt1 id ?_
  simp_all only [true_and]
  refine ⟨by rw [List.length_map]; omega, fun e he => ?_, ?_⟩
  · obtain ⟨B, m, rfl⟩ := List.mem_map.mp he
    refine ⟨_, e_gnT rfl, ?_⟩
    have tt : gt1 (lotD B) = decide ((1 : Int) < (((lotL B).length : Nat) : Int)) := rfl
    have tl : lenD (lotD B) = some (.d (.int ((lotL B).length : Nat))) := rfl
    simp_all only [tt, tl]
    split <;> first | rfl | trivial
  · have eb : ∀ b : Bool, eqD (.bl b) (.bl b) = some (.d (.bl true)) := fun b => by cases b <;> rfl
    have el : ∀ b : Bool, lenD (.lst (((bs.map lotD).filter gt1).map id)) = some (.d (.int ((((bs.map lotD).filter gt1).map id).length : Nat))) := fun _ => rfl
    simp_all only [sg, eb]
theorem cutright_ok {L : Lot} (k0 : Cps h w cs) (hk : ∀ k ∈ L, k < cs.length) (hn : L ≠ []) (hl : L.length ≤ 8) : OkF (f_l_cut_right A) [.fz (szD h w), .fz (.lst (cs.map cpD)), .fz (layD A h w cs), .fz (lotD L)] fun r as' => r = .d (.bl true) ∧ as' = [.fz (szD h w), .fz (.lst (cs.map cpD)), .fz (layD A h w cs), .fz (lotD L)] := by
  have hS := geo_pos k0
  have ca := allcuts_ok (A := A) k0 hk hn hl
  have f1 := firstcut_ok (A := A) (h := h) (w := w) (cs := cs) (d := lotD L) rfl hk hl k0.hh.1 k0.ww.1
  have f2 := firstcut_ok (A := A) (h := h) (w := w) (cs := cs) (d := .lst (lotL L)) rfl hk hl k0.hh.1 k0.ww.1
  have sm := same_ok (A := A) 6 (fcD (fc (geo h w cs) L)) (sm_fc (n := 4) _)
  have ef := fc_eq (L := L) hS
  have le : listD (lotD L) = some (.o (.lst (lotL L))) := rfl
  obtain ⟨sz, hsz⟩ : ∃ sz, sz = szD h w := ⟨_, rfl⟩
  obtain ⟨cd, hcd⟩ : ∃ cd, cd = D.lst (cs.map cpD) := ⟨_, rfl⟩
  obtain ⟨ly, hly⟩ : ∃ ly, ly = layD A h w cs := ⟨_, rfl⟩
  obtain ⟨ld, hld⟩ : ∃ ld, ld = lotD L := ⟨_, rfl⟩
  rw [← hsz, ← hcd, ← hld] at ca
  rw [← hly, ← hld] at f1
  rw [← hly] at f2
  rw [← hld] at le
  rw [← hsz, ← hcd, ← hly, ← hld]
  refine OkF.run rfl ?_
  unfold m_l_cut_right
  refine Oo.cut (fun s => s = [some (.fz sz), some (.fz cd), some (.fz ly), some (.fz ld), some (.ow (.lst ((ac (geo h w cs) L).map cutD))), none]) ?_ ?_
  · simp_all only [true_and]
    refine OkF.use ca ?_
    rintro r as' - ⟨rfl, rfl⟩
    simp_all only [true_and]
  rintro s rfl
  refine Oo.cut (fun s => s = [some (.fz sz), some (.fz cd), some (.fz ly), some (.fz ld), some (.ow (.lst ((ac (geo h w cs) L).map cutD))), some (.fz (fcD (fc (geo h w cs) L)))]) ?_ ?_
  · rw [ef]
    cases ac (geo h w cs) L with
    | nil =>
      have e0 : (List.map cutD ([] : List (Bool × Int))).isEmpty = true := rfl
      simp_all only [e0]
      rfl
    | cons c r =>
      have e0 : (List.map cutD (c :: r)).isEmpty = false := rfl
      simp_all only [e0]
      rfl
  rintro s rfl
  simp_all only [true_and]
  refine OkF.use f1 ?_
  rintro r as' - ⟨rfl, rfl⟩
  simp_all only [true_and]
  refine OkF.use sm ?_
  rintro r as' - ⟨rfl, rfl⟩
  simp_all only [le]
  refine OkF.use f2 ?_
  rintro r as' - ⟨rfl, rfl⟩
  simp_all only [true_and]
  refine OkF.use sm ?_
  rintro r as' - ⟨rfl, rfl⟩
  simp_all only [true_and]
end Cz

/-! # LH -/
namespace Cz
open L2 PyProof.Rows PySem.Spec PySem
theorem sum_ge : ∀ P : List Wt, (∀ p ∈ P, p.1 ≠ []) → P.length ≤ (P.map fun p => 2 * p.1.length - 1).sum
  | [], _ => Nat.le_refl _
  | p :: P, h => by
    have h1 := pos_len (h p List.mem_cons_self)
    have h2 := sum_ge P fun q hq => h q (List.mem_cons_of_mem _ hq)
    rw [List.map_cons, List.sum_cons, List.length_cons]
    omega
theorem e_tupG {l : List D} : tupD (.lst l) = some (.d (.tup l)) := rfl
theorem ex_one {α : Type} {a : α} : (∃ x, some a = some x) ↔ True := ⟨fun _ => trivial, fun _ => ⟨a, rfl⟩⟩
local macro_rules
  | `(tactic| simp_all only [$xs,*]) => `(tactic| simp (config := {decide := true}) only [mIfS, mRet, mAsg, mSetL, mNext, mDrop, mRetN, Oo.seq, Oo.out, Oo.ite, Oo.opt, Oo.nx, Oo.rt, Oo.bk, Oo.ct, Oo.no, Ok1.bind, Ok1.ok, Ok1.ite, Ok1.opt, e_var, e_rd1, e_rd2, e_rd3, e_c, e_pk1, e_pk2, e_pk3, e_pk4, e_pk5, e_pk6, e_nr1, e_nr2, e_nr3, e_fr1, e_fr2, e_fr3, e_fr4, e_fr5, e_fz1, e_fz2, e_fz3, e_fz4, e_ow, e_ow1, e_ow2, e_ls, e_ls1, e_ls2, e_pt1, e_pt2, e_fe, e_fe1, e_fe2, e_fe3,
    k_op, k_un, k_cb1, k_o1, k_o2, k_tr, k_and, k_or, k_not, k_andV, k_orV, k_notV, k_if, k_nil, k_cons, k_ref, k_tup, k_lst, e_al1, e_al2, e_mp, e_bd, k_cb, k_call, k_lm, k_yes, k_np, k_pt, k_sl, e_io, e_add1, e_add2, e_add3, e_sub, e_mul, mulOk_r, mulOk_l, e_fdiv, e_mod, e_pow, e_neg, e_lt, e_le, e_gt, e_ge, e_ltS, e_ix1, e_ix2, e_ix3, e_ix4, e_ix5, e_len1, e_len2, e_len3, e_len4, e_len5, e_bl, e_int1, e_abs, e_lst1, e_lst2, e_lst3, e_lst4, e_tup1, e_tup2, e_tup3, e_app, e_ext, e_at0, e_at1, e_at2, e_at3, e_in0, e_in1, e_in2, ex_some, k_items, k_rng1, k_rngE, e_i1, e_inr, e_ea1, e_ea2, e_ea3, e_ea4, Int.toNat_natCast, e_it1, e_it2, e_it3, e_it4, e_en1, e_en2, k_for, e_es1, e_es2, e_es3, e_nb1, e_nb2, e_rdd,
    k_callS, e_nq1, e_nq2, e_sv1, e_sv2, e_rf1, e_rf2, e_rf3, g_as1, g_as2, g_as3, g_as4, g_as5, g_as6, g_b1, g_b2, g_b3, g_b4, g_b5, g_b6, k_make, k_fld, e_fld, k_setA, e_ob1, e_pa1, e_pa2, k_asgG, e_gn, e_gnil, e_gcons, e_gtup, e_gtuk, e_gany1, e_gany2, e_gany3, k_dput, e_opk, e_opt, e_kt, e_kk1, e_kk2, e_ks1, e_ks2, e_dg1, e_dg2, e_ixk, e_din, e_dno, k_dnT, k_dnK, k_get2, e_dd1, e_dd2, e_pm1, e_pm2, k_disp, k_og, e_iob, k_oi, k_index, k_isi, k_chain, k_keys, e_fzs, k_forD, e_lo1, e_lo2, e_lb1, e_lb2, e_wi1, e_wi2, e_re1, e_re2, e_gd,
    decide_eq_true_eq, true_and, and_true, List.getElem?_cons_zero, List.getElem?_cons_succ, List.set_cons_zero, List.set_cons_succ, List.map_cons, List.map_nil, List.length_cons, List.length_nil, List.replicate_succ, List.replicate_zero, List.cons_append, List.nil_append, List.append_nil, if_true, if_false, k_ol, k_ob, k_oit, e_oit, e_tpl, k_par, e_st1, e_st2, k_star, e_sq1, e_sq2, k_tupRg, e_min2, e_max2, e_minL, e_maxL, e_tul0, e_mem1, e_eqI, e_neI, e_eqS, e_neS, e_ntd, y_lt1, y_lt2, y_lt3, y_lt4, y_lt5, y_lt6, y_tu1, y_tu2, y_tu3, y_tu4, y_tu5, y_st1, y_st2, y_in1, y_bo1, y_bo2, y_st3, y_tu6, y_tu7, y_in2, y_tu8, ex_bl, e_is1, e_is2, e_isn1, e_isn2, e_is3, e_is4, e_is5, e_is6, e_is7, e_is8, e_isn3, e_isn4, e_isn5, e_isn6, Option.map_none, Bool.not_true, Bool.not_false, Bool.false_eq_true, Bool.true_eq_false, Bool.not_eq_true', decide_eq_false_iff_not, k_meth, e_mth, Option.bind_some, ex_one, e_trL, mBreak, mCont, $xs,*])
variable {A : Ad} {h w : Int} {cs : List Cp}
theorem walked_ok (k0 : Cps h w cs) {bs : List Lot} {ss : List St3} (t : Tr (geo h w cs) (List.range cs.length) bs ss) : OkF (f_l_walked A) [.fz (szD h w), .fz (.lst (cs.map cpD)), .fz (.tup (ss.map stD))] fun r as' =>
    r = .d (.tup ((srtN bs).map lotD)) ∧ as' = [.fz (szD h w), .fz (.lst (cs.map cpD)), .fz (.tup (ss.map stD))] := by
  obtain ⟨l1, l2⟩ := k0.l
  have hS := geo_pos k0
  have nr := range_ne l1
  have nb := t.len hS nr
  have cnt := t.count
  rw [List.length_range] at nb
  have ca : ∀ L : Lot, _ := fun L => allcuts_ok (A := A) (L := L) k0
  have sd : ∀ (L : Lot) (a : Bool) (n : Int), _ := fun L a n => sides_ok (A := A) (h := h) (w := w) (cs := cs) (L := L) (a := a) (n := n)
  have so := sort_lots (fun B m => (t.sub hS nr B m).1) (show bs.length ≤ 1000 by omega)
  have lcd : lenD (.lst (cs.map cpD)) = some (.d (.int (cs.length : Nat))) := by rw [e_len1, List.length_map]
  obtain ⟨g, hg⟩ : ∃ g, g = geo h w cs := ⟨_, rfl⟩
  obtain ⟨sz, hsz⟩ : ∃ sz, sz = szD h w := ⟨_, rfl⟩
  obtain ⟨cd, hcd⟩ : ∃ cd, cd = D.lst (cs.map cpD) := ⟨_, rfl⟩
  obtain ⟨pd, hpd⟩ : ∃ pd, pd = D.tup (ss.map stD) := ⟨_, rfl⟩
  have lpd : lenD pd = some (.d (.int (ss.length : Nat))) := by rw [hpd, e_len3, List.length_map]
  have ipd : ∀ (j : Nat) (p : St3), ss[j]? = some p → ixD pd (.int (j : Nat)) = some (.d (stD p)) := fun j p e => by
    rw [hpd, e_ix3, st_at e]
    rfl
  rw [← hg] at t hS
  simp only [← hg, ← hsz, ← hcd] at ca sd
  rw [← hcd] at lcd
  rw [← hsz, ← hcd, ← hpd]
  have k73 := k0
  refine OkF.run rfl ?_
  unfold m_l_walked
  refine Oo.cut (fun s => s = [some (.fz sz), some (.fz cd), some (.fz pd), some (.ow (.lst (stk [(List.range cs.length, bs, ss)]))), none, none, none, none, none, none, none]) ?_ ?_
  · simp_all only [true_and]
    refine Ok1.lcM id ?_
    simp_all only [lcd, e_inrN (n := cs.length) (by omega)]
    refine ⟨by simp [upTo]; omega, fun e he => rfl, ?_⟩
    rw [List.map_id, upTo_lot]
    simp_all only [true_and]
    rfl
  rintro s rfl
  refine Oo.cut (fun s => s = [some (.fz sz), some (.fz cd), some (.fz pd), some (.ow (.lst (stk [(List.range cs.length, bs, ss)]))), none, some (.ow (.lst [])), none, none, none, none, none]) ?_ ?_
  · simp_all only [true_and]
  rintro s rfl
  refine Oo.cut (fun s => s = [some (.fz sz), some (.fz cd), some (.fz pd), some (.ow (.lst (stk [(List.range cs.length, bs, ss)]))), none, some (.ow (.lst [])), some (.fz (.int (0 : Nat))), none, none, none, none]) ?_ ?_
  · simp_all only [true_and]
    rfl
  rintro s rfl
  refine Oo.cut (fun s => ∃ z4 z7 z8 z9 z10 : Option SV, s = [some (.fz sz), some (.fz cd), some (.fz pd), some (.ow (.lst [])), z4, some (.ow (.lst (bs.map lotD))), some (.fz (.int (ss.length : Nat))), z7, z8, z9, z10]) ?_ ?_
  · have hr : InR (2 * ((cs.length : Nat) : Int)) := e_inr (by omega) (by omega)
    have ht : (2 * ((cs.length : Nat) : Int)).toNat = 2 * cs.length := by omega
    simp_all only [lcd, hr, ht]
    have I0 : WkI g cs.length bs ss [(List.range cs.length, bs, ss)] [] 0 (upTo (2 * cs.length)).length := by
      refine ⟨fun p hp => ?_, ?_, ?_, ?_, Nat.zero_le _⟩
      · (rw [List.mem_singleton.mp hp])
        exact ⟨t, nr, by rw [List.length_range]; omega, fun k hk => List.mem_range.mp hk⟩
      · simp
      · simp
      · simp [upTo]
    refine Oo.loop (fun ds s => ∃ (P : List Wt) (F : List Lot) (j : Nat) (z4 z7 z8 z9 z10 : Option SV), WkI g cs.length bs ss P F j ds.length ∧ ds.length ≤ 16 ∧ s = [some (.fz sz), some (.fz cd), some (.fz pd), some (.ow (.lst (stk P))), z4, some (.ow (.lst (F.map lotD))), some (.fz (.int (j : Nat))), z7, z8, z9, z10] ∧
      feS (some z4) = true ∧ feS (some z7) = true ∧ feS (some z8) = true ∧ feS (some z9) = true ∧ feS (some z10) = true) ?_ ?_ _ _ ⟨_, [], 0, none, none, none, none, none, I0, (by simp [upTo]; omega), rfl, rfl, rfl, rfl, rfl, rfl⟩
    · rintro s ⟨P, F, j, z4, z7, z8, z9, z10, I, -, rfl, -⟩
      have e := I.end_
      subst e
      obtain ⟨rfl, rfl⟩ := I.done
      exact ⟨z4, z7, z8, z9, z10, rfl⟩
    · rintro e ds s ⟨P, F, j, z4, z7, z8, z9, z10, I, d16, rfl, f4, f7, f8, f9, f10⟩
      refine ⟨_, e_gnT f4, ?_⟩
      cases P with
      | nil =>
        have e0 : stk [] = [] := rfl
        obtain ⟨rfl, rfl⟩ := I.done
        simp_all only [e0]
        exact ⟨_, _, _, _, _, rfl⟩
      | cons p P =>
        obtain ⟨L, b, s⟩ := p
        obtain ⟨tt, hn, h8, hk⟩ := I.tr _ List.mem_cons_self
        dsimp only at tt hn h8 hk
        have ln : ((stk ((L, b, s) :: P)).length : Int) ≠ 0 := by
          rw [stk_len]
          simp
          omega
        have Il : WkI g cs.length bs ss ((L, b, s) :: P) F j (ds.length + 1) := I
        refine Oo.cut (fun s' => s' = [some (.fz sz), some (.fz cd), some (.fz pd), some (.ow (.lst (stk ((L, b, s) :: P)))), some (.fz e), some (.ow (.lst (F.map lotD))), some (.fz (.int (j : Nat))), z7, z8, z9, z10]) ?_ ?_
        · simp_all only [ln]
        rintro s' rfl
        refine Oo.cut (fun s' => s' = [some (.fz sz), some (.fz cd), some (.fz pd), some (.ow (.lst (stk P))), some (.fz e), some (.ow (.lst (F.map lotD))), some (.fz (.int (j : Nat))), some (.fz (lotD L)), z8, z9, z10]) ?_ ?_
        · have ep : popF [] (stk ((L, b, s) :: P)) = some (lotD L, stk P) := by
            rw [stk_cons]
            exact pop_end
          simp_all only [ep, f7]
        rintro s' rfl
        refine Oo.cut (fun s' => s' = [some (.fz sz), some (.fz cd), some (.fz pd), some (.ow (.lst (stk P))), some (.fz e), some (.ow (.lst (F.map lotD))), some (.fz (.int (j : Nat))), some (.fz (lotD L)), some (.ow (.lst ((ac g L).map cutD))), z9, z10]) ?_ ?_
        · simp_all only [true_and]
          refine OkF.use (ca L hk hn h8) ?_
          rintro r as' - ⟨rfl, rfl⟩
          simp_all only [f8]
        rintro s' rfl
        have lF : F.length ≤ 8 := by
          have := congrArg List.length I.bl
          rw [List.length_append] at this
          omega
        have lP : (stk P).length ≤ 100 := by
          have q := Nat.le_trans (sum_ge _ fun p hp => (Il.tr p hp).2.1) Il.po
          have d16' : ds.length + 1 ≤ 16 := d16
          rw [stk_len]
          rw [List.length_cons] at q
          omega
        have d15 : ds.length ≤ 16 := by
          have d16' : ds.length + 1 ≤ 16 := d16
          omega
        cases ea : ac g L with
        | nil =>
          have I2 := Il.leaf hS ea
          have sF : (F.map lotD).length < 100000 := by rw [List.length_map]; omega
          refine Oo.seq.mpr ?_
          have e0 : lenD (.lst (([] : List (Bool × Int)).map cutD)) = some (.d (.int (0 : Nat))) := rfl
          simp_all only [sF]
          refine ⟨P, F ++ [L], j, some (.fz e), some (.fz (lotD L)), some (.ow (.lst [])), z9, z10, I2, d15, ?_, rfl, rfl, rfl, f9, f10⟩
          rw [List.map_append]
          rfl
        | cons c r =>
          obtain ⟨q1, q2, b1, b2, s1, s2, I2⟩ := Il.node hS ea
          obtain ⟨a, n⟩ := c
          have ei := ipd j _ q1
          have e8 : ixD (.lst (((a, n) :: r).map cutD)) (.int 0) = some (.d (cutD (a, n))) := by
            rw [e_ix1]
            show (atI (cutD (a, n) :: r.map cutD) 0).map _ = _
            rw [e_at0]
            rfl
          have nz : ¬ (((((a, n) :: r).map cutD).length : Nat) : Int) = 0 := by
            rw [List.length_map, List.length_cons]
            omega
          have jl : ¬ (((ss.length : Nat) : Int) ≤ ((j : Nat) : Int)) := by omega
          have sm := same_ok (A := A) 6 (stD (L, a, n)) (sm_st (n := 3) (by dsimp only; omega))
          obtain ⟨cl, hcl⟩ : ∃ cl, cl = ((a, n) :: r).map cutD := ⟨_, rfl⟩
          rw [← hcl] at e8 nz
          rw [← hcl]
          refine Oo.cut (fun s' => s' = [some (.fz sz), some (.fz cd), some (.fz pd), some (.ow (.lst (stk P))), some (.fz e), some (.ow (.lst (F.map lotD))), some (.fz (.int (j : Nat))), some (.fz (lotD L)), some (.ow (.lst cl)), z9, z10]) ?_ ?_
          · simp_all only [nz]
          rintro s' rfl
          refine Oo.cut (fun s' => s' = [some (.fz sz), some (.fz cd), some (.fz pd), some (.ow (.lst (stk P))), some (.fz e), some (.ow (.lst (F.map lotD))), some (.fz (.int (j : Nat))), some (.fz (lotD L)), some (.ow (.lst cl)), z9, z10]) ?_ ?_
          · simp_all only [lpd, jl, ei, e8]
            refine OkF.use sm ?_
            rintro r as' - ⟨rfl, rfl⟩
            simp_all only [true_and]
          rintro s' rfl
          refine Oo.cut (fun s' => s' = [some (.fz sz), some (.fz cd), some (.fz pd), some (.ow (.lst (stk P))), some (.fz e), some (.ow (.lst (F.map lotD))), some (.fz (.int (j : Nat))), some (.fz (lotD L)), some (.ow (.lst cl)), some (.fz (lotD (lowL g a n L))), some (.fz (lotD (highL g a n L)))]) ?_ ?_
          · simp_all only [e8]
            refine OkF.use (sd L a n hk h8) ?_
            rintro r as' - ⟨rfl, rfl⟩
            simp_all only [f9, f10]
          rintro s' rfl
          have s1 : (stk P).length < 100000 := by
            rw [stk_len] at lP ⊢
            omega
          have s2 : (stk P).length + 1 < 100000 := by omega
          simp_all only [s1, s2, List.length_append]
          refine ⟨_, F, j + 1, some (.fz e), some (.fz (lotD L)), some (.ow (.lst cl)), some (.fz (lotD (lowL g a n L))), some (.fz (lotD (highL g a n L))), I2, d15, ?_, rfl, rfl, rfl, rfl, rfl⟩
          rw [stk_cons, stk_cons]
          rfl
  rintro s ⟨z4, z7, z8, z9, z10, rfl⟩
  simp_all only [lpd, so]
end Cz

/-! # LI -/
namespace Cz
open L2 PyProof.Rows PySem.Spec PySem
def potN (Bs : List Lot) : Nat := (Bs.map fun B => 2 * B.length - 1).sum
structure PkI (g : Geo) (n : Nat) (lots F : List Lot) (m : Nat) : Prop where
  pt : Part g (List.range n) (F ++ lots)
  un : ∀ B ∈ F, Unc g B
  po : potN lots ≤ m
theorem pot_perm {xs ys : List Lot} (p : xs.Perm ys) : potN xs = potN ys := (p.map _).sum_nat
theorem pot_cons (B : Lot) (xs : List Lot) : potN (B :: xs) = (2 * B.length - 1) + potN xs := by
  unfold potN
  (rw [List.map_cons, List.sum_cons])
theorem part_len {g : Geo} {R : Lot} {Bs : List Lot} (h : Part g R Bs) {B : Lot} (m : B ∈ Bs) : B.length ≤ R.length ∧ ∀ x ∈ B, x ∈ R := by
  refine ⟨?_, fun x hx => h.perm.mem_iff.mp (List.mem_flatten.mpr ⟨B, m, hx⟩)⟩
  rw [← h.perm.length_eq]
  exact (List.sublist_flatten_of_mem m).length_le
theorem part_num {g : Geo} {R : Lot} : ∀ {Bs : List Lot}, (∀ B ∈ Bs, B ≠ []) → Bs.length ≤ Bs.flatten.length
  | [], _ => Nat.le_refl _
  | B :: Bs, h => by
    have h1 := pos_len (h B List.mem_cons_self)
    have h2 := part_num (g := g) (R := R) (Bs := Bs) fun C m => h C (List.mem_cons_of_mem _ m)
    rw [List.flatten_cons, List.length_append, List.length_cons]
    omega
section
variable {g : Geo} {n m : Nat} {lots F : List Lot} {L : Lot} {rest : List Lot}
theorem PkI.num (I : PkI g n lots F m) : F.length + lots.length ≤ n := by
  have := part_num (g := g) (R := List.range n) I.pt.ne
  rw [I.pt.perm.length_eq, List.length_range, List.length_append] at this
  exact this
theorem PkI.of (I : PkI g n lots F m) (h : L ∈ lots) : L ≠ [] ∧ L.length ≤ n ∧ ∀ k ∈ L, k < n := by
  have m' : L ∈ F ++ lots := List.mem_append_right _ h
  obtain ⟨q1, q2⟩ := part_len I.pt m'
  rw [List.length_range] at q1
  exact ⟨I.pt.ne L m', q1, fun k hk => List.mem_range.mp (q2 k hk)⟩
theorem PkI.leaf (I : PkI g n lots F (m + 1)) (p : (L :: rest).Perm lots) (u : Unc g L) : PkI g n rest (F ++ [L]) m := by
  have hL := pos_len (I.of (p.mem_iff.mp List.mem_cons_self)).1
  have q := I.po
  rw [← pot_perm p, pot_cons] at q
  refine ⟨I.pt.of_perm ?_, fun B hB => ?_, by omega⟩
  · rw [List.append_assoc]
    exact (p.symm).append_left F
  · rcases List.mem_append.mp hB with h | h
    · exact I.un B h
    · rw [List.mem_singleton.mp h]
      exact u
theorem PkI.node (hS : ∀ a, 1 ≤ g.S a) (I : PkI g n lots F (m + 1)) (p : (L :: rest).Perm lots) {a : Bool} {c : Int} (v : Vld g a c L) : PkI g n (rest ++ [lowL g a c L, highL g a c L]) F m := by
  have hl := split_len hS v.1
  have p1 := pos_len v.2.1
  have p2 := pos_len v.2.2
  have q := I.po
  rw [← pot_perm p, pot_cons] at q
  have e1 : (F ++ lots).Perm (L :: (F ++ rest)) := ((p.symm).append_left F).trans List.perm_middle
  have e2 := (I.pt.of_perm e1).split hS v
  refine ⟨e2.of_perm ?_, I.un, ?_⟩
  · have z : (lowL g a c L :: highL g a c L :: (F ++ rest)).Perm ((F ++ rest) ++ [lowL g a c L, highL g a c L]) := List.perm_append_comm (l₁ := [lowL g a c L, highL g a c L])
    rw [List.append_assoc] at z
    exact z
  · have z : (rest ++ [lowL g a c L, highL g a c L]).Perm (lowL g a c L :: highL g a c L :: rest) := List.perm_append_comm (l₂ := [lowL g a c L, highL g a c L])
    rw [pot_perm z, pot_cons, pot_cons]
    omega
theorem PkI.end_ (I : PkI g n lots F 0) : lots = [] := by
  cases lots with
  | nil => rfl
  | cons B Bs =>
    have h1 := pos_len (I.of (L := B) List.mem_cons_self).1
    have h := I.po
    rw [pot_cons] at h
    omega
theorem PkI.mono {m' : Nat} (I : PkI g n lots F m) (h : m ≤ m') : PkI g n lots F m' := ⟨I.pt, I.un, Nat.le_trans I.po h⟩
end
theorem acA_len {g : Geo} {a : Bool} {L : Lot} (h : ∀ k ∈ L, ∀ a, 0 ≤ g.P a k ∧ g.P a k ≤ 60) : (acA g a L).length ≤ 60 := by
  cases e : L.map (g.P a) with
  | nil =>
    unfold acA
    rw [e]
    exact Nat.zero_le _
  | cons x r =>
    have bx : ∀ y ∈ x :: r, 0 ≤ y ∧ y ≤ 60 := fun y hy => by
      rw [← e] at hy
      obtain ⟨k, m, rfl⟩ := List.mem_map.mp hy
      exact h k m a
    have b1 := bx _ (least_mem x r)
    have b2 := bx _ (most_mem x r)
    rw [acA_cons e]
    refine Nat.le_trans (List.length_filter_le ..) ?_
    rw [rgI_len]
    omega
theorem ac_len {g : Geo} {L : Lot} (h : ∀ k ∈ L, ∀ a, 0 ≤ g.P a k ∧ g.P a k ≤ 60) : (ac g L).length ≤ 120 := by
  unfold ac
  rw [List.length_append, List.length_map, List.length_map]
  have := acA_len (a := false) h
  have := acA_len (a := true) h
  omega
theorem era_map {α β : Type} (f : α → β) : ∀ (l : List α) (j : Nat), (l.map f).eraseIdx j = (l.eraseIdx j).map f
  | [], _ => rfl
  | x :: l, 0 => rfl
  | x :: l, j + 1 => by
    show f x :: (l.map f).eraseIdx j = f x :: (l.eraseIdx j).map f
    rw [era_map f l j]
local macro_rules
  | `(tactic| simp_all only [$xs,*]) => `(tactic| simp (config := {decide := true}) only [mIfS, mRet, mAsg, mSetL, mNext, mDrop, mRetN, Oo.seq, Oo.out, Oo.ite, Oo.opt, Oo.nx, Oo.rt, Oo.bk, Oo.ct, Oo.no, Ok1.bind, Ok1.ok, Ok1.ite, Ok1.opt, e_var, e_rd1, e_rd2, e_rd3, e_c, e_pk1, e_pk2, e_pk3, e_pk4, e_pk5, e_pk6, e_nr1, e_nr2, e_nr3, e_fr1, e_fr2, e_fr3, e_fr4, e_fr5, e_fz1, e_fz2, e_fz3, e_fz4, e_ow, e_ow1, e_ow2, e_ls, e_ls1, e_ls2, e_pt1, e_pt2, e_fe, e_fe1, e_fe2, e_fe3,
    k_op, k_un, k_cb1, k_o1, k_o2, k_tr, k_and, k_or, k_not, k_andV, k_orV, k_notV, k_if, k_nil, k_cons, k_ref, k_tup, k_lst, e_al1, e_al2, e_mp, e_bd, k_cb, k_call, k_lm, k_yes, k_np, k_pt, k_sl, e_io, e_add1, e_add2, e_add3, e_sub, e_mul, mulOk_r, mulOk_l, e_fdiv, e_mod, e_pow, e_neg, e_lt, e_le, e_gt, e_ge, e_ltS, e_ix1, e_ix2, e_ix3, e_ix4, e_ix5, e_len1, e_len2, e_len3, e_len4, e_len5, e_bl, e_int1, e_abs, e_lst1, e_lst2, e_lst3, e_lst4, e_tup1, e_tup2, e_tup3, e_app, e_ext, e_at0, e_at1, e_at2, e_at3, e_in0, e_in1, e_in2, ex_some, k_items, k_rng1, k_rngE, e_i1, e_inr, e_ea1, e_ea2, e_ea3, e_ea4, Int.toNat_natCast, e_it1, e_it2, e_it3, e_it4, e_en1, e_en2, k_for, e_es1, e_es2, e_es3, e_nb1, e_nb2, e_rdd,
    k_callS, e_nq1, e_nq2, e_sv1, e_sv2, e_rf1, e_rf2, e_rf3, g_as1, g_as2, g_as3, g_as4, g_as5, g_as6, g_b1, g_b2, g_b3, g_b4, g_b5, g_b6, k_make, k_fld, e_fld, k_setA, e_ob1, e_pa1, e_pa2, k_asgG, e_gn, e_gnil, e_gcons, e_gtup, e_gtuk, e_gany1, e_gany2, e_gany3, k_dput, e_opk, e_opt, e_kt, e_kk1, e_kk2, e_ks1, e_ks2, e_dg1, e_dg2, e_ixk, e_din, e_dno, k_dnT, k_dnK, k_get2, e_dd1, e_dd2, e_pm1, e_pm2, k_disp, k_og, e_iob, k_oi, k_index, k_isi, k_chain, k_keys, e_fzs, k_forD, e_lo1, e_lo2, e_lb1, e_lb2, e_wi1, e_wi2, e_re1, e_re2, e_gd,
    decide_eq_true_eq, true_and, and_true, List.getElem?_cons_zero, List.getElem?_cons_succ, List.set_cons_zero, List.set_cons_succ, List.map_cons, List.map_nil, List.length_cons, List.length_nil, List.replicate_succ, List.replicate_zero, List.cons_append, List.nil_append, List.append_nil, if_true, if_false, k_ol, k_ob, k_oit, e_oit, e_tpl, k_par, e_st1, e_st2, k_star, e_sq1, e_sq2, k_tupRg, e_min2, e_max2, e_minL, e_maxL, e_tul0, e_mem1, e_eqI, e_neI, e_eqS, e_neS, e_ntd, y_lt1, y_lt2, y_lt3, y_lt4, y_lt5, y_lt6, y_tu1, y_tu2, y_tu3, y_tu4, y_tu5, y_st1, y_st2, y_in1, y_bo1, y_bo2, y_st3, y_tu6, y_tu7, y_in2, y_tu8, ex_bl, e_is1, e_is2, e_isn1, e_isn2, e_is3, e_is4, e_is5, e_is6, e_is7, e_is8, e_isn3, e_isn4, e_isn5, e_isn6, Option.map_none, Bool.not_true, Bool.not_false, Bool.false_eq_true, Bool.true_eq_false, Bool.not_eq_true', decide_eq_false_iff_not, k_meth, e_mth, Option.bind_some, ex_one, e_trL, mBreak, mCont, $xs,*])
variable {A : Ad} {h w : Int} {cs : List Cp}
theorem parted_ok {b : Int × Int × Int} (k0 : Cps h w cs) {bs : List Lot} {ss : List St3} (t : Tr (geo h w cs) (List.range cs.length) bs ss) : OkF (f_l_parted A) [.br (.lst (bagD b)), .fz (szD h w), .fz (.lst (cs.map cpD))] fun r as' =>
    ∃ b' : Int × Int × Int, r = .d (.tup ((srtN bs).map lotD)) ∧ as' = [.br (.lst (bagD b')), .fz (szD h w), .fz (.lst (cs.map cpD))] := by
  obtain ⟨l1, l2⟩ := k0.l
  have hS := geo_pos k0
  have nr := range_ne l1
  have nb := t.len hS nr
  rw [List.length_range] at nb
  have ca : ∀ L : Lot, _ := fun L => allcuts_ok (A := A) (L := L) k0
  have sd : ∀ (L : Lot) (a : Bool) (n : Int), _ := fun L a n => sides_ok (A := A) (h := h) (w := w) (cs := cs) (L := L) (a := a) (n := n)
  have lcd : lenD (.lst (cs.map cpD)) = some (.d (.int (cs.length : Nat))) := by rw [e_len1, List.length_map]
  have P0 : Part (geo h w cs) (List.range cs.length) [List.range cs.length] := Part.one nr List.pairwise_lt_range
  have Pb := t.part hS P0
  rw [List.append_nil] at Pb
  have Ub := t.unc hS
  obtain ⟨g, hg⟩ : ∃ g, g = geo h w cs := ⟨_, rfl⟩
  obtain ⟨sz, hsz⟩ : ∃ sz, sz = szD h w := ⟨_, rfl⟩
  obtain ⟨cd, hcd⟩ : ∃ cd, cd = D.lst (cs.map cpD) := ⟨_, rfl⟩
  rw [← hg] at t hS P0 Pb Ub
  simp only [← hg, ← hsz, ← hcd] at ca sd
  rw [← hcd] at lcd
  rw [← hsz, ← hcd]
  refine OkF.run rfl ?_
  unfold m_l_parted
  refine Oo.cut (fun s => s = [some (.br (.lst (bagD b))), some (.fz sz), some (.fz cd), some (.ow (.lst ([List.range cs.length].map lotD))), none, none, none, none]) ?_ ?_
  · simp_all only [true_and]
    refine Ok1.lcM id ?_
    simp_all only [lcd, e_inrN (n := cs.length) (by omega)]
    refine ⟨by simp [upTo]; omega, fun e he => rfl, ?_⟩
    rw [List.map_id, upTo_lot]
    simp_all only [true_and]
    rfl
  rintro s rfl
  refine Oo.cut (fun s => s = [some (.br (.lst (bagD b))), some (.fz sz), some (.fz cd), some (.ow (.lst ([List.range cs.length].map lotD))), none, some (.ow (.lst [])), none, none]) ?_ ?_
  · simp_all only [true_and]
  rintro s rfl
  refine Oo.cut (fun s => ∃ (F : List Lot) (b : Int × Int × Int) (z4 z6 z7 : Option SV), PkI g cs.length [] F 0 ∧ s = [some (.br (.lst (bagD b))), some (.fz sz), some (.fz cd), some (.ow (.lst [])), z4, some (.ow (.lst (F.map lotD))), z6, z7]) ?_ ?_
  · have hr : InR (2 * ((cs.length : Nat) : Int)) := e_inr (by omega) (by omega)
    have ht : (2 * ((cs.length : Nat) : Int)).toNat = 2 * cs.length := by omega
    simp_all only [lcd, hr, ht]
    have I0 : PkI g cs.length [List.range cs.length] [] (upTo (2 * cs.length)).length := by
      refine ⟨P0, (fun B hB => by cases hB), ?_⟩
      simp [potN, upTo]
    refine Oo.loop (fun ds s => ∃ (lots F : List Lot) (b : Int × Int × Int) (z4 z6 z7 : Option SV), PkI g cs.length lots F ds.length ∧ s = [some (.br (.lst (bagD b))), some (.fz sz), some (.fz cd), some (.ow (.lst (lots.map lotD))), z4, some (.ow (.lst (F.map lotD))), z6, z7] ∧
      feS (some z4) = true ∧ feS (some z6) = true ∧ feS (some z7) = true) ?_ ?_ _ _ ⟨_, [], b, none, none, none, I0, rfl, rfl, rfl, rfl⟩
    · rintro s ⟨lots, F, b, z4, z6, z7, I, rfl, -⟩
      have e := I.end_
      subst e
      exact ⟨F, b, z4, z6, z7, I, rfl⟩
    · rintro e ds s ⟨lots, F, b, z4, z6, z7, I, rfl, f4, f6, f7⟩
      refine ⟨_, e_gnT f4, ?_⟩
      have num := I.num
      by_cases hz : lots = []
      · subst hz
        have Il : PkI g cs.length [] F ds.length := ⟨I.pt, I.un, Nat.zero_le _⟩
        have e0 : (([] : List Lot).map lotD) = [] := rfl
        simp_all only [e0]
        exact ⟨[], F, b, some (.fz e), z6, z7, Il, rfl, rfl, f6, f7⟩
      · have hp := pos_len hz
        have ll : (0 : Int) < (((lots.map lotD).length : Nat) : Int) := by
          rw [List.length_map]
          omega
        simp_all only [ll]
        refine OkF.use (pick_ok (n := (((lots.map lotD).length : Nat) : Int)) (by omega) (by rw [List.length_map]; omega)) ?_
        rintro r as' - ⟨k, b', rfl, rfl, q0, q1⟩
        obtain ⟨j, hj, ep⟩ := pop_in q0 q1 (by rw [List.length_map]; omega)
        have hj2 : j < lots.length := by
          rw [List.length_map] at hj
          exact hj
        rw [List.getElem_map, era_map] at ep
        obtain ⟨L, hL⟩ : ∃ L, L = lots[j] := ⟨_, rfl⟩
        obtain ⟨rest, hrest⟩ : ∃ rest, rest = lots.eraseIdx j := ⟨_, rfl⟩
        have pm : (L :: rest).Perm lots := by
          rw [hL, hrest]
          exact erase_perm hj2
        rw [← hL, ← hrest] at ep
        obtain ⟨nL, lL, kL⟩ := I.of (pm.mem_iff.mp List.mem_cons_self)
        have lr := pm.length_eq
        rw [List.length_cons] at lr
        have Il : PkI g cs.length lots F (ds.length + 1) := I
        simp_all only [ep, f6]
        refine OkF.use (ca L kL nL (by omega)) ?_
        rintro r as' - ⟨rfl, rfl⟩
        cases ea : ac g L with
        | nil =>
          have sF : (F.map lotD).length < 100000 := by rw [List.length_map]; omega
          simp_all only [f7, sF]
          refine ⟨rest, F ++ [L], b', some (.fz e), some (.fz (lotD L)), some (.ow (.lst [])), Il.leaf pm ((unc_ac hS).mp ea), ?_, rfl, rfl, rfl⟩
          rw [List.map_append]
          rfl
        | cons c r =>
          obtain ⟨cl, hcl⟩ : ∃ cl, cl = (c :: r).map cutD := ⟨_, rfl⟩
          have nz : ¬ ((cl.length : Nat) : Int) = 0 := by
            rw [hcl, List.length_map, List.length_cons]
            omega
          have c1 : 1 ≤ cl.length := by omega
          have c2 : cl.length ≤ 100000 := by
            have q := ac_len (g := g) (L := L) fun k m a => by rw [hg]; exact geo_small k0.b (kL k m) a
            rw [ea] at q
            rw [hcl, List.length_map]
            omega
          rw [← hcl]
          simp_all only [f7, nz]
          refine OkF.use (one_of_ok (d := .lst cl) rfl c1 c2) ?_
          rintro r' as' - ⟨e', g', rfl, rfl, he⟩
          rw [hcl] at he
          obtain ⟨c', hc', rfl⟩ := List.mem_map.mp he
          simp_all only [true_and]
          refine OkF.use (sd L c'.1 c'.2 kL (by omega)) ?_
          rintro r' as' - ⟨rfl, rfl⟩
          have sm : small ((rest.map lotD).length + [lotD (lowL g c'.1 c'.2 L), lotD (highL g c'.1 c'.2 L)].length) = true := decide_eq_true (by simp; omega)
          simp only [List.length_cons, List.length_nil] at sm
          simp_all only [sm]
          have v : Vld g c'.1 c'.2 L := (ac_mem hS).mp (by rw [ea]; exact hc')
          refine ⟨rest ++ [lowL g c'.1 c'.2 L, highL g c'.1 c'.2 L], F, g', some (.fz e), some (.fz (lotD L)), some (.fz (.lst cl)), Il.node hS pm v, ?_, rfl, rfl, rfl⟩
          rw [List.map_append]
          rfl
  rintro s ⟨F, b', z4, z6, z7, I, rfl⟩
  have hF := I.pt
  rw [List.append_nil] at hF
  have pm := Part.unique List.nodup_range hF Pb I.un Ub
  have lf := pm.length_eq
  have so := sort_lots hF.ne (by omega)
  rw [srtN_same pm] at so
  simp_all only [so]
  exact ⟨b', rfl⟩
end Cz

/-! # LJ -/
namespace Cz
open L2 PyProof.Rows PySem.Spec PySem
def pmeet (h w : Int) (p q : Int × Int) : Prop := absI (p.1 - q.1) < h ∧ absI (p.2 - q.2) < w
def ppD (p : Int × Int) : D := .tup [.int p.1, .int p.2]
def v1 (h w : Int) : List (Int × Int) := [(0, 1), (1, w + 1), (h + 1, w), (h, 0)]
def v2 (h w : Int) : List (Int × Int) := [(0, w), (1, 0), (h + 1, 1), (h, w + 1)]
theorem v1_pw {h w : Int} (h1 : 1 ≤ h) (w1 : 1 ≤ w) : (v1 h w).Pairwise fun p q => ¬ pmeet h w p q := by
  unfold v1 pmeet absI
  simp only [List.pairwise_cons, List.mem_cons, List.not_mem_nil, or_false, forall_eq_or_imp, forall_eq, List.Pairwise.nil, and_true, false_implies, implies_true]
  refine ⟨⟨?_, ?_, ?_⟩, ⟨?_, ?_⟩, ?_⟩ <;> (intro ⟨a, b⟩; split at a <;> split at b <;> omega)
theorem v2_pw {h w : Int} (h1 : 1 ≤ h) (w1 : 1 ≤ w) : (v2 h w).Pairwise fun p q => ¬ pmeet h w p q := by
  unfold v2 pmeet absI
  simp only [List.pairwise_cons, List.mem_cons, List.not_mem_nil, or_false, forall_eq_or_imp, forall_eq, List.Pairwise.nil, and_true, false_implies, implies_true]
  refine ⟨⟨?_, ?_, ?_⟩, ⟨?_, ?_⟩, ?_⟩ <;> (intro ⟨a, b⟩; split at a <;> split at b <;> omega)
theorem v1_b {h w : Int} (h1 : 1 ≤ h) (w1 : 1 ≤ w) (h2 : h ≤ 12) (w2 : w ≤ 12) : ∀ p ∈ v1 h w, (0 ≤ p.1 ∧ p.1 ≤ 13) ∧ 0 ≤ p.2 ∧ p.2 ≤ 13 := by
  unfold v1
  simp only [List.mem_cons, List.not_mem_nil, or_false, forall_eq_or_imp, forall_eq]
  omega
theorem v2_b {h w : Int} (h1 : 1 ≤ h) (w1 : 1 ≤ w) (h2 : h ≤ 12) (w2 : w ≤ 12) : ∀ p ∈ v2 h w, (0 ≤ p.1 ∧ p.1 ≤ 13) ∧ 0 ≤ p.2 ∧ p.2 ≤ 13 := by
  unfold v2
  simp only [List.mem_cons, List.not_mem_nil, or_false, forall_eq_or_imp, forall_eq]
  omega
structure Fnd (h w : Int) (cs : List Cp) : Prop where
  l : 1 ≤ cs.length ∧ cs.length ≤ 8
  b : ∀ c ∈ cs, (0 ≤ c.1 ∧ c.1 ≤ 60) ∧ 0 ≤ c.2.1 ∧ c.2.1 ≤ 60
  m : cs.Pairwise fun c d => ¬ meetI h w c d
theorem fnd_of {h w x y : Int} {cs : List Cp} {ps : List (Int × Int)} (e : cs.map (fun c => (c.1 - x, c.2.1 - y)) = ps) (l : ps.length = 4) (pw : ps.Pairwise fun p q => ¬ pmeet h w p q) (b : ∀ p ∈ ps, (0 ≤ p.1 ∧ p.1 ≤ 13) ∧ 0 ≤ p.2 ∧ p.2 ≤ 13) (hx : 0 ≤ x ∧ x ≤ 4) (hy : 0 ≤ y ∧ y ≤ 4) : Fnd h w cs := by
  subst e
  rw [List.length_map] at l
  refine ⟨by omega, fun c m => ?_, ?_⟩
  · have := b _ (List.mem_map.mpr ⟨c, m, rfl⟩)
    dsimp only at this
    omega
  · rw [List.pairwise_map] at pw
    refine pw.imp fun {c d} q z => q ?_
    unfold pmeet
    unfold meetI at z
    dsimp only
    rw [show c.1 - x - (d.1 - x) = c.1 - d.1 by omega, show c.2.1 - y - (d.2.1 - y) = c.2.1 - d.2.1 by omega]
    exact z
theorem cons_map {α : Type} {f : α → D} {l : List α} {d : D} {ds : List D} (h : d :: ds = l.map f) : ∃ x r, l = x :: r ∧ d = f x ∧ ds = r.map f := by
  cases l with
  | nil => cases h
  | cons x r =>
    obtain ⟨h1, h2⟩ := List.cons.inj h
    exact ⟨x, r, rfl, h1, h2⟩
theorem min_of (p : Int × Int) : ∃ m, minTD (ppD p) = some (.d (.int m)) ∧ m ≤ p.1 ∧ m ≤ p.2 := ⟨_, e_min2, by split <;> omega⟩
theorem max_of (p : Int × Int) : ∃ m, maxTD (ppD p) = some (.d (.int m)) ∧ p.1 ≤ m ∧ p.2 ≤ m := ⟨_, e_max2, by split <;> omega⟩
def nearT (h w : Int) (p : Int × Int) : D → Bool
  | .tup (.int a :: .int b :: _) => decide (meetI h w (a, b, false) (p.1, p.2, false))
  | _ => false
theorem near_cp {h w : Int} {p : Int × Int} (c : Cp) : nearT h w p (cpD c) = decide (meetI h w c (p.1, p.2, false)) := rfl
theorem near_no {h w : Int} {p : Int × Int} {cs : List Cp} (e : (((((cs.map cpD).filter (nearT h w p)).map id).length : Nat) : Int) = 0) : ∀ c ∈ cs, ¬ meetI h w c (p.1, p.2, false) := by
  rw [List.map_id] at e
  have e2 : (cs.map cpD).filter (nearT h w p) = [] := List.eq_nil_of_length_eq_zero (by omega)
  intro c m z
  exact List.filter_eq_nil_iff.mp e2 _ (List.mem_map.mpr ⟨c, m, rfl⟩) (decide_eq_true z)
theorem noLs_sub : ∀ {l : List D}, (∀ d ∈ l, noL d = true) → noLs l = true
  | [], _ => rfl
  | d :: l, h => by
    rw [noLs, h d List.mem_cons_self, noLs_sub fun e m => h e (List.mem_cons_of_mem _ m)]
    rfl
theorem noL_cp (c : Cp) : noL (cpD c) = true := rfl
theorem noLs_near {h w : Int} {p : Int × Int} {cs : List Cp} : noLs (((cs.map cpD).filter (nearT h w p)).map id) = true := by
  rw [List.map_id]
  refine noLs_sub fun d hd => ?_
  obtain ⟨c, _, rfl⟩ := List.mem_map.mp (List.mem_filter.mp hd).1
  rfl
theorem Fnd.add {h w : Int} {cs : List Cp} (f : Fnd h w cs) {p : Int × Int} {b : Bool} {mn mx : Int} (h1 : mn ≤ p.1 ∧ mn ≤ p.2) (h2 : p.1 ≤ mx ∧ p.2 ≤ mx) (c1 : 0 ≤ mn) (c2 : mx ≤ 60) (c3 : ∀ c ∈ cs, ¬ meetI h w c (p.1, p.2, false)) (c4 : ((cs.length : Nat) : Int) < 8) : Fnd h w (cs ++ [(p.1, p.2, b)]) := by
  have fl := f.l
  refine ⟨by rw [List.length_append, List.length_singleton]; omega, fun c m => ?_, ?_⟩
  · rcases List.mem_append.mp m with m | m
    · exact f.b c m
    · rw [List.mem_singleton.mp m]
      dsimp only
      omega
  · rw [List.pairwise_append]
    refine ⟨f.m, List.pairwise_singleton _ _, fun c m d m' => ?_⟩
    rw [List.mem_singleton.mp m']
    exact c3 c m
theorem of1 {d : D} : onlyFz (some (.fz d)) = some (.fz d) := rfl
theorem of2 {o : OD} : onlyFz (some (.ow o)) = none := rfl
theorem of3 {o : OD} : onlyFz (some (.br o)) = none := rfl
theorem of4 : onlyFz none = none := rfl
local macro_rules
  | `(tactic| simp_all only [$xs,*]) => `(tactic| simp (config := {decide := true}) only [mIfS, mRet, mAsg, mSetL, mNext, mDrop, mRetN, Oo.seq, Oo.out, Oo.ite, Oo.opt, Oo.nx, Oo.rt, Oo.bk, Oo.ct, Oo.no, Ok1.bind, Ok1.ok, Ok1.ite, Ok1.opt, e_var, e_rd1, e_rd2, e_rd3, e_c, e_pk1, e_pk2, e_pk3, e_pk4, e_pk5, e_pk6, e_nr1, e_nr2, e_nr3, e_fr1, e_fr2, e_fr3, e_fr4, e_fr5, e_fz1, e_fz2, e_fz3, e_fz4, e_ow, e_ow1, e_ow2, e_ls, e_ls1, e_ls2, e_pt1, e_pt2, e_fe, e_fe1, e_fe2, e_fe3,
    k_op, k_un, k_cb1, k_o1, k_o2, k_tr, k_and, k_or, k_not, k_andV, k_orV, k_notV, k_if, k_nil, k_cons, k_ref, k_tup, k_lst, e_al1, e_al2, e_mp, e_bd, k_cb, k_call, k_lm, k_yes, k_np, k_pt, k_sl, e_io, e_add1, e_add2, e_add3, e_sub, e_mul, mulOk_r, mulOk_l, e_fdiv, e_mod, e_pow, e_neg, e_lt, e_le, e_gt, e_ge, e_ltS, e_ix1, e_ix2, e_ix3, e_ix4, e_ix5, e_len1, e_len2, e_len3, e_len4, e_len5, e_bl, e_int1, e_abs, e_lst1, e_lst2, e_lst3, e_lst4, e_tup1, e_tup2, e_tup3, e_app, e_ext, e_at0, e_at1, e_at2, e_at3, e_in0, e_in1, e_in2, ex_some, k_items, k_rng1, k_rngE, e_i1, e_inr, e_ea1, e_ea2, e_ea3, e_ea4, Int.toNat_natCast, e_it1, e_it2, e_it3, e_it4, e_en1, e_en2, k_for, e_es1, e_es2, e_es3, e_nb1, e_nb2, e_rdd,
    k_callS, e_nq1, e_nq2, e_sv1, e_sv2, e_rf1, e_rf2, e_rf3, g_as1, g_as2, g_as3, g_as4, g_as5, g_as6, g_b1, g_b2, g_b3, g_b4, g_b5, g_b6, k_make, k_fld, e_fld, k_setA, e_ob1, e_pa1, e_pa2, k_asgG, e_gn, e_gnil, e_gcons, e_gtup, e_gtuk, e_gany1, e_gany2, e_gany3, k_dput, e_opk, e_opt, e_kt, e_kk1, e_kk2, e_ks1, e_ks2, e_dg1, e_dg2, e_ixk, e_din, e_dno, k_dnT, k_dnK, k_get2, e_dd1, e_dd2, e_pm1, e_pm2, k_disp, k_og, e_iob, k_oi, k_index, k_isi, k_chain, k_keys, e_fzs, k_forD, e_lo1, e_lo2, e_lb1, e_lb2, e_wi1, e_wi2, e_re1, e_re2, e_gd,
    decide_eq_true_eq, true_and, and_true, List.getElem?_cons_zero, List.getElem?_cons_succ, List.set_cons_zero, List.set_cons_succ, List.map_cons, List.map_nil, List.length_cons, List.length_nil, List.replicate_succ, List.replicate_zero, List.cons_append, List.nil_append, List.append_nil, if_true, if_false, k_ol, k_ob, k_oit, e_oit, e_tpl, k_par, e_st1, e_st2, k_star, e_sq1, e_sq2, k_tupRg, e_min2, e_max2, e_minL, e_maxL, e_tul0, e_mem1, e_eqI, e_neI, e_eqS, e_neS, e_ntd, y_lt1, y_lt2, y_lt3, y_lt4, y_lt5, y_lt6, y_tu1, y_tu2, y_tu3, y_tu4, y_tu5, y_st1, y_st2, y_in1, y_bo1, y_bo2, y_st3, y_tu6, y_tu7, y_in2, y_tu8, ex_bl, e_is1, e_is2, e_isn1, e_isn2, e_is3, e_is4, e_is5, e_is6, e_is7, e_is8, e_isn3, e_isn4, e_isn5, e_isn6, Option.map_none, Bool.not_true, Bool.not_false, Bool.false_eq_true, Bool.true_eq_false, Bool.not_eq_true', decide_eq_false_iff_not, k_meth, e_mth, Option.bind_some, ex_one, e_trL, mBreak, mCont, k_snapE, snapS, of1, of2, of3, of4, $xs,*])
variable {A : Ad} {h w : Int} {cs : List Cp}
theorem one_ofB_ok {b : Int × Int × Int} {l : List D} (h1 : 1 ≤ l.length) (h2 : l.length ≤ 100000) : OkF (f_l_one_of A) [.br (.lst (bagD b)), .br (.lst l)] fun r as' => ∃ (e : D) (g : Int × Int × Int), r = .d e ∧ as' = [.br (.lst (bagD g)), .br (.lst l)] ∧ e ∈ l := by
  refine OkF.run rfl ?_
  unfold m_l_one_of
  simp_all only [true_and]
  refine OkF.use (pick_ok (by omega) (by omega)) ?_
  rintro r as' - ⟨k, g, rfl, rfl, k0, k1⟩
  obtain ⟨e, e1, e2⟩ := at_in k0 k1
  simp_all only [e2]
  exact ⟨e, g, rfl, rfl, e1⟩
theorem wheel_ok {b : Int × Int × Int} (h1 : 1 ≤ h) (w1 : 1 ≤ w) (h2 : h ≤ 12) (w2 : w ≤ 12) : OkF (f_l_wheel A) [.br (.lst (bagD b)), .fz (szD h w)] fun r as' => ∃ (cs : List Cp) (g : Int × Int × Int), Fnd h w cs ∧ r = .o (.lst (cs.map cpD)) ∧ as' = [.br (.lst (bagD g)), .fz (szD h w)] := by
  refine OkF.run rfl ?_
  unfold m_l_wheel szD
  refine Oo.cut (fun s => s = [some (.br (.lst (bagD b))), some (.fz (.tup [.int h, .int w])), some (.fz (.int h)), some (.fz (.int w)), none, none, none, none]) ?_ ?_
  · simp_all only [true_and]
  rintro s rfl
  refine Oo.cut (fun s => s = [some (.br (.lst (bagD b))), some (.fz (.tup [.int h, .int w])), some (.fz (.int h)), some (.fz (.int w)), some (.ow (.lst ((v1 h w).map ppD))), none, none, none]) ?_ ?_
  · simp_all only [true_and]
    rfl
  rintro s rfl
  refine Oo.cut (fun s => ∃ (ps : List (Int × Int)) (g : Int × Int × Int), ps.length = 4 ∧ (ps.Pairwise fun p q => ¬ pmeet h w p q) ∧ (∀ p ∈ ps, (0 ≤ p.1 ∧ p.1 ≤ 13) ∧ 0 ≤ p.2 ∧ p.2 ≤ 13) ∧ s = [some (.br (.lst (bagD g))), some (.fz (.tup [.int h, .int w])), some (.fz (.int h)), some (.fz (.int w)), some (.ow (.lst (ps.map ppD))), none, none, none]) ?_ ?_
  · simp_all only [true_and]
    refine OkF.use (pick_ok (n := 2) (by decide) (by decide)) ?_
    rintro r as' - ⟨k, g, rfl, rfl, k0, k1⟩
    simp_all only [true_and]
    split
    · exact ⟨v2 h w, g, rfl, v2_pw h1 w1, v2_b h1 w1 h2 w2, rfl⟩
    · exact ⟨v1 h w, g, rfl, v1_pw h1 w1, v1_b h1 w1 h2 w2, rfl⟩
  rintro s ⟨ps, g, pl, pp, pb, rfl⟩
  refine Oo.cut (fun s => ∃ (x y : Int) (g : Int × Int × Int), (0 ≤ x ∧ x ≤ 4) ∧ (0 ≤ y ∧ y ≤ 4) ∧ s = [some (.br (.lst (bagD g))), some (.fz (.tup [.int h, .int w])), some (.fz (.int h)), some (.fz (.int w)), some (.ow (.lst (ps.map ppD))), some (.fz (.int x)), some (.fz (.int y)), none]) ?_ ?_
  · simp_all only [true_and]
    refine OkF.use (pick_ok (n := 4) (by decide) (by decide)) ?_
    rintro r as' - ⟨x, g, rfl, rfl, x0, x1⟩
    simp_all only [true_and]
    refine OkF.use (pick_ok (n := 4) (by decide) (by decide)) ?_
    rintro r as' - ⟨y, g, rfl, rfl, y0, y1⟩
    simp_all only [true_and]
    exact ⟨x, y, g, by omega, by omega, rfl⟩
  rintro s ⟨x, y, g, hx, hy, rfl⟩
  simp_all only [true_and]
  refine Ok1.lc ?_
  simp_all only [true_and]
  refine Ok1.loopC (fun ds acc s => ∃ (cs : List Cp) (qs : List (Int × Int)) (g : Int × Int × Int), ds = qs.map ppD ∧ acc = cs.map cpD ∧ cs.map (fun c => (c.1 - x, c.2.1 - y)) ++ qs = ps ∧ s = [some (.br (.lst (bagD g))), some (.fz (.tup [.int h, .int w])), some (.fz (.int h)), some (.fz (.int w)), some (.fz (.lst (ps.map ppD))), some (.fz (.int x)), some (.fz (.int y)), none]) ?_ ?_ _ _ _ ⟨[], ps, g, rfl, rfl, rfl, rfl⟩
  · rintro acc s ⟨cs, qs, g, e1, rfl, e2, rfl⟩
    have e : qs = [] := List.map_eq_nil_iff.mp e1.symm
    subst e
    rw [List.append_nil] at e2
    simp_all only [true_and]
    exact ⟨cs, g, fnd_of e2 pl pp pb hx hy, rfl, rfl⟩
  · rintro d ds acc s ⟨cs, qs, g, e1, rfl, e2, rfl⟩
    obtain ⟨p, qs', rfl, rfl, rfl⟩ := cons_map e1
    refine ⟨_, e_gnT rfl, ?_⟩
    have p0 : ixD (ppD p) (.int 0) = some (.d (.int p.1)) := rfl
    have p1 : ixD (ppD p) (.int 1) = some (.d (.int p.2)) := rfl
    have lc : (cs.map cpD).length < 100000 := by
      have := congrArg List.length e2
      rw [List.length_append, List.length_map] at this
      rw [List.length_map]
      omega
    simp_all only [p0, p1]
    refine OkF.use (pick_ok (n := 2) (by decide) (by decide)) ?_
    rintro r as' - ⟨k, g', rfl, rfl, k0, k1⟩
    simp_all only [lc]
    refine ⟨cs ++ [(p.1 + x, p.2 + y, decide (k = 0))], qs', g', rfl, ?_, ?_, rfl⟩
    · rw [List.map_append]
      rfl
    · rw [List.map_append, ← e2, List.append_assoc]
      congr 1
      show [(p.1 + x - x, p.2 + y - y)] ++ qs' = p :: qs'
      rw [show p.1 + x - x = p.1 by omega, show p.2 + y - y = p.2 by omega]
      rfl
theorem copies_ok {b : Int × Int × Int} (h1 : 1 ≤ h) (w1 : 1 ≤ w) (h2 : h ≤ 12) (w2 : w ≤ 12) : OkF (f_l_copies_of A) [.br (.lst (bagD b)), .fz (szD h w), .fz (.int 8)] fun r as' => ∃ (cs : List Cp) (g : Int × Int × Int), Fnd h w cs ∧ r = .o (.lst (cs.map cpD)) ∧ as' = [.br (.lst (bagD g)), .fz (szD h w), .fz (.int 8)] := by
  have wo := fun b => wheel_ok (A := A) (b := b) h1 w1 h2 w2
  have lm := fun (c : Cp) (p : Int × Int) => lmeet_ok (A := A) (h := h) (w := w) (c := c) (d := (p.1, p.2, false)) (c' := cpD c) (d' := ppD p) ⟨_, rfl⟩ ⟨_, rfl⟩
  obtain ⟨sz, hsz⟩ : ∃ sz, sz = szD h w := ⟨_, rfl⟩
  have lm' : ∀ (c : Cp) (p : Int × Int), OkF (f_l_meet A) [.fz (cpD c), .fz (ppD p), .fz sz] fun r as' => r = .d (.bl (decide (meetI h w c (p.1, p.2, false)))) ∧ as' = [.fz (cpD c), .fz (ppD p), .fz sz] := fun c p => by
    rw [hsz]
    exact lm c p
  have s0 : ixD sz (.int 0) = some (.d (.int h)) := by rw [hsz]; rfl
  have s1 : ixD sz (.int 1) = some (.d (.int w)) := by rw [hsz]; rfl
  rw [← hsz] at wo
  rw [← hsz]
  clear lm
  refine OkF.run rfl ?_
  unfold m_l_copies_of
  refine Oo.cut (fun s => ∃ (cs : List Cp) (g : Int × Int × Int), Fnd h w cs ∧ s = [some (.br (.lst (bagD g))), some (.fz sz), some (.fz (.int 8)), some (.ow (.lst (cs.map cpD))), none, none, none, none, none, none, none, none, none]) ?_ ?_
  · simp_all only [true_and]
    refine OkF.use (pick_ok (n := 4) (by decide) (by decide)) ?_
    rintro r as' - ⟨x, g, rfl, rfl, x0, x1⟩
    simp_all only [true_and]
    refine OkF.use (pick_ok (n := 4) (by decide) (by decide)) ?_
    rintro r as' - ⟨y, g, rfl, rfl, y0, y1⟩
    simp_all only [true_and]
    refine OkF.use (pick_ok (n := 2) (by decide) (by decide)) ?_
    rintro r as' - ⟨z, g, rfl, rfl, z0, z1⟩
    simp_all only [true_and]
    refine ⟨[(x, y, decide (z = 1))], g, ⟨by simp, fun c m => ?_, List.pairwise_singleton _ _⟩, rfl⟩
    rw [List.mem_singleton.mp m]
    dsimp only
    omega
  rintro s ⟨cs, g, hf, rfl⟩
  refine Oo.cut (fun s => ∃ (cs : List Cp) (g : Int × Int × Int), Fnd h w cs ∧ s = [some (.br (.lst (bagD g))), some (.fz sz), some (.fz (.int 8)), some (.ow (.lst (cs.map cpD))), none, none, none, none, none, none, none, none, none]) ?_ ?_
  · simp_all only [true_and]
    refine OkF.use (pick_ok (n := 2) (by decide) (by decide)) ?_
    rintro r as' - ⟨x, g, rfl, rfl, x0, x1⟩
    simp_all only [true_and]
    split
    · refine OkF.use (wo g) ?_
      rintro r as' - ⟨cs, g, hf, rfl, rfl⟩
      simp_all only [true_and]
      exact ⟨cs, g, hf, rfl⟩
    · exact ⟨cs, g, hf, rfl⟩
  clear hf g cs
  rintro s ⟨cs, g, hf, rfl⟩
  refine Oo.cut (fun s => ∃ (cs : List Cp) (g : Int × Int × Int) (z4 z5 z6 z7 z8 z9 z10 z11 : Option SV), Fnd h w cs ∧ s = [some (.br (.lst (bagD g))), some (.fz sz), some (.fz (.int 8)), some (.ow (.lst (cs.map cpD))), z4, z5, z6, z7, z8, z9, z10, z11, none]) ?_ ?_
  · simp_all only [true_and]
    refine OkF.use (one_of_ok (d := .lst [.int 0, .int 1, .int 2, .int 3, .int 5, .int 9]) rfl (by decide) (by decide)) ?_
    rintro r as' - ⟨e, g, rfl, rfl, he⟩
    obtain ⟨n, rfl, hn0, hn1⟩ : ∃ n : Int, e = .int n ∧ 0 ≤ n ∧ n ≤ 9 := by
      simp only [List.mem_cons, List.not_mem_nil, or_false] at he
      rcases he with rfl | rfl | rfl | rfl | rfl | rfl <;> exact ⟨_, rfl, by decide, by decide⟩
    simp_all only [e_inr (k := n) (by omega) (by omega)]
    refine Oo.loop (fun ds s => ∃ (cs : List Cp) (g : Int × Int × Int) (z4 z5 z6 z7 z8 z9 z10 z11 : Option SV), Fnd h w cs ∧ s = [some (.br (.lst (bagD g))), some (.fz sz), some (.fz (.int 8)), some (.ow (.lst (cs.map cpD))), z4, z5, z6, z7, z8, z9, z10, z11, none] ∧
      (feS (some z4) = true ∧ feS (some z5) = true ∧ feS (some z6) = true ∧ feS (some z7) = true ∧ feS (some z8) = true ∧ feS (some z9) = true ∧ feS (some z10) = true ∧ feS (some z11) = true)) ?_ ?_ _ _ ⟨cs, g, none, none, none, none, none, none, none, none, hf, rfl, rfl, rfl, rfl, rfl, rfl, rfl, rfl, rfl⟩
    · rintro s ⟨cs, g, z4, z5, z6, z7, z8, z9, z10, z11, hf, rfl, -⟩
      exact ⟨cs, g, z4, z5, z6, z7, z8, z9, z10, z11, hf, rfl⟩
    · clear hf g cs
      rintro e ds s ⟨cs, g, z4, z5, z6, z7, z8, z9, z10, z11, hf, rfl, f4, f5, f6, f7, f8, f9, f10, f11⟩
      refine ⟨_, e_gnT f4, ?_⟩
      have fl := hf.l
      refine Oo.cut (fun s => ∃ (c : Cp) (g : Int × Int × Int), s = [some (.br (.lst (bagD g))), some (.fz sz), some (.fz (.int 8)), some (.ow (.lst (cs.map cpD))), some (.fz e), some (.fz (cpD c)), z6, z7, z8, z9, z10, z11, none]) ?_ ?_
      · simp_all only [true_and]
        refine OkF.use (one_ofB_ok (l := cs.map cpD) (by rw [List.length_map]; omega) (by rw [List.length_map]; omega)) ?_
        rintro r as' - ⟨e', g, rfl, rfl, he⟩
        obtain ⟨c, _, rfl⟩ := List.mem_map.mp he
        simp_all only [f5]
        exact ⟨c, g, rfl⟩
      clear g
      rintro s ⟨c, g, rfl⟩
      refine Oo.cut (fun s => ∃ (x : Int) (g : Int × Int × Int), s = [some (.br (.lst (bagD g))), some (.fz sz), some (.fz (.int 8)), some (.ow (.lst (cs.map cpD))), some (.fz e), some (.fz (cpD c)), some (.fz (.int x)), z7, z8, z9, z10, z11, none]) ?_ ?_
      · simp_all only [true_and]
        refine OkF.use (one_of_ok (d := .lst [.int 0, .int 0, .int 0, .int 1, .int 2, .int 3]) rfl (by decide) (by decide)) ?_
        rintro r as' - ⟨e', g, rfl, rfl, he⟩
        obtain ⟨m, rfl⟩ : ∃ m : Int, e' = .int m := by
          simp only [List.mem_cons, List.not_mem_nil, or_false] at he
          rcases he with rfl | rfl | rfl | rfl | rfl | rfl <;> exact ⟨_, rfl⟩
        simp_all only [f6]
        exact ⟨m, g, rfl⟩
      clear g
      rintro s ⟨x, g, rfl⟩
      refine Oo.cut (fun s => ∃ (y : Int) (g : Int × Int × Int), s = [some (.br (.lst (bagD g))), some (.fz sz), some (.fz (.int 8)), some (.ow (.lst (cs.map cpD))), some (.fz e), some (.fz (cpD c)), some (.fz (.int x)), some (.fz (.int y)), z8, z9, z10, z11, none]) ?_ ?_
      · simp_all only [true_and]
        refine OkF.use (pick_ok (n := 5) (by decide) (by decide)) ?_
        rintro r as' - ⟨k, g, rfl, rfl, k0, k1⟩
        simp_all only [f7]
        exact ⟨_, g, rfl⟩
      clear g
      rintro s ⟨y, g, rfl⟩
      refine Oo.cut (fun s => ∃ (q : Int) (g : Int × Int × Int), s = [some (.br (.lst (bagD g))), some (.fz sz), some (.fz (.int 8)), some (.ow (.lst (cs.map cpD))), some (.fz e), some (.fz (cpD c)), some (.fz (.int x)), some (.fz (.int y)), some (.fz (.int q)), z9, z10, z11, none]) ?_ ?_
      · simp_all only [true_and]
        refine OkF.use (pick_ok (n := 4) (by decide) (by decide)) ?_
        rintro r as' - ⟨k, g, rfl, rfl, k0, k1⟩
        simp_all only [f8]
        exact ⟨_, g, rfl⟩
      clear g
      rintro s ⟨q, g, rfl⟩
      have c0 : ixD (cpD c) (.int 0) = some (.d (.int c.1)) := rfl
      have c1 : ixD (cpD c) (.int 1) = some (.d (.int c.2.1)) := rfl
      have nx : ∀ (s : SS), (∃ (p : Int × Int), s = [some (.br (.lst (bagD g))), some (.fz sz), some (.fz (.int 8)), some (.ow (.lst (cs.map cpD))), some (.fz e), some (.fz (cpD c)), some (.fz (.int x)), some (.fz (.int y)), some (.fz (.int q)), some (.fz (ppD p)), z10, z11, none]) → True := fun _ _ => trivial
      refine Oo.cut (fun s => ∃ (p : Int × Int), s = [some (.br (.lst (bagD g))), some (.fz sz), some (.fz (.int 8)), some (.ow (.lst (cs.map cpD))), some (.fz e), some (.fz (cpD c)), some (.fz (.int x)), some (.fz (.int y)), some (.fz (.int q)), some (.fz (ppD p)), z10, z11, none]) ?_ ?_
      · simp_all only [c0, c1, s0, s1, f9]
        exact ⟨(_, _), rfl⟩
      rintro s ⟨p, rfl⟩
      refine Oo.cut (fun s => ∃ (p : Int × Int), s = [some (.br (.lst (bagD g))), some (.fz sz), some (.fz (.int 8)), some (.ow (.lst (cs.map cpD))), some (.fz e), some (.fz (cpD c)), some (.fz (.int x)), some (.fz (.int y)), some (.fz (.int q)), some (.fz (ppD p)), z10, z11, none]) ?_ ?_
      · simp_all only [c0, c1, s0, s1]
        split
        · exact ⟨(_, _), rfl⟩
        · exact ⟨p, rfl⟩
      clear p
      rintro s ⟨p, rfl⟩
      refine Oo.cut (fun s => ∃ (p : Int × Int), s = [some (.br (.lst (bagD g))), some (.fz sz), some (.fz (.int 8)), some (.ow (.lst (cs.map cpD))), some (.fz e), some (.fz (cpD c)), some (.fz (.int x)), some (.fz (.int y)), some (.fz (.int q)), some (.fz (ppD p)), z10, z11, none]) ?_ ?_
      · simp_all only [c0, c1, s0, s1]
        split
        · exact ⟨(_, _), rfl⟩
        · exact ⟨p, rfl⟩
      clear p
      rintro s ⟨p, rfl⟩
      refine Oo.cut (fun s => ∃ (p : Int × Int), s = [some (.br (.lst (bagD g))), some (.fz sz), some (.fz (.int 8)), some (.ow (.lst (cs.map cpD))), some (.fz e), some (.fz (cpD c)), some (.fz (.int x)), some (.fz (.int y)), some (.fz (.int q)), some (.fz (ppD p)), z10, z11, none]) ?_ ?_
      · simp_all only [c0, c1, s0, s1]
        split
        · exact ⟨(_, _), rfl⟩
        · exact ⟨p, rfl⟩
      clear p nx
      rintro s ⟨p, rfl⟩
      refine Oo.cut (fun s => ∃ (p : Int × Int) (g : Int × Int × Int), s = [some (.br (.lst (bagD g))), some (.fz sz), some (.fz (.int 8)), some (.ow (.lst (cs.map cpD))), some (.fz e), some (.fz (cpD c)), some (.fz (.int x)), some (.fz (.int y)), some (.fz (.int q)), some (.fz (ppD p)), z10, z11, none]) ?_ ?_
      · simp_all only [true_and]
        refine OkF.use (pick_ok (n := 12) (by decide) (by decide)) ?_
        rintro r as' - ⟨k, g, rfl, rfl, k0, k1⟩
        simp_all only [true_and]
        split
        · refine OkF.use (pick_ok (n := 61) (by decide) (by decide)) ?_
          rintro r as' - ⟨k, g, rfl, rfl, k0, k1⟩
          simp_all only [true_and]
          refine OkF.use (pick_ok (n := 61) (by decide) (by decide)) ?_
          rintro r as' - ⟨k, g, rfl, rfl, k0, k1⟩
          simp_all only [true_and]
          exact ⟨(_, _), g, rfl⟩
        · exact ⟨p, g, rfl⟩
      clear p g
      rintro s ⟨p, g, rfl⟩
      refine Oo.cut (fun s => ∃ (bl : Bool) (g : Int × Int × Int), s = [some (.br (.lst (bagD g))), some (.fz sz), some (.fz (.int 8)), some (.ow (.lst (cs.map cpD))), some (.fz e), some (.fz (cpD c)), some (.fz (.int x)), some (.fz (.int y)), some (.fz (.int q)), some (.fz (ppD p)), some (.fz (.bl bl)), z11, none]) ?_ ?_
      · simp_all only [true_and]
        refine OkF.use (pick_ok (n := 2) (by decide) (by decide)) ?_
        rintro r as' - ⟨k, g, rfl, rfl, k0, k1⟩
        simp_all only [f10]
        exact ⟨_, g, rfl⟩
      clear g
      rintro s ⟨bl, g, rfl⟩
      refine Oo.cut (fun s => s = [some (.br (.lst (bagD g))), some (.fz sz), some (.fz (.int 8)), some (.ow (.lst (cs.map cpD))), some (.fz e), some (.fz (cpD c)), some (.fz (.int x)), some (.fz (.int y)), some (.fz (.int q)), some (.fz (ppD p)), some (.fz (.bl bl)), some (.ow (.lst (((cs.map cpD).filter (nearT h w p)).map id))), none]) ?_ ?_
      · simp_all only [true_and]
        refine Ok1.lcP (nearT h w p) id ?_
        simp_all only [true_and]
        refine ⟨by rw [List.length_map]; omega, fun d hd => ?_, ?_⟩
        · obtain ⟨c', _, rfl⟩ := List.mem_map.mp hd
          refine ⟨_, e_gnT rfl, ?_⟩
          have tt := near_cp (h := h) (w := w) (p := p) c'
          simp_all only [true_and]
          refine OkF.use (lm' c' p) ?_
          rintro r as' - ⟨rfl, rfl⟩
          simp_all only [tt]
          split <;> first | rfl | trivial
        · simp_all only [noLs_near, f11]
      rintro s rfl
      obtain ⟨mn, em, m1⟩ := min_of p
      obtain ⟨mx, eM, m2⟩ := max_of p
      have lc : (cs.map cpD).length < 100000 := by rw [List.length_map]; omega
      have q0 : ixD (ppD p) (.int 0) = some (.d (.int p.1)) := rfl
      have q1 : ixD (ppD p) (.int 1) = some (.d (.int p.2)) := rfl
      simp_all only [em, eM, lc, q0, q1]
      repeat' split
      · rename_i k1 k2 k3 k4
        rw [List.length_map] at k4
        have fa := hf.add (p := p) (b := bl) m1 m2 k1 k2 (near_no k3) k4
        refine ⟨cs ++ [(p.1, p.2, bl)], g, some (.fz e), some (.fz (cpD c)), some (.fz (.int x)), some (.fz (.int y)), some (.fz (.int q)), some (.fz (ppD p)), some (.fz (.bl bl)), some (.ow (.lst (((cs.map cpD).filter (nearT h w p)).map id))), fa, ?_, rfl, rfl, rfl, rfl, rfl, rfl, rfl, rfl⟩
        rw [List.map_append]
        rfl
      all_goals exact ⟨cs, g, some (.fz e), some (.fz (cpD c)), some (.fz (.int x)), some (.fz (.int y)), some (.fz (.int q)), some (.fz (ppD p)), some (.fz (.bl bl)), some (.ow (.lst (((cs.map cpD).filter (nearT h w p)).map id))), hf, rfl, rfl, rfl, rfl, rfl, rfl, rfl, rfl, rfl⟩
  rintro s ⟨cs, g, z4, z5, z6, z7, z8, z9, z10, z11, hf, rfl⟩
  simp_all only [true_and]
  exact ⟨cs, g, hf, rfl, rfl⟩
end Cz

/-! # LK -/
namespace Cz
open L2 PyProof.Rows PySem.Spec PySem
def cpOf : D → Cp
  | .tup [.int a, .int b, .bl c] => (a, b, c)
  | _ => (0, 0, false)
theorem cpOf_cp (c : Cp) : cpOf (cpD c) = c := rfl
theorem perm_cps {m : List D} {cs : List Cp} (h : m.Perm (cs.map cpD)) : ∃ ms : List Cp, m = ms.map cpD ∧ ms.Perm cs := by
  refine ⟨m.map cpOf, ?_, ?_⟩
  · rw [List.map_map]
    conv => lhs; rw [← List.map_id m]
    refine List.map_congr_left fun d hd => ?_
    obtain ⟨c, _, rfl⟩ := List.mem_map.mp (h.mem_iff.mp hd)
    rfl
  · have q := h.map cpOf
    rw [List.map_map] at q
    have e : (cpOf ∘ cpD : Cp → Cp) = id := rfl
    rw [e, List.map_id] at q
    exact q
theorem cps_of {h w : Int} {cs ms : List Cp} (f : Fnd h w cs) (p : ms.Perm cs) (h1 : 1 ≤ h ∧ h ≤ 12) (w1 : 1 ≤ w ∧ w ≤ 12) : Cps h w ms :=
  ⟨h1, w1, by rw [p.length_eq]; exact f.l, fun c m => f.b c (p.mem_iff.mp m), (p.pairwise_iff fun {x y} z q => z (meet_symm.mp q)).mpr f.m⟩
section
variable {g g' : Geo} {L : Lot} {a : Bool} {n : Int}
structure Agr (g g' : Geo) (L : Lot) : Prop where
  p : ∀ k ∈ L, ∀ a, g.P a k = g'.P a k
  s : ∀ a, g.S a = g'.S a
theorem Agr.low (h : Agr g g' L) : lowL g a n L = lowL g' a n L := by
  unfold lowL
  exact List.filter_congr fun k hk => by rw [h.p k hk, h.s]
theorem Agr.high (h : Agr g g' L) : highL g a n L = highL g' a n L := by
  unfold highL
  exact List.filter_congr fun k hk => by rw [h.p k hk]
theorem Agr.vld (h : Agr g g' L) : Vld g a n L ↔ Vld g' a n L := by
  unfold Vld
  rw [h.low, h.high]
  refine and_congr_left fun _ => forall_congr' fun k => forall_congr' fun hk => ?_
  rw [h.p k hk, h.s]
theorem Agr.fcA (h : Agr g g' L) : fcA g a L = fcA g' a L := by
  unfold Cz.fcA
  have e : ends g a L = ends g' a L := by
    unfold ends
    exact List.map_congr_left fun k hk => by rw [h.p k hk, h.s]
  rw [e]
  congr 1
  funext n
  rw [decide_eq_decide]
  exact h.vld
theorem Agr.fc (h : Agr g g' L) : fc g L = fc g' L := by
  unfold Cz.fc
  rw [h.fcA, h.fcA]
theorem Agr.tr {b : List Lot} {s : List St3} (t : Tr g L b s) : Agr g g' L → Tr g' L b s := by
  induction t with
  | leaf e => exact fun h => .leaf (by rw [← h.fc]; exact e)
  | node e _ _ i1 i2 =>
    intro h
    refine .node (by rw [← h.fc]; exact e) ?_ ?_
    · rw [← h.low]
      exact i1 ⟨fun k hk => h.p k (low_mem.mp hk).1, h.s⟩
    · rw [← h.high]
      exact i2 ⟨fun k hk => h.p k (high_mem.mp hk).1, h.s⟩
end
def mvC (x y : Int) (c : Cp) : Cp := (c.1 + x, c.2.1 + y, !c.2.2)
def mvD (x y : Int) (a : Bool) : Int := if a then y else x
theorem agr_mv {h w x y : Int} {cs : List Cp} : Agr ((geo h w cs).mv (mvD x y)) (geo h w (cs.map (mvC x y))) (List.range cs.length) := by
  refine ⟨fun k hk a => ?_, fun a => by cases a <;> rfl⟩
  have lk := List.mem_range.mp hk
  have lk2 : k < (cs.map (mvC x y)).length := by rw [List.length_map]; exact lk
  show (geo h w cs).P a k + mvD x y a = _
  cases a
  · rw [geo_row lk, geo_row lk2, List.getElem_map]
    rfl
  · rw [geo_col lk, geo_col lk2, List.getElem_map]
    rfl
theorem mv_cps {h w x y : Int} {cs : List Cp} (k : Cps h w cs) (hx : 0 ≤ x ∧ ∀ c ∈ cs, c.1 + x ≤ 60) (hy : 0 ≤ y ∧ ∀ c ∈ cs, c.2.1 + y ≤ 60) : Cps h w (cs.map (mvC x y)) := by
  refine ⟨k.hh, k.ww, by rw [List.length_map]; exact k.l, fun d hd => ?_, ?_⟩
  · obtain ⟨c, m, rfl⟩ := List.mem_map.mp hd
    have b := k.b c m
    have := hx.2 c m
    have := hy.2 c m
    show (0 ≤ c.1 + x ∧ c.1 + x ≤ 60) ∧ 0 ≤ c.2.1 + y ∧ c.2.1 + y ≤ 60
    omega
  · rw [List.pairwise_map]
    refine k.m.imp fun {c d} q z => q ?_
    unfold meetI mvC at z
    unfold meetI
    dsimp only at z
    rw [show c.1 + x - (d.1 + x) = c.1 - d.1 by omega, show c.2.1 + y - (d.2.1 + y) = c.2.1 - d.2.1 by omega] at z
    exact z
theorem again_eq {h w x y : Int} {cs : List Cp} {bs b2 : List Lot} {ss s2 : List St3} (t : Tr (geo h w cs) (List.range cs.length) bs ss) (t2 : Tr (geo h w (cs.map (mvC x y))) (List.range cs.length) b2 s2) : b2 = bs ∧ s2 = ss.map fun p => (p.1, mvS (mvD x y) p.2) := by
  have t3 := Agr.tr (t.mv (d := mvD x y)) agr_mv
  exact t2.det t3
def pos0 (i : Nat) : D → D
  | .tup l => l.getD i .non
  | d => d
theorem rows_map (cs : List Cp) : (cs.map cpD).map (pos0 0) = (cs.map fun c => c.1).map .int := by
  (rw [List.map_map, List.map_map])
  rfl
theorem cols_map (cs : List Cp) : (cs.map cpD).map (pos0 1) = (cs.map fun c => c.2.1).map .int := by
  (rw [List.map_map, List.map_map])
  rfl
theorem max_is (ns : List Int) (h : ns ≠ []) : ∃ m, maxD (.lst (ns.map .int)) = some (.d (.int m)) ∧ m ∈ ns ∧ ∀ x ∈ ns, x ≤ m := by
  cases ns with
  | nil => exact absurd rfl h
  | cons n r => exact ⟨_, e_maxL, most_mem n r, fun x hx => most_all hx⟩
def mvT (x y : Int) : D → D
  | .tup [.int a, .int b, .bl c] => .tup [.int (a + x), .int (b + y), .bl !c]
  | d => d
theorem mvT_map (x y : Int) (cs : List Cp) : (cs.map cpD).map (mvT x y) = (cs.map (mvC x y)).map cpD := by
  (rw [List.map_map, List.map_map])
  rfl
end Cz

/-! # LL -/
namespace Cz
open L2 PyProof.Rows PySem.Spec PySem
theorem e_objfz {C : Addr} {t : List (Str × D)} : (OD.obj C t).fz = .obj C t := rfl
theorem sz0 {h w : Int} : ixD (szD h w) (.int 0) = some (.d (.int h)) := rfl
theorem sz1 {h w : Int} : ixD (szD h w) (.int 1) = some (.d (.int w)) := rfl
local macro_rules
  | `(tactic| simp_all only [$xs,*]) => `(tactic| simp (config := {decide := true}) only [mIfS, mRet, mAsg, mSetL, mNext, mDrop, mRetN, Oo.seq, Oo.out, Oo.ite, Oo.opt, Oo.nx, Oo.rt, Oo.bk, Oo.ct, Oo.no, Ok1.bind, Ok1.ok, Ok1.ite, Ok1.opt, e_var, e_rd1, e_rd2, e_rd3, e_c, e_pk1, e_pk2, e_pk3, e_pk4, e_pk5, e_pk6, e_nr1, e_nr2, e_nr3, e_fr1, e_fr2, e_fr3, e_fr4, e_fr5, e_fz1, e_fz2, e_fz3, e_fz4, e_ow, e_ow1, e_ow2, e_ls, e_ls1, e_ls2, e_pt1, e_pt2, e_fe, e_fe1, e_fe2, e_fe3,
    k_op, k_un, k_cb1, k_o1, k_o2, k_tr, k_and, k_or, k_not, k_andV, k_orV, k_notV, k_if, k_nil, k_cons, k_ref, k_tup, k_lst, e_al1, e_al2, e_mp, e_bd, k_cb, k_call, k_lm, k_yes, k_np, k_pt, k_sl, e_io, e_add1, e_add2, e_add3, e_sub, e_mul, mulOk_r, mulOk_l, e_fdiv, e_mod, e_pow, e_neg, e_lt, e_le, e_gt, e_ge, e_ltS, e_ix1, e_ix2, e_ix3, e_ix4, e_ix5, e_len1, e_len2, e_len3, e_len4, e_len5, e_bl, e_int1, e_abs, e_lst1, e_lst2, e_lst3, e_lst4, e_tup1, e_tup2, e_tup3, e_app, e_ext, e_at0, e_at1, e_at2, e_at3, e_in0, e_in1, e_in2, ex_some, k_items, k_rng1, k_rngE, e_i1, e_inr, e_ea1, e_ea2, e_ea3, e_ea4, Int.toNat_natCast, e_it1, e_it2, e_it3, e_it4, e_en1, e_en2, k_for, e_es1, e_es2, e_es3, e_nb1, e_nb2, e_rdd,
    k_callS, e_nq1, e_nq2, e_sv1, e_sv2, e_rf1, e_rf2, e_rf3, g_as1, g_as2, g_as3, g_as4, g_as5, g_as6, g_b1, g_b2, g_b3, g_b4, g_b5, g_b6, k_make, k_fld, e_fld, k_setA, e_ob1, e_pa1, e_pa2, k_asgG, e_gn, e_gnil, e_gcons, e_gtup, e_gtuk, e_gany1, e_gany2, e_gany3, k_dput, e_opk, e_opt, e_kt, e_kk1, e_kk2, e_ks1, e_ks2, e_dg1, e_dg2, e_ixk, e_din, e_dno, k_dnT, k_dnK, k_get2, e_dd1, e_dd2, e_pm1, e_pm2, k_disp, k_og, e_iob, k_oi, k_index, k_isi, k_chain, k_keys, e_fzs, k_forD, e_lo1, e_lo2, e_lb1, e_lb2, e_wi1, e_wi2, e_re1, e_re2, e_gd,
    decide_eq_true_eq, true_and, and_true, List.getElem?_cons_zero, List.getElem?_cons_succ, List.set_cons_zero, List.set_cons_succ, List.map_cons, List.map_nil, List.length_cons, List.length_nil, List.replicate_succ, List.replicate_zero, List.cons_append, List.nil_append, List.append_nil, if_true, if_false, k_ol, k_ob, k_oit, e_oit, e_tpl, k_par, e_st1, e_st2, k_star, e_sq1, e_sq2, k_tupRg, e_min2, e_max2, e_minL, e_maxL, e_tul0, e_mem1, e_eqI, e_neI, e_eqS, e_neS, e_ntd, y_lt1, y_lt2, y_lt3, y_lt4, y_lt5, y_lt6, y_tu1, y_tu2, y_tu3, y_tu4, y_tu5, y_st1, y_st2, y_in1, y_bo1, y_bo2, y_st3, y_tu6, y_tu7, y_in2, y_tu8, ex_bl, e_is1, e_is2, e_isn1, e_isn2, e_is3, e_is4, e_is5, e_is6, e_is7, e_is8, e_isn3, e_isn4, e_isn5, e_isn6, Option.map_none, Bool.not_true, Bool.not_false, Bool.false_eq_true, Bool.true_eq_false, Bool.not_eq_true', decide_eq_false_iff_not, k_meth, e_mth, Option.bind_some, ex_one, e_trL, mBreak, mCont, k_snapE, $xs,*])
variable {A : Ad}
theorem law_ok {ns : List Int} : OkF (f_law_g A) [.fz (.rol (ns.map .int))] fun r as' => r = .d (.bl true) := by
  obtain ⟨N, hN⟩ : ∃ N : SV, N = .fz (.rol (ns.map .int)) := ⟨_, rfl⟩
  have bg : ∀ {j : Int}, 0 ≤ j → OkF (f_l_bag_of A) [N, .fz (.int j)] fun r as' => ∃ g : Int × Int × Int, r = .o (.lst (bagD g)) ∧ as' = [N, .fz (.int j)] := fun hj => by
    rw [hN]
    exact bagI hj
  have nv : ∀ s : SS, rdS (some (some N)) s 0 = .ok (.d (.rol (ns.map .int))) s := fun s => by rw [hN]; rfl
  have na : ∀ r, asS (some (some N)) r = r.map (N :: ·) := fun r => by rw [hN]; rfl
  rw [← hN]
  refine OkF.run rfl ?_
  unfold m_law_g
  refine Oo.cut (fun st => ∃ g : Int × Int × Int, st = [some N, some (.ow (.lst (bagD g))), none, none, none, none, none, none, none, none, none, none, none, none, none, none, none, none]) ?_ ?_
  · rw [hN]
    simp_all only [true_and]
    refine OkF.use (bagI (by decide)) ?_
    rintro r as' - ⟨g, rfl, rfl⟩
    simp_all only [true_and]
    exact ⟨g, rfl⟩
  rintro st ⟨g, rfl⟩
  refine Oo.cut (fun st => ∃ (h w : Int) (g : Int × Int × Int), (1 ≤ h ∧ h ≤ 12) ∧ (1 ≤ w ∧ w ≤ 12) ∧ st = [some N, some (.ow (.lst (bagD g))), some (.fz (szD h w)), none, none, none, none, none, none, none, none, none, none, none, none, none, none, none]) ?_ ?_
  · simp_all only [true_and]
    refine OkF.use (pick_ok (n := 4) (by decide) (by decide)) ?_
    rintro r as' - ⟨k1, g', rfl, rfl, k10, k11⟩
    simp_all only [true_and]
    refine OkF.use (pick_ok (n := 4) (by decide) (by decide)) ?_
    rintro r as' - ⟨k2, g', rfl, rfl, k20, k21⟩
    simp_all only [true_and]
    exact ⟨1 + k1, 1 + k2, g', by omega, by omega, rfl⟩
  rintro st ⟨h, w, g, hh, hw, rfl⟩
  refine Oo.cut (fun st => ∃ (h w : Int) (g : Int × Int × Int), (1 ≤ h ∧ h ≤ 12) ∧ (1 ≤ w ∧ w ≤ 12) ∧ st = [some N, some (.ow (.lst (bagD g))), some (.fz (szD h w)), none, none, none, none, none, none, none, none, none, none, none, none, none, none, none]) ?_ ?_
  · simp_all only [true_and]
    refine OkF.use (pick_ok (n := 8) (by decide) (by decide)) ?_
    rintro r as' - ⟨k0, g', rfl, rfl, k00, k01⟩
    simp_all only [true_and]
    split
    · refine OkF.use (pick_ok (n := 12) (by decide) (by decide)) ?_
      rintro r as' - ⟨k1, g', rfl, rfl, k10, k11⟩
      simp_all only [true_and]
      refine OkF.use (pick_ok (n := 12) (by decide) (by decide)) ?_
      rintro r as' - ⟨k2, g', rfl, rfl, k20, k21⟩
      simp_all only [true_and]
      exact ⟨1 + k1, 1 + k2, g', by omega, by omega, rfl⟩
    · exact ⟨h, w, g', hh, hw, rfl⟩
  clear hh hw h w g
  rintro st ⟨h, w, g, hh, hw, rfl⟩
  refine Oo.cut (fun st => ∃ (cs : List Cp) (g : Int × Int × Int), Cps h w cs ∧ st = [some N, some (.ow (.lst (bagD g))), some (.fz (szD h w)), some (.ow (.lst (cs.map cpD))), none, none, none, none, none, none, none, none, none, none, none, none, none, none]) ?_ ?_
  · simp_all only [true_and]
    refine OkF.use (copies_ok hh.1 hw.1 hh.2 hw.2) ?_
    rintro r as' - ⟨cs, g', hf, rfl, rfl⟩
    have fl := hf.l
    simp_all only [true_and]
    refine OkF.use (mixed_ok (d := .lst (cs.map cpD)) rfl (by rw [List.length_map]; omega)) ?_
    rintro r as' - ⟨m, g', rfl, rfl, hm⟩
    obtain ⟨ms, rfl, hp⟩ := perm_cps hm
    simp_all only [true_and]
    exact ⟨ms, g', cps_of hf hp hh hw, rfl⟩
  clear g
  rintro st ⟨cs, g, k0, rfl⟩
  obtain ⟨l1, l2⟩ := k0.l
  have hS := geo_pos k0
  have lcd : lenD (.lst (cs.map cpD)) = some (.d (.int (cs.length : Nat))) := by rw [e_len1, List.length_map]
  refine Oo.cut (fun st => st = [some N, some (.ow (.lst (bagD g))), some (.fz (szD h w)), some (.fz (.lst (cs.map cpD))), some (.ow (.obj A.Layout [("height", .int h), ("width", .int w), ("copies", .tup (cs.map cpD))])), none, none, none, none, none, none, none, none, none, none, none, none, none]) ?_ ?_
  · simp_all only [sz0, sz1]
    refine OkF.use (layout_init_ok k0) ?_
    rintro r as' - ⟨rfl, rfl⟩
    simp_all only [true_and]
    refine ⟨_, _, rfl, _, rfl, ?_⟩
    simp_all only [true_and]
  rintro st rfl
  refine Oo.cut (fun st => ∃ (bs : List Lot) (ss : List St3), Tr (geo h w cs) (List.range cs.length) bs ss ∧ st = [some N, some (.ow (.lst (bagD g))), some (.fz (szD h w)), some (.fz (.lst (cs.map cpD))), some (.fz (layD A h w cs)), some (.ow (.obj A.Cuts [("blocks", .tup ((srtN bs).map lotD)), ("parting", .tup (ss.map stD))])), none, none, none, none, none, none, none, none, none, none, none, none]) ?_ ?_
  · simp_all only [true_and]
    refine OkF.use (cutsinit_ok k0) ?_
    rintro r as' - ⟨bs, ss, t, rfl, rfl⟩
    simp_all only [true_and]
    refine ⟨_, _, rfl, _, rfl, ?_⟩
    simp_all only [true_and]
    exact ⟨bs, ss, t, rfl⟩
  rintro st ⟨bs, ss, t, rfl⟩
  have nr := range_ne l1
  have nb := t.len hS nr
  have cnt := t.count
  rw [List.length_range] at nb
  have sp := srtN_perm bs
  have bsub : ∀ B ∈ srtN bs, B ≠ [] ∧ B.length ≤ 8 ∧ ∀ k ∈ B, k < cs.length := fun B m => by
    have m' := sp.mem_iff.mp m
    obtain ⟨q1, q2⟩ := t.sub hS nr B m'
    have q3 := t.blk B m'
    rw [List.length_range] at q3
    exact ⟨q1, by omega, fun k hk => List.mem_range.mp (q2 k hk)⟩
  have ssub : ∀ p ∈ ss, p.1.length ≤ 8 := fun p m => by
    have q := t.subs p m
    rw [List.length_range] at q
    omega
  have sl := sp.length_eq
  have ep : ∀ (bs : List Lot) (ss : List St3), List.lookup ("parting" : Str) [(("blocks" : Str), D.tup (bs.map lotD)), ("parting", .tup (ss.map stD))] = some (.tup (ss.map stD)) := fun _ _ => rfl
  have tr1 := fun (ss : List St3) h2 l2 => toldright_ok (A := A) (bs := srtN bs) (ss := ss) (fun B m => ⟨(bsub B m).1, (bsub B m).2.1⟩) h2 (by omega) l2
  refine Oo.cut (fun st => st = [some N, some (.ow (.lst (bagD g))), some (.fz (szD h w)), some (.fz (.lst (cs.map cpD))), some (.fz (layD A h w cs)), some (.ow (.obj A.Cuts [("blocks", .tup ((srtN bs).map lotD)), ("parting", .tup (ss.map stD))])), none, none, none, none, none, none, none, none, none, none, none, none]) ?_ ?_
  · simp_all only [ep]
  rintro st rfl
  refine Oo.cut (fun st => st = [some N, some (.ow (.lst (bagD g))), some (.fz (szD h w)), some (.fz (.lst (cs.map cpD))), some (.fz (layD A h w cs)), some (.ow (.obj A.Cuts [("blocks", .tup ((srtN bs).map lotD)), ("parting", .tup (ss.map stD))])), some (.fz (.tup ((srtN bs).map lotD))), none, none, none, none, none, none, none, none, none, none, none]) ?_ ?_
  · simp_all only [ep]
    refine OkF.use (walked_ok k0 t) ?_
    rintro r as' - ⟨rfl, rfl⟩
    simp_all only [true_and]
  rintro st rfl
  refine Oo.cut (fun st => st = [some N, some (.ow (.lst (bagD g))), some (.fz (szD h w)), some (.fz (.lst (cs.map cpD))), some (.fz (layD A h w cs)), some (.ow (.obj A.Cuts [("blocks", .tup ((srtN bs).map lotD)), ("parting", .tup (ss.map stD))])), some (.fz (.tup ((srtN bs).map lotD))), none, none, none, none, none, none, none, none, none, none, none]) ?_ ?_
  · have hlen : (((ss.map stD).length : Nat) : Int) = ((((srtN bs).map lotD).length : Nat) : Int) - 1 := by
      rw [List.length_map, List.length_map]
      omega
    simp_all only [ep, hlen]
  rintro st rfl
  refine Oo.cut (fun st => st = [some N, some (.ow (.lst (bagD g))), some (.fz (szD h w)), some (.fz (.lst (cs.map cpD))), some (.fz (layD A h w cs)), some (.fz (cutsD A (srtN bs) ss)), some (.fz (.tup ((srtN bs).map lotD))), none, none, none, none, none, none, none, none, none, none, none]) ?_ ?_
  · simp_all only [ep]
    refine OkF.use (tr1 ss ssub (by omega)) ?_
    rintro r as' - ⟨rfl, rfl⟩
    simp_all only [true_and]
    rfl
  rintro st rfl
  refine Oo.cut (fun st => ∃ g : Int × Int × Int, st = [some N, some (.ow (.lst (bagD g))), some (.fz (szD h w)), some (.fz (.lst (cs.map cpD))), some (.fz (layD A h w cs)), some (.fz (cutsD A (srtN bs) ss)), some (.fz (.tup ((srtN bs).map lotD))), none, none, none, none, none, none, none, none, none, none, none]) ?_ ?_
  · rw [hN]
    simp_all only [true_and]
    refine OkF.use (bagI (by decide)) ?_
    rintro r as' - ⟨g, rfl, rfl⟩
    simp_all only [true_and]
    exact ⟨g, rfl⟩
  clear g
  rintro st ⟨g, rfl⟩
  refine Oo.cut (fun st => ∃ (g : Int × Int × Int) (z7 : Option SV), feS (some z7) = true ∧ st = [some N, some (.ow (.lst (bagD g))), some (.fz (szD h w)), some (.fz (.lst (cs.map cpD))), some (.fz (layD A h w cs)), some (.fz (cutsD A (srtN bs) ss)), some (.fz (.tup ((srtN bs).map lotD))), z7, none, none, none, none, none, none, none, none, none, none]) ?_ ?_
  · simp_all only [e_inr (k := 3) (by decide) (by decide)]
    refine Oo.loop (fun ds st => ∃ (g : Int × Int × Int) (z7 : Option SV), feS (some z7) = true ∧ st = [some N, some (.ow (.lst (bagD g))), some (.fz (szD h w)), some (.fz (.lst (cs.map cpD))), some (.fz (layD A h w cs)), some (.fz (cutsD A (srtN bs) ss)), some (.fz (.tup ((srtN bs).map lotD))), z7, none, none, none, none, none, none, none, none, none, none]) ?_ ?_ _ _ ⟨g, none, rfl, rfl⟩
    · rintro st ⟨g, z7, f7, rfl⟩
      exact ⟨g, z7, f7, rfl⟩
    · rintro d ds st ⟨g, z7, f7, rfl⟩
      refine ⟨_, e_gnT f7, ?_⟩
      simp_all only [true_and]
      refine OkF.use (parted_ok k0 t) ?_
      rintro r as' - ⟨g', rfl, rfl⟩
      simp_all only [ne_lots]
      exact ⟨g', some (.fz d), rfl, rfl⟩
  clear g
  rintro st ⟨g, z7, f7, rfl⟩
  have ncs : cs ≠ [] := fun z => by
    rw [z] at l1
    exact absurd l1 (by decide)
  have p0 : ∀ c : Cp, ixD (cpD c) (.int 0) = some (.d (.int c.1)) := fun _ => rfl
  have p1 : ∀ c : Cp, ixD (cpD c) (.int 1) = some (.d (.int c.2.1)) := fun _ => rfl
  have p2 : ∀ c : Cp, ixD (cpD c) (.int 2) = some (.d (.bl c.2.2)) := fun _ => rfl
  have t0 : ∀ c : Cp, pos0 0 (cpD c) = .int c.1 := fun _ => rfl
  have t1 : ∀ c : Cp, pos0 1 (cpD c) = .int c.2.1 := fun _ => rfl
  refine Oo.cut (fun st => ∃ (x : Int) (g : Int × Int × Int), (0 ≤ x ∧ ∀ c ∈ cs, c.1 + x ≤ 60) ∧ st = [some N, some (.ow (.lst (bagD g))), some (.fz (szD h w)), some (.fz (.lst (cs.map cpD))), some (.fz (layD A h w cs)), some (.fz (cutsD A (srtN bs) ss)), some (.fz (.tup ((srtN bs).map lotD))), z7, some (.fz (.int x)), none, none, none, none, none, none, none, none, none]) ?_ ?_
  · obtain ⟨m, e1, e2, e3⟩ := max_is (cs.map fun c => c.1) (fun z => ncs (List.map_eq_nil_iff.mp z))
    rw [← rows_map] at e1
    obtain ⟨c, mc, rfl⟩ := List.mem_map.mp e2
    have bc := (k0.b c mc).1
    simp_all only [true_and]
    refine Ok1.lcM (pos0 0) ?_
    simp_all only [true_and]
    refine ⟨by rw [List.length_map]; omega, fun e he => ?_, ?_⟩
    · obtain ⟨c', _, rfl⟩ := List.mem_map.mp he
      simp_all only [p0, t0]
    · simp_all only [e1]
      refine OkF.use (pick_ok (n := 61 - c.1) (by omega) (by omega)) ?_
      rintro r as' - ⟨k, g', rfl, rfl, k00, k01⟩
      simp_all only [true_and]
      refine ⟨k, g', ⟨k00, fun c' m' => ?_⟩, rfl⟩
      have := e3 _ (List.mem_map.mpr ⟨c', m', rfl⟩)
      omega
  clear g
  rintro st ⟨x, g, hx, rfl⟩
  refine Oo.cut (fun st => ∃ (y : Int) (g : Int × Int × Int), (0 ≤ y ∧ ∀ c ∈ cs, c.2.1 + y ≤ 60) ∧ st = [some N, some (.ow (.lst (bagD g))), some (.fz (szD h w)), some (.fz (.lst (cs.map cpD))), some (.fz (layD A h w cs)), some (.fz (cutsD A (srtN bs) ss)), some (.fz (.tup ((srtN bs).map lotD))), z7, some (.fz (.int x)), none, some (.fz (.int y)), none, none, none, none, none, none, none]) ?_ ?_
  · obtain ⟨m, e1, e2, e3⟩ := max_is (cs.map fun c => c.2.1) (fun z => ncs (List.map_eq_nil_iff.mp z))
    rw [← cols_map] at e1
    obtain ⟨c, mc, rfl⟩ := List.mem_map.mp e2
    have bc := (k0.b c mc).2
    simp_all only [true_and]
    refine Ok1.lcM (pos0 1) ?_
    simp_all only [true_and]
    refine ⟨by rw [List.length_map]; omega, fun e he => ?_, ?_⟩
    · obtain ⟨c', _, rfl⟩ := List.mem_map.mp he
      simp_all only [p1, t1]
    · simp_all only [e1]
      refine OkF.use (pick_ok (n := 61 - c.2.1) (by omega) (by omega)) ?_
      rintro r as' - ⟨k, g', rfl, rfl, k00, k01⟩
      simp_all only [true_and]
      refine ⟨k, g', ⟨k00, fun c' m' => ?_⟩, rfl⟩
      have := e3 _ (List.mem_map.mpr ⟨c', m', rfl⟩)
      omega
  clear g
  rintro st ⟨y, g, hy, rfl⟩
  refine Oo.cut (fun st => st = [some N, some (.ow (.lst (bagD g))), some (.fz (szD h w)), some (.fz (.lst (cs.map cpD))), some (.fz (layD A h w cs)), some (.fz (cutsD A (srtN bs) ss)), some (.fz (.tup ((srtN bs).map lotD))), z7, some (.fz (.int x)), none, some (.fz (.int y)), some (.ow (.lst ((cs.map (mvC x y)).map cpD))), none, none, none, none, none, none]) ?_ ?_
  · simp_all only [true_and]
    refine Ok1.lcM (mvT x y) ?_
    simp_all only [true_and]
    refine ⟨by rw [List.length_map]; omega, fun e he => ?_, ?_⟩
    · obtain ⟨c', _, rfl⟩ := List.mem_map.mp he
      have tt : mvT x y (cpD c') = .tup [.int (c'.1 + x), .int (c'.2.1 + y), .bl !c'.2.2] := rfl
      simp_all only [p0, p1, p2, tt]
    · simp_all only [mvT_map]
  rintro st rfl
  have k1 := mv_cps k0 hx hy
  have lm : (cs.map (mvC x y)).length = cs.length := List.length_map ..
  refine Oo.cut (fun st => st = [some N, some (.ow (.lst (bagD g))), some (.fz (szD h w)), some (.fz (.lst (cs.map cpD))), some (.fz (layD A h w cs)), some (.fz (cutsD A (srtN bs) ss)), some (.fz (.tup ((srtN bs).map lotD))), z7, some (.fz (.int x)), none, some (.fz (.int y)), some (.fz (.lst ((cs.map (mvC x y)).map cpD))), some (.ow (.obj A.Cuts [("blocks", .tup ((srtN bs).map lotD)), ("parting", .tup ((ss.map fun p => (p.1, mvS (mvD x y) p.2)).map stD))])), none, none, none, none, none]) ?_ ?_
  · simp_all only [sz0, sz1]
    refine OkF.use (layout_init_ok k1) ?_
    rintro r as' - ⟨rfl, rfl⟩
    simp_all only [true_and]
    refine ⟨_, _, rfl, _, rfl, ?_⟩
    simp_all only [true_and]
    refine OkF.use (cutsinit_ok k1) ?_
    rintro r as' - ⟨b2, s2, t2, rfl, rfl⟩
    rw [lm] at t2
    obtain ⟨rfl, rfl⟩ := again_eq t t2
    simp_all only [true_and]
    refine ⟨_, _, rfl, _, rfl, ?_⟩
    simp_all only [true_and]
  rintro st rfl
  refine Oo.cut (fun st => st = [some N, some (.ow (.lst (bagD g))), some (.fz (szD h w)), some (.fz (.lst (cs.map cpD))), some (.fz (layD A h w cs)), some (.fz (cutsD A (srtN bs) ss)), some (.fz (.tup ((srtN bs).map lotD))), z7, some (.fz (.int x)), none, some (.fz (.int y)), some (.fz (.lst ((cs.map (mvC x y)).map cpD))), some (.ow (.obj A.Cuts [("blocks", .tup ((srtN bs).map lotD)), ("parting", .tup ((ss.map fun p => (p.1, mvS (mvD x y) p.2)).map stD))])), some (.ow (.lst [])), none, none, none, none]) ?_ ?_
  · simp_all only [true_and]
  rintro st rfl
  have fp : fldD [A.Cuts] "parting" (cutsD A (srtN bs) ss) = some (.tup (ss.map stD)) := by
    unfold cutsD
    rw [e_fld, if_pos List.mem_cons_self]
    rfl
  refine Oo.cut (fun st => ∃ z14 z15 : Option SV, feS (some z14) = true ∧ feS (some z15) = true ∧ st = [some N, some (.ow (.lst (bagD g))), some (.fz (szD h w)), some (.fz (.lst (cs.map cpD))), some (.fz (layD A h w cs)), some (.fz (cutsD A (srtN bs) ss)), some (.fz (.tup ((srtN bs).map lotD))), z7, some (.fz (.int x)), none, some (.fz (.int y)), some (.fz (.lst ((cs.map (mvC x y)).map cpD))), some (.ow (.obj A.Cuts [("blocks", .tup ((srtN bs).map lotD)), ("parting", .tup ((ss.map fun p => (p.1, mvS (mvD x y) p.2)).map stD))])), some (.ow (.lst ((ss.map (fun p : St3 => (p.1, mvS (mvD x y) p.2))).map stD))), z14, z15, none, none]) ?_ ?_
  · simp_all only [fp]
    refine Oo.loop (fun ds st => ∃ (M Z : List St3) (z14 z15 : Option SV), ds = Z.map stD ∧ M ++ Z = ss ∧ feS (some z14) = true ∧ feS (some z15) = true ∧ st = [some N, some (.ow (.lst (bagD g))), some (.fz (szD h w)), some (.fz (.lst (cs.map cpD))), some (.fz (layD A h w cs)), some (.fz (cutsD A (srtN bs) ss)), some (.fz (.tup ((srtN bs).map lotD))), z7, some (.fz (.int x)), none, some (.fz (.int y)), some (.fz (.lst ((cs.map (mvC x y)).map cpD))), some (.ow (.obj A.Cuts [("blocks", .tup ((srtN bs).map lotD)), ("parting", .tup ((ss.map fun p => (p.1, mvS (mvD x y) p.2)).map stD))])), some (.ow (.lst ((M.map (fun p : St3 => (p.1, mvS (mvD x y) p.2))).map stD))), z14, z15, none, none]) ?_ ?_ _ _ ⟨[], ss, none, none, rfl, rfl, rfl, rfl, rfl⟩
    · rintro st ⟨M, Z, z14, z15, hz, hm, f14, f15, rfl⟩
      have e : Z = [] := List.map_eq_nil_iff.mp hz.symm
      subst e
      rw [List.append_nil] at hm
      rw [hm]
      exact ⟨z14, z15, f14, f15, rfl⟩
    · rintro d ds st ⟨M, Z, z14, z15, hz, hm, f14, f15, rfl⟩
      obtain ⟨p, Z', rfl, rfl, rfl⟩ := cons_map hz
      obtain ⟨L, a, n⟩ := p
      have lM : ((M.map (fun p : St3 => (p.1, mvS (mvD x y) p.2))).map stD).length < 100000 := by
        have := congrArg List.length hm
        rw [List.length_append] at this
        rw [List.length_map, List.length_map]
        omega
      have c0 := cut0 a n
      have c1 := cut1 a n
      refine ⟨_, e_g2 f14 (by simpa using f15), ?_⟩
      refine Oo.mono (N := fun st => st = [some N, some (.ow (.lst (bagD g))), some (.fz (szD h w)), some (.fz (.lst (cs.map cpD))), some (.fz (layD A h w cs)), some (.fz (cutsD A (srtN bs) ss)), some (.fz (.tup ((srtN bs).map lotD))), z7, some (.fz (.int x)), none, some (.fz (.int y)), some (.fz (.lst ((cs.map (mvC x y)).map cpD))), some (.ow (.obj A.Cuts [("blocks", .tup ((srtN bs).map lotD)), ("parting", .tup ((ss.map fun p => (p.1, mvS (mvD x y) p.2)).map stD))])), some (.ow (.lst (((M ++ [(L, a, n)]).map (fun p : St3 => (p.1, mvS (mvD x y) p.2))).map stD))), some (.fz (lotD L)), some (.fz (cutD (a, n))), none, none]) (T := fun _ _ => False) (B := fun _ => False) (C := fun _ => False) ?_ ?_ (fun _ _ z => z.elim) (fun _ z => z.elim) (fun _ z => z.elim)
      · have em : ((M ++ [(L, a, n)]).map (fun p : St3 => (p.1, mvS (mvD x y) p.2))).map stD = (M.map (fun p : St3 => (p.1, mvS (mvD x y) p.2))).map stD ++ [stD (L, a, n + mvD x y a)] := by
          rw [List.map_append, List.map_append]
          rfl
        rw [em]
        cases a with
        | false =>
          simp_all only [c0, c1, way_f, lM]
          rfl
        | true =>
          simp_all only [c0, c1, way_t, lM]
          rfl
      · rintro st rfl
        exact ⟨M ++ [(L, a, n)], Z', _, _, rfl, by rw [List.append_assoc]; exact hm, rfl, rfl, rfl⟩
  rintro st ⟨z14, z15, f14, f15, rfl⟩
  refine Oo.cut (fun st => st = [some N, some (.ow (.lst (bagD g))), some (.fz (szD h w)), some (.fz (.lst (cs.map cpD))), some (.fz (layD A h w cs)), some (.fz (cutsD A (srtN bs) ss)), some (.fz (.tup ((srtN bs).map lotD))), z7, some (.fz (.int x)), none, some (.fz (.int y)), some (.fz (.lst ((cs.map (mvC x y)).map cpD))), some (.fz (cutsD A (srtN bs) (ss.map (fun p : St3 => (p.1, mvS (mvD x y) p.2))))), some (.ow (.lst ((ss.map (fun p : St3 => (p.1, mvS (mvD x y) p.2))).map stD))), z14, z15, none, none]) ?_ ?_
  · have s2 : ∀ p ∈ ss.map (fun p : St3 => (p.1, mvS (mvD x y) p.2)), p.1.length ≤ 8 := fun p m => by
      obtain ⟨q, mq, rfl⟩ := List.mem_map.mp m
      exact ssub q mq
    simp_all only [true_and]
    refine OkF.use (tr1 (ss.map (fun p : St3 => (p.1, mvS (mvD x y) p.2))) s2 (by rw [List.length_map]; omega)) ?_
    rintro r as' - ⟨rfl, rfl⟩
    simp_all only [true_and]
    rfl
  rintro st rfl
  refine Oo.cut (fun st => ∃ z16 : Option SV, st = [some N, some (.ow (.lst (bagD g))), some (.fz (szD h w)), some (.fz (.lst (cs.map cpD))), some (.fz (layD A h w cs)), some (.fz (cutsD A (srtN bs) ss)), some (.fz (.tup ((srtN bs).map lotD))), z7, some (.fz (.int x)), none, some (.fz (.int y)), some (.fz (.lst ((cs.map (mvC x y)).map cpD))), some (.fz (cutsD A (srtN bs) (ss.map (fun p : St3 => (p.1, mvS (mvD x y) p.2))))), some (.ow (.lst ((ss.map (fun p : St3 => (p.1, mvS (mvD x y) p.2))).map stD))), z14, z15, z16, none]) ?_ ?_
  · simp_all only [true_and]
    refine Oo.loop (fun ds st => ∃ (Z : List Lot) (z16 : Option SV), ds = Z.map lotD ∧ (∀ B ∈ Z, B ∈ srtN bs) ∧ feS (some z16) = true ∧ st = [some N, some (.ow (.lst (bagD g))), some (.fz (szD h w)), some (.fz (.lst (cs.map cpD))), some (.fz (layD A h w cs)), some (.fz (cutsD A (srtN bs) ss)), some (.fz (.tup ((srtN bs).map lotD))), z7, some (.fz (.int x)), none, some (.fz (.int y)), some (.fz (.lst ((cs.map (mvC x y)).map cpD))), some (.fz (cutsD A (srtN bs) (ss.map (fun p : St3 => (p.1, mvS (mvD x y) p.2))))), some (.ow (.lst ((ss.map (fun p : St3 => (p.1, mvS (mvD x y) p.2))).map stD))), z14, z15, z16, none]) ?_ ?_ _ _ ⟨srtN bs, none, rfl, (fun B m => m), rfl, rfl⟩
    · rintro st ⟨Z, z16, -, -, -, rfl⟩
      exact ⟨z16, rfl⟩
    · rintro d ds st ⟨Z, z16, hz, hm, f16, rfl⟩
      obtain ⟨B, Z', rfl, rfl, rfl⟩ := cons_map hz
      obtain ⟨q1, q2, q3⟩ := bsub B (hm B List.mem_cons_self)
      refine ⟨_, e_gnT f16, ?_⟩
      simp_all only [true_and]
      refine OkF.use (cutright_ok k0 q3 q1 q2) ?_
      rintro r as' - ⟨rfl, rfl⟩
      simp_all only [true_and]
      exact ⟨Z', some (.fz (lotD B)), rfl, (fun C m => hm C (List.mem_cons_of_mem _ m)), rfl, rfl⟩
  rintro st ⟨z16, rfl⟩
  have ul : (upTo cs.length).length = cs.length := by simp [upTo]
  refine Oo.cut (fun st => ∃ (g : Int × Int × Int) (z7 z14 : Option SV), st = [some N, some (.ow (.lst (bagD g))), some (.fz (szD h w)), some (.fz (.lst (cs.map cpD))), some (.fz (layD A h w cs)), some (.fz (cutsD A (srtN bs) ss)), some (.fz (.tup ((srtN bs).map lotD))), z7, some (.fz (.int x)), none, some (.fz (.int y)), some (.fz (.lst ((cs.map (mvC x y)).map cpD))), some (.fz (cutsD A (srtN bs) (ss.map (fun p : St3 => (p.1, mvS (mvD x y) p.2))))), some (.ow (.lst ((ss.map (fun p : St3 => (p.1, mvS (mvD x y) p.2))).map stD))), z14, z15, z16, none]) ?_ ?_
  · simp_all only [e_inr (k := 4) (by decide) (by decide)]
    refine Oo.loop (fun ds st => ∃ (g : Int × Int × Int) (z7 z14 : Option SV), feS (some z7) = true ∧ feS (some z14) = true ∧ st = [some N, some (.ow (.lst (bagD g))), some (.fz (szD h w)), some (.fz (.lst (cs.map cpD))), some (.fz (layD A h w cs)), some (.fz (cutsD A (srtN bs) ss)), some (.fz (.tup ((srtN bs).map lotD))), z7, some (.fz (.int x)), none, some (.fz (.int y)), some (.fz (.lst ((cs.map (mvC x y)).map cpD))), some (.fz (cutsD A (srtN bs) (ss.map (fun p : St3 => (p.1, mvS (mvD x y) p.2))))), some (.ow (.lst ((ss.map (fun p : St3 => (p.1, mvS (mvD x y) p.2))).map stD))), z14, z15, z16, none]) ?_ ?_ _ _ ⟨g, z7, z14, f7, f14, rfl⟩
    · rintro st ⟨g, z7, z14, -, -, rfl⟩
      exact ⟨g, z7, z14, rfl⟩
    · rintro d ds st ⟨g, z7, z14, f7, f14, rfl⟩
      refine ⟨_, e_gnT f7, ?_⟩
      refine Oo.cut (fun st => ∃ (M : Lot) (g : Int × Int × Int), (∀ k ∈ M, k < cs.length) ∧ M.length ≤ 8 ∧ st = [some N, some (.ow (.lst (bagD g))), some (.fz (szD h w)), some (.fz (.lst (cs.map cpD))), some (.fz (layD A h w cs)), some (.fz (cutsD A (srtN bs) ss)), some (.fz (.tup ((srtN bs).map lotD))), some (.fz d), some (.fz (.int x)), none, some (.fz (.int y)), some (.fz (.lst ((cs.map (mvC x y)).map cpD))), some (.fz (cutsD A (srtN bs) (ss.map (fun p : St3 => (p.1, mvS (mvD x y) p.2))))), some (.ow (.lst ((ss.map (fun p : St3 => (p.1, mvS (mvD x y) p.2))).map stD))), some (.fz (lotD M)), z15, z16, none]) ?_ ?_
      · simp_all only [true_and]
        refine Ok1.lc ?_
        simp_all only [lcd, e_inrN (n := cs.length) (by omega)]
        refine Ok1.loopC (fun ds acc st => ∃ (M Z : Lot) (g : Int × Int × Int), ds = lotL Z ∧ acc = lotL M ∧ (∀ k ∈ M, k < cs.length) ∧ (∀ k ∈ Z, k < cs.length) ∧ M.length + Z.length ≤ 8 ∧ st = [some N, some (.ow (.lst (bagD g))), some (.fz (szD h w)), some (.fz (.lst (cs.map cpD))), some (.fz (layD A h w cs)), some (.fz (cutsD A (srtN bs) ss)), some (.fz (.tup ((srtN bs).map lotD))), some (.fz d), some (.fz (.int x)), none, some (.fz (.int y)), some (.fz (.lst ((cs.map (mvC x y)).map cpD))), some (.fz (cutsD A (srtN bs) (ss.map (fun p : St3 => (p.1, mvS (mvD x y) p.2))))), some (.ow (.lst ((ss.map (fun p : St3 => (p.1, mvS (mvD x y) p.2))).map stD))), z14, z15, z16, none]) ?_ ?_ _ _ _ ⟨[], List.range cs.length, g, upTo_lot _, rfl, (fun k m => by cases m), (fun k m => List.mem_range.mp m), by simp; omega, rfl⟩
        · rintro acc st ⟨M, Z, g, hz, rfl, hM, -, hl, rfl⟩
          simp_all only [f14]
          exact ⟨M, g, hM, by omega, rfl⟩
        · rintro e ds acc st ⟨M, Z, g, hz, rfl, hM, hZ, hl, rfl⟩
          obtain ⟨k, Z', rfl, rfl, rfl⟩ := lotL_cons hz
          have hl' : M.length + (Z'.length + 1) ≤ 8 := hl
          have la : (lotL M).length < 100000 := by
            rw [lotL_len]
            omega
          refine ⟨_, e_gnT rfl, ?_⟩
          simp_all only [true_and]
          refine OkF.use (pick_ok (n := 2) (by decide) (by decide)) ?_
          rintro r as' - ⟨q, g', rfl, rfl, q0, q1⟩
          simp_all only [la]
          split
          · refine ⟨M ++ [k], Z', g', rfl, by rw [lotL_app], fun i m => ?_, fun i m => hZ i (List.mem_cons_of_mem _ m), by rw [List.length_append, List.length_singleton]; omega, rfl⟩
            rcases List.mem_append.mp m with m | m
            · exact hM i m
            · rw [List.mem_singleton.mp m]
              exact hZ k List.mem_cons_self
          · exact ⟨M, Z', g', rfl, rfl, hM, fun i m => hZ i (List.mem_cons_of_mem _ m), by omega, rfl⟩
      clear g
      rintro st ⟨M, g, hM, hl, rfl⟩
      have tl : lenD (lotD M) = some (.d (.int (M.length : Nat))) := by
        show some (Rv.d (.int ((lotL M).length : Nat))) = _
        rw [lotL_len]
      by_cases e : M = []
      · subst e
        have z : ¬ (0 : Int) < ((([] : Lot).length : Nat) : Int) := by simp
        simp_all only [tl, z]
        exact ⟨g, some (.fz d), some (.fz (lotD [])), rfl, rfl, rfl⟩
      · have z : (0 : Int) < ((M.length : Nat) : Int) := by
          have := pos_len e
          omega
        simp_all only [tl, z]
        refine OkF.use (cutright_ok k0 hM e hl) ?_
        rintro r as' - ⟨rfl, rfl⟩
        simp_all only [true_and]
        exact ⟨g, some (.fz d), some (.fz (lotD M)), rfl, rfl, rfl⟩
  clear g z7 f7 z14 f14
  rintro st ⟨g, z7, z14, rfl⟩
  simp_all only [fp]
  refine OkF.use (tr1 ss ssub (by omega)) ?_
  rintro r as' - ⟨rfl, rfl⟩
  simp_all only [true_and]
  rw [hN]
  simp_all only [true_and]
end Cz

/-! # Hd -/
namespace Cz
open L2 PyProof.Rows PySem.Spec PySem
/-! ## what the top has written, read off by a Hook with one more Bool -/
/-- the object at a is a tuple of these -/
def tupA (K : PySem.W.Frag) (a : Addr) (vs : List He.Dv) : Bool := match K.lookup a with
  | some ⟨.type c, none, .seq its _, _⟩ => decide (c = "tuple") && (decide (its.size ≤ sizeLine) && He.relAll (vs.map (He.Dv.v K)) its.toList)
  | _ => false
theorem tupA_ok {K : PySem.W.Frag} {a : Addr} {vs : List He.Dv} (h : tupA K a vs = true) : (∃ o, K.lookup a = some o ∧ o.cls = .type "tuple" ∧ o.dict = none) ∧ ∀ H : Hp, SqT K H a (vs.map (He.Dv.v K)) := by
  unfold tupA at h
  cases q : K.lookup a with
  | none =>
    rw [q] at h
    cases h
  | some o =>
    obtain ⟨oc, od, dt, osl⟩ := o
    rw [q] at h
    cases oc with
    | type c =>
      cases od with
      | none =>
        cases dt with
        | seq its n =>
          obtain ⟨h1, h2⟩ := He.ba h
          obtain ⟨h3, h4⟩ := He.ba h2
          have e : c = "tuple" := of_decide_eq_true h1
          subst e
          exact ⟨⟨_, rfl, rfl, rfl⟩, fun H => .inr ⟨_, its, n, q, rfl, rfl, of_decide_eq_true h3, He.relAll_ok h4⟩⟩
        | _ => cases h
      | some d => (cases dt <;> cases h)
    | _ => (cases od <;> cases dt <;> cases h)
theorem rp_tupA {K : PySem.W.Frag} {a : Addr} {vs : List He.Dv} (h : tupA K a vs = true) {F : Hp} {ds : List D} (e : RpL K F ds (vs.map (He.Dv.v K))) : Rp K F (.tuk ds) (.ref a) := .tuk ((tupA_ok h).2 F) e
/-- what an object leads to: a def to its code and defaults, a class to its names, a dict or row to what is in it; a code object to nothing -/
def nextY (g : Addr → Option Obj) (a : Addr) : List Addr := match g a with
  | some ob => (match ob.data with
    | .func fd => He.refV fd.code ++ (He.refV fd.defaults ++ He.refV fd.kwdefaults)
    | .cls cd => [cd.ns]
    | .dict es _ => es.toList.flatMap fun e => He.refV e.val
    | .seq its _ => its.toList.flatMap He.refV
    | _ => [])
  | none => []
def stepsY (g : Addr → Option Obj) : Nat → List Addr → List Addr
  | 0, l => l
  | n + 1, l => l ++ stepsY g n (l.flatMap (nextY g))
def asY (g : Addr → Option Obj) (n : Nat) : List Addr := stepsY g n [mainGlobals]
abbrev AlY : Type := He.AlD × Bool
def obsY (n : Nat) (fa : List He.Fa) (fn : List He.DefD) (ex : PySem.W.Frag → Bool) (g : Addr → Option Obj) : AlY := (He.obsD fa fn (He.frG g (asY g n)), ex (He.frG g (asY g n)))
structure SaysY (fa : List He.Fa) (fn : List He.DefD) (ex : PySem.W.Frag → Bool) (K : PySem.W.Frag) : Prop where
  d : He.SaysD fa fn K
  x : ex K = true
def hookY (n : Nat) (fa : List He.Fa) (fn : List He.DefD) (ex : PySem.W.Frag → Bool) : PySem.W.Hook where
  α := AlY
  obs := fun s => obsY n fa fn ex s.heap.get?
  val := fun _ => (He.valD fn, true)
  says := fun _ h => ∃ K : PySem.W.Frag, K.In h ∧ SaysY fa fn ex K
  of := fun _ _ e => ⟨_, He.frG_in, congrArg (fun z : AlY => z.1) e, congrArg (fun z : AlY => z.2) e⟩
  keeps := fun _ _ _ ⟨K, kin, c⟩ k => ⟨K, PySem.W.Frag.In.keeps kin k, c⟩
theorem obsY_eq {n : Nat} {fa : List He.Fa} {fn : List He.DefD} {ex : PySem.W.Frag → Bool} {g : Addr → Option Obj} {s : Shared} (h : ∀ a, g a = s.heap.get? a) : obsY n fa fn ex g = (hookY n fa fn ex).obs s := by
  (have e : g = s.heap.get? := funext h)
  rw [e] <;> rfl
theorem bs {a b : Bool} (h : (a && b) = true) : a = true ∧ b = true := Bool.and_eq_true_iff.mp h
theorem funD_fun {K : PySem.W.Frag} {x qual : Str} {st : Stmt} {f : Addr} {fd : FuncData} (F : FunD K x qual (defArgs st) (defBody st) (defScope st) [] [] f fd) : Fun K x qual st f fd := by
  (obtain ⟨oc, od, dV, kV, doc, pm, an, cdv, ct, osl, rfl, lk, hcd, hD, hK⟩ := F.ex)
  (rcases hD with ⟨_, rfl⟩ | ⟨e, _⟩)
  · exact ⟨⟨oc, od, kV, doc, pm, an, cdv, ct, osl, rfl, lk, hcd⟩, F.kp⟩
  · exact absurd rfl e
/-- a def with defaults, all of whose parameters are written -/
theorem funD_all {K : PySem.W.Frag} {x qual : Str} {params : Arguments} {body : List Stmt} {scope : Scope} {dvs : List V} {kws : List (Str × V)} {f : Addr} {fd : FuncData} {ps : List Str} (F : FunD K x qual params body scope dvs kws f fd)
    (h : ∀ (dV kV doc pm : Value) (an : Option Addr) (cdv ct : Value) (us : List Value), us.length = ps.length → bindArgs (PySem.W.fnOf x qual params body scope dV kV doc pm an cdv ct) ⟨us, []⟩ = pure (ps.zip us)) : Binds K fd ps [] := by
  (obtain ⟨oc, od, dV, kV, doc, pm, an, cdv, ct, osl, rfl, lk, hcd, hD, hK⟩ := F.ex)
  exact .all (h dV kV doc pm an cdv ct)
/-- .. of whose defaults the last ones, all objects, fill up -/
theorem funD_dfl {K : PySem.W.Frag} {x qual : Str} {params : Arguments} {body : List Stmt} {scope : Scope} {as : List Addr} {f : Addr} {fd : FuncData} {ps : List Str} (F : FunD K x qual params body scope (as.map .ref) [] f fd) (n j : Nat) (hd : as ≠ []) (hn : n + (as.length - j) = ps.length)
    (h : ∀ (T : Addr) (kV doc pm : Value) (an : Option Addr) (cdv ct : Value) (us its : List Value), us.length = n → its.length = as.length →
      ∃ k, bindArgs (PySem.W.fnOf x qual params body scope (.ref T) kV doc pm an cdv ct) ⟨us, []⟩ = seqItems? (.ref T) >>= k ∧ k (some its.toArray) = pure (ps.zip (us ++ its.drop j))) : Binds K fd ps ((as.drop j).map .ref) := by
  obtain ⟨ds, r, b⟩ := F.binds1 (ps := ps) n j (fun e => hd (List.map_eq_nil_iff.mp e)) (by rw [List.length_map]; exact hn) (fun T kV doc pm an cdv ct us its h1 h2 => h T kV doc pm an cdv ct us its h1 (by rw [h2, List.length_map]))
  have e : ds = (as.drop j).map .ref := by
    rw [← List.map_drop] at r
    exact go r
  rw [← e]
  exact b
where
  go : ∀ {l : List Addr} {ds : List Value}, Vals (l.map V.ref) ds → ds = l.map Value.ref
    | [], [], _ => rfl
    | a :: l, d :: ds, .cons h r => by rw [List.map_cons, go r, show d = Value.ref a from h]
/-- from a mirror's end to the promise of the law -/
theorem spM_law {K : PySem.W.Frag} {f : MF} {H : Hp} {a : Addr} {ns : List Int} {E : XK} (h : OkF f [.fz (.rol (ns.map .int))] fun r _ => r = .d (.bl true)) (hS : SqL K H a (ns.map V.int)) : spM K f [.ref a] H (fun v _ => v = .bl true) E := by
  refine ⟨H, [.fz (.rol (ns.map .int))], ⟨Sub.refl, rfl, fun i d e => ?_, fun i sv o e e2 => ?_, fun i j si sj oi oj p e e2 => ?_⟩, ?_⟩
  · match i with
    | 0 =>
      have e3 : (SV.fz (.rol (ns.map D.int))) = SV.fz d := Option.some.inj (Option.some.inj e)
      cases e3
      exact ⟨.ref a, rfl, .rol hS (rpI ns)⟩
    | i + 1 => cases e
  · match i with
    | 0 =>
      have e3 : (SV.fz (.rol (ns.map D.int))) = sv := Option.some.inj (Option.some.inj e)
      subst e3
      cases e2
    | i + 1 => cases e
  · match i with
    | 0 =>
      have e3 : (SV.fz (.rol (ns.map D.int))) = si := Option.some.inj (Option.some.inj e)
      subst e3
      cases e2
    | i + 1 => cases e
  · unfold OkF Ok1 at h
    cases e : f [.fz (.rol (ns.map .int))] with
    | ok r s =>
      rw [e] at h
      obtain ⟨as', h1, h2, rfl⟩ := h
      refine ⟨as', svs_eq h1, fun v F' H' g rr _ => ?_⟩
      have rr2 : Rp K F' (.bl true) v := rr
      cases rr2
      rfl
    | ex c l s => rw [e] at h; exact h.elim
    | no => rw [e] at h; exact h.elim
end Cz

/-! # Hk73 -/
namespace Cz
open L2 PyProof.Rows PySem.Spec PySem
/-! ## the head of k73: facts, the run -/
def dd0 : He.DefD := ⟨("_law_bag_of", none), "_law_bag_of", "_law_bag_of", defArgs s_l_bag_of, defBody s_l_bag_of, defScope s_l_bag_of, [], []⟩
def dd1 : He.DefD := ⟨("_law_pick", none), "_law_pick", "_law_pick", defArgs s_l_pick, defBody s_l_pick, defScope s_l_pick, [], []⟩
def dd2 : He.DefD := ⟨("_law_wheel", none), "_law_wheel", "_law_wheel", defArgs s_l_wheel, defBody s_l_wheel, defScope s_l_wheel, [], []⟩
def dd3 : He.DefD := ⟨("_law_one_of", none), "_law_one_of", "_law_one_of", defArgs s_l_one_of, defBody s_l_one_of, defScope s_l_one_of, [], []⟩
def dd4 : He.DefD := ⟨("_law_meet", none), "_law_meet", "_law_meet", defArgs s_l_meet, defBody s_l_meet, defScope s_l_meet, [], []⟩
def dd5 : He.DefD := ⟨("_law_copies_of", none), "_law_copies_of", "_law_copies_of", defArgs s_l_copies_of, defBody s_l_copies_of, defScope s_l_copies_of, [], []⟩
def dd6 : He.DefD := ⟨("_law_mixed_of", none), "_law_mixed_of", "_law_mixed_of", defArgs s_l_mixed_of, defBody s_l_mixed_of, defScope s_l_mixed_of, [], []⟩
def dd7 : He.DefD := ⟨("plain", none), "plain", "plain", defArgs s_plain_g, defBody s_plain_g, defScope s_plain_g, [], []⟩
def dd8 : He.DefD := ⟨("is_integer", none), "is_integer", "is_integer", defArgs s_is_integer_g, defBody s_is_integer_g, defScope s_is_integer_g, [], []⟩
def dd9 : He.DefD := ⟨("is_within", none), "is_within", "is_within", defArgs s_is_within_g, defBody s_is_within_g, defScope s_is_within_g, [], []⟩
def dd10 : He.DefD := ⟨("is_tuple", none), "is_tuple", "is_tuple", defArgs s_is_tuple_g, defBody s_is_tuple_g, defScope s_is_tuple_g, [], []⟩
def dd11 : He.DefD := ⟨("_is_copy", none), "_is_copy", "_is_copy", defArgs s_is_copy_f, defBody s_is_copy_f, defScope s_is_copy_f, [], []⟩
def dd12 : He.DefD := ⟨("_meet", none), "_meet", "_meet", defArgs s_meet_f, defBody s_meet_f, defScope s_meet_f, [], []⟩
def dd13 : He.DefD := ⟨("Layout", some "__init__"), "__init__", "Layout.__init__", defArgs s_Layout_init, defBody s_Layout_init, defScope s_Layout_init, [], []⟩
def dd14 : He.DefD := ⟨("Layout", some "__len__"), "__len__", "Layout.__len__", defArgs s_Layout_len, defBody s_Layout_len, defScope s_Layout_len, [], []⟩
def dd15 : He.DefD := ⟨("is_number_of", none), "is_number_of", "is_number_of", defArgs s_is_number_of_g, defBody s_is_number_of_g, defScope s_is_number_of_g, [], []⟩
def dd16 : He.DefD := ⟨("Layout", some "__getitem__"), "__getitem__", "Layout.__getitem__", defArgs s_Layout_getitem, defBody s_Layout_getitem, defScope s_Layout_getitem, [], []⟩
def dd17 : He.DefD := ⟨("_parts", none), "_parts", "_parts", defArgs s_parts_f, defBody s_parts_f, defScope s_parts_f, [], []⟩
def dd18 : He.DefD := ⟨("first_cut", none), "first_cut", "first_cut", defArgs s_first_cut_g, defBody s_first_cut_g, defScope s_first_cut_g, [], []⟩
def dd19 : He.DefD := ⟨("_cut_through", none), "_cut_through", "_cut_through", defArgs s_cut_through_f, defBody s_cut_through_f, defScope s_cut_through_f, [], []⟩
def dd20 : He.DefD := ⟨("Cuts", some "__init__"), "__init__", "Cuts.__init__", defArgs s_Cuts_init, defBody s_Cuts_init, defScope s_Cuts_init, [], []⟩
def dd21 : He.DefD := ⟨("_law_all_cuts", none), "_law_all_cuts", "_law_all_cuts", defArgs s_l_all_cuts, defBody s_l_all_cuts, defScope s_l_all_cuts, [], []⟩
def dd22 : He.DefD := ⟨("_law_is_int", none), "_law_is_int", "_law_is_int", defArgs s_l_is_int, defBody s_l_is_int, defScope s_l_is_int, [], []⟩
def dd23 : He.DefD := ⟨("_law_same", none), "_law_same", "_law_same", defArgs s_l_same, defBody s_l_same, defScope s_l_same, [], []⟩
def dd24 : He.DefD := ⟨("_law_sides", none), "_law_sides", "_law_sides", defArgs s_l_sides, defBody s_l_sides, defScope s_l_sides, [], []⟩
def dd25 : He.DefD := ⟨("_law_walked", none), "_law_walked", "_law_walked", defArgs s_l_walked, defBody s_l_walked, defScope s_l_walked, [], []⟩
def dd26 : He.DefD := ⟨("Cuts", some "__len__"), "__len__", "Cuts.__len__", defArgs s_Cuts_len, defBody s_Cuts_len, defScope s_Cuts_len, [], []⟩
def dd27 : He.DefD := ⟨("Cuts", some "__bool__"), "__bool__", "Cuts.__bool__", defArgs s_Cuts_bool, defBody s_Cuts_bool, defScope s_Cuts_bool, [], []⟩
def dd28 : He.DefD := ⟨("_law_told_right", none), "_law_told_right", "_law_told_right", defArgs s_l_told_right, defBody s_l_told_right, defScope s_l_told_right, [], []⟩
def dd29 : He.DefD := ⟨("_law_parted", none), "_law_parted", "_law_parted", defArgs s_l_parted, defBody s_l_parted, defScope s_l_parted, [], []⟩
def dd30 : He.DefD := ⟨("_law_cut_right", none), "_law_cut_right", "_law_cut_right", defArgs s_l_cut_right, defBody s_l_cut_right, defScope s_l_cut_right, [], []⟩
def dd31 : He.DefD := ⟨("law", none), "law", "law", defArgs s_law_g, defBody s_law_g, defScope s_law_g, [], []⟩
def dd32 : He.DefD := ⟨("Cuts", some "__iter__"), "__iter__", "Cuts.__iter__", defArgs s_Cuts_iter, defBody s_Cuts_iter, defScope s_Cuts_iter, [], []⟩
abbrev hFn : List He.DefD := [dd0, dd1, dd2, dd3, dd4, dd5, dd6, dd7, dd8, dd9, dd10, dd11, dd12, dd13, dd14, dd15, dd16, dd17, dd18, dd19, dd20, dd21, dd22, dd23, dd24, dd25, dd26, dd27, dd28, dd29, dd30, dd31, dd32]
abbrev hFa : List He.Fa := [.glo "_law_bag_of",
  .glo "_law_pick",
  .glo "_law_wheel",
  .glo "_law_one_of",
  .glo "_law_meet",
  .glo "_law_copies_of",
  .glo "_law_mixed_of",
  .glo "plain",
  .glo "is_integer",
  .glo "is_within",
  .glo "is_tuple",
  .glo "_is_copy",
  .glo "_meet",
  .mkr "Layout",
  .meth "Layout" "__len__",
  .glo "is_number_of",
  .meth "Layout" "__getitem__",
  .glo "_parts",
  .glo "first_cut",
  .glo "_cut_through",
  .mkr "Cuts",
  .glo "_law_all_cuts",
  .glo "_law_is_int",
  .glo "_law_same",
  .glo "_law_sides",
  .glo "_law_walked",
  .meth "Cuts" "__len__",
  .meth "Cuts" "__bool__",
  .glo "_law_told_right",
  .glo "_law_parted",
  .glo "_law_cut_right",
  .glo "law",
  .meth "Cuts" "__iter__",
  .cls "Cuts",
  .glo "Cuts",
  .cls "Layout",
  .glo "Layout",
  .noat "Cuts" "blocks",
  .noat "Cuts" "parting",
  .noat "Layout" "copies",
  .noat "Layout" "height",
  .noat "Layout" "width",
  .free "abs",
  .free "all",
  .free "any",
  .free "bool",
  .free "enumerate",
  .free "int",
  .free "isinstance",
  .free "iter",
  .free "len",
  .free "list",
  .free "max",
  .free "min",
  .free "range",
  .free "set",
  .free "sorted",
  .free "str",
  .free "tuple"]
def hEx (K : PySem.W.Frag) : Bool := PySem.W.fnIn K (He.ma K (He.ga K "Layout") "__getitem__")
abbrev hNames : List Str := (["_wall", "_parts", "first_cut", "_cut_through", "Cuts", "PlateError", "BadLayout", "NoCopy", "plain", "is_integer", "is_within", "is_number_of"] : List Str) ++ (["is_tuple", "_is_copy", "_meet", "Layout", "_law_bag_of", "_law_pick", "_law_one_of", "_law_mixed_of", "_law_is_int", "_law_same", "_law_meet", "_law_wheel"] : List Str) ++ (["_law_copies_of", "_law_sides", "_law_all_cuts", "_law_walked", "_law_parted", "_law_told_right", "_law_cut_right"] : List Str)
abbrev hR : PySem.W.OpenRow := PySem.W.OpenLaw.row PySem.Challenge.rw_strayplates_k73_whole_cuts
abbrev hK : PySem.W.Hook := hookY 5 hFa hFn hEx
def hOb (s : PySem.W.SharedT) : AlY := obsY 5 hFa hFn hEx (HandSHeadRun.getT s)
theorem hOb_eq (s : PySem.W.SharedT) : hOb s = hK.obs s.abs := obsY_eq (HandSHeadRun.getT_eq s)
theorem hRun (w : World) : HandSHeadRun.RunEq hR (PySem.W.view hR.prog [36]) hK hOb 6000 hNames w := by
  intro os
  kernel_rfl
def hA (K : PySem.W.Frag) : Ad := ⟨(He.ga K "Cuts"), (He.ga K "Layout")⟩
def hF (K : PySem.W.Frag) : Fa := ⟨(He.ga K "_law_bag_of"), (He.ga K "_law_pick"), (He.ga K "_law_wheel"), (He.ga K "_law_one_of"), (He.ga K "_law_meet"), (He.ga K "_law_copies_of"), (He.ga K "_law_mixed_of"), (He.ga K "plain"), (He.ga K "is_integer"), (He.ga K "is_within"), (He.ga K "is_tuple"), (He.ga K "_is_copy"), (He.ga K "_meet"), (He.ma K (He.ga K "Layout") "__init__"), (He.ma K (He.ga K "Layout") "__len__"), (He.ga K "is_number_of"), (He.ma K (He.ga K "Layout") "__getitem__"), (He.ga K "_parts"), (He.ga K "first_cut"), (He.ga K "_cut_through"), (He.ma K (He.ga K "Cuts") "__init__"), (He.ga K "_law_all_cuts"), (He.ga K "_law_is_int"), (He.ga K "_law_same"), (He.ga K "_law_sides"), (He.ga K "_law_walked"), (He.ma K (He.ga K "Cuts") "__len__"), (He.ma K (He.ga K "Cuts") "__bool__"), (He.ga K "_law_told_right"), (He.ga K "_law_parted"), (He.ga K "_law_cut_right"), (He.ga K "law"), (He.ma K (He.ga K "Cuts") "__iter__")⟩
theorem hTx {K : PySem.W.Frag} {h : Heap} {mg : Str → Option Value} (X : K.In h) (G : h.Ns mainGlobals mg) (c : SaysY hFa hFn hEx K) : ∃ fd : Fd, Tx K mg (hA K) (hF K) fd ∧ ∀ (s : Shared) (v : Value), BindsTo s fd.law_g ⟨[v], []⟩ [("_law_script", v)] := by
  obtain ⟨fd0, F0⟩ := c.d.def_ 0 (d := dd0) rfl
  obtain ⟨fd1, F1⟩ := c.d.def_ 1 (d := dd1) rfl
  obtain ⟨fd2, F2⟩ := c.d.def_ 2 (d := dd2) rfl
  obtain ⟨fd3, F3⟩ := c.d.def_ 3 (d := dd3) rfl
  obtain ⟨fd4, F4⟩ := c.d.def_ 4 (d := dd4) rfl
  obtain ⟨fd5, F5⟩ := c.d.def_ 5 (d := dd5) rfl
  obtain ⟨fd6, F6⟩ := c.d.def_ 6 (d := dd6) rfl
  obtain ⟨fd7, F7⟩ := c.d.def_ 7 (d := dd7) rfl
  obtain ⟨fd8, F8⟩ := c.d.def_ 8 (d := dd8) rfl
  obtain ⟨fd9, F9⟩ := c.d.def_ 9 (d := dd9) rfl
  obtain ⟨fd10, F10⟩ := c.d.def_ 10 (d := dd10) rfl
  obtain ⟨fd11, F11⟩ := c.d.def_ 11 (d := dd11) rfl
  obtain ⟨fd12, F12⟩ := c.d.def_ 12 (d := dd12) rfl
  obtain ⟨fd13, F13⟩ := c.d.def_ 13 (d := dd13) rfl
  obtain ⟨fd14, F14⟩ := c.d.def_ 14 (d := dd14) rfl
  obtain ⟨fd15, F15⟩ := c.d.def_ 15 (d := dd15) rfl
  obtain ⟨fd16, F16⟩ := c.d.def_ 16 (d := dd16) rfl
  obtain ⟨fd17, F17⟩ := c.d.def_ 17 (d := dd17) rfl
  obtain ⟨fd18, F18⟩ := c.d.def_ 18 (d := dd18) rfl
  obtain ⟨fd19, F19⟩ := c.d.def_ 19 (d := dd19) rfl
  obtain ⟨fd20, F20⟩ := c.d.def_ 20 (d := dd20) rfl
  obtain ⟨fd21, F21⟩ := c.d.def_ 21 (d := dd21) rfl
  obtain ⟨fd22, F22⟩ := c.d.def_ 22 (d := dd22) rfl
  obtain ⟨fd23, F23⟩ := c.d.def_ 23 (d := dd23) rfl
  obtain ⟨fd24, F24⟩ := c.d.def_ 24 (d := dd24) rfl
  obtain ⟨fd25, F25⟩ := c.d.def_ 25 (d := dd25) rfl
  obtain ⟨fd26, F26⟩ := c.d.def_ 26 (d := dd26) rfl
  obtain ⟨fd27, F27⟩ := c.d.def_ 27 (d := dd27) rfl
  obtain ⟨fd28, F28⟩ := c.d.def_ 28 (d := dd28) rfl
  obtain ⟨fd29, F29⟩ := c.d.def_ 29 (d := dd29) rfl
  obtain ⟨fd30, F30⟩ := c.d.def_ 30 (d := dd30) rfl
  obtain ⟨fd31, F31⟩ := c.d.def_ 31 (d := dd31) rfl
  obtain ⟨fd32, F32⟩ := c.d.def_ 32 (d := dd32) rfl
  have e := c.x
  unfold hEx at e
  have e0 := e
  refine ⟨⟨fd0, fd1, fd2, fd3, fd4, fd5, fd6, fd7, fd8, fd9, fd10, fd11, fd12, fd13, fd14, fd15, fd16, fd17, fd18, fd19, fd20, fd21, fd22, fd23, fd24, fd25, fd26, fd27, fd28, fd29, fd30, fd31, fd32⟩, ?_, fun s v => FunD.bindsA (ps := ["_law_script"]) F31 (fun _ _ _ _ _ _ us hl => match us, hl with | [_], _ => rfl) s [v] rfl⟩
  exact {
    F_l_bag_of := funD_fun F0
    B_l_bag_of := FunD.bindsN F0 fun _ _ _ _ _ _ us hl => match us, hl with | [_, _], _ => rfl
    g_l_bag_of := He.glo_ok X G (c.d.fact 0 (f := .glo "_law_bag_of") rfl)
    F_l_pick := funD_fun F1
    B_l_pick := FunD.bindsN F1 fun _ _ _ _ _ _ us hl => match us, hl with | [_, _], _ => rfl
    g_l_pick := He.glo_ok X G (c.d.fact 1 (f := .glo "_law_pick") rfl)
    F_l_wheel := funD_fun F2
    B_l_wheel := FunD.bindsN F2 fun _ _ _ _ _ _ us hl => match us, hl with | [_, _], _ => rfl
    g_l_wheel := He.glo_ok X G (c.d.fact 2 (f := .glo "_law_wheel") rfl)
    F_l_one_of := funD_fun F3
    B_l_one_of := FunD.bindsN F3 fun _ _ _ _ _ _ us hl => match us, hl with | [_, _], _ => rfl
    g_l_one_of := He.glo_ok X G (c.d.fact 3 (f := .glo "_law_one_of") rfl)
    F_l_meet := funD_fun F4
    B_l_meet := FunD.bindsN F4 fun _ _ _ _ _ _ us hl => match us, hl with | [_, _, _], _ => rfl
    g_l_meet := He.glo_ok X G (c.d.fact 4 (f := .glo "_law_meet") rfl)
    F_l_copies_of := funD_fun F5
    B_l_copies_of := FunD.bindsN F5 fun _ _ _ _ _ _ us hl => match us, hl with | [_, _, _], _ => rfl
    g_l_copies_of := He.glo_ok X G (c.d.fact 5 (f := .glo "_law_copies_of") rfl)
    F_l_mixed_of := funD_fun F6
    B_l_mixed_of := FunD.bindsN F6 fun _ _ _ _ _ _ us hl => match us, hl with | [_, _], _ => rfl
    g_l_mixed_of := He.glo_ok X G (c.d.fact 6 (f := .glo "_law_mixed_of") rfl)
    F_plain_g := funD_fun F7
    B_plain_g := FunD.bindsN F7 fun _ _ _ _ _ _ us hl => match us, hl with | [_], _ => rfl
    g_plain_g := He.glo_ok X G (c.d.fact 7 (f := .glo "plain") rfl)
    F_is_integer_g := funD_fun F8
    B_is_integer_g := FunD.bindsN F8 fun _ _ _ _ _ _ us hl => match us, hl with | [_], _ => rfl
    g_is_integer_g := He.glo_ok X G (c.d.fact 8 (f := .glo "is_integer") rfl)
    F_is_within_g := funD_fun F9
    B_is_within_g := FunD.bindsN F9 fun _ _ _ _ _ _ us hl => match us, hl with | [_, _, _], _ => rfl
    g_is_within_g := He.glo_ok X G (c.d.fact 9 (f := .glo "is_within") rfl)
    F_is_tuple_g := funD_fun F10
    B_is_tuple_g := FunD.bindsN F10 fun _ _ _ _ _ _ us hl => match us, hl with | [_, _, _], _ => rfl
    g_is_tuple_g := He.glo_ok X G (c.d.fact 10 (f := .glo "is_tuple") rfl)
    F_is_copy_f := funD_fun F11
    B_is_copy_f := FunD.bindsN F11 fun _ _ _ _ _ _ us hl => match us, hl with | [_], _ => rfl
    g_is_copy_f := He.glo_ok X G (c.d.fact 11 (f := .glo "_is_copy") rfl)
    F_meet_f := funD_fun F12
    B_meet_f := FunD.bindsN F12 fun _ _ _ _ _ _ us hl => match us, hl with | [_, _, _, _], _ => rfl
    g_meet_f := He.glo_ok X G (c.d.fact 12 (f := .glo "_meet") rfl)
    F_Layout_init := funD_fun F13
    B_Layout_init := FunD.bindsN F13 fun _ _ _ _ _ _ us hl => match us, hl with | [_, _, _, _], _ => rfl
    mk_Layout := He.mkr_ok (c.d.fact 13 (f := .mkr "Layout") rfl)
    F_Layout_len := funD_fun F14
    B_Layout_len := FunD.bindsN F14 fun _ _ _ _ _ _ us hl => match us, hl with | [_], _ => rfl
    M_Layout_len := He.meth_ok (c.d.fact 14 (f := .meth "Layout" "__len__") rfl)
    F_is_number_of_g := funD_fun F15
    B_is_number_of_g := FunD.bindsN F15 fun _ _ _ _ _ _ us hl => match us, hl with | [_, _], _ => rfl
    g_is_number_of_g := He.glo_ok X G (c.d.fact 15 (f := .glo "is_number_of") rfl)
    F_Layout_getitem := funD_fun F16
    B_Layout_getitem := FunD.bindsN F16 fun _ _ _ _ _ _ us hl => match us, hl with | [_, _], _ => rfl
    M_Layout_getitem := He.meth_ok (c.d.fact 16 (f := .meth "Layout" "__getitem__") rfl)
    F_parts_f := funD_fun F17
    B_parts_f := FunD.bindsN F17 fun _ _ _ _ _ _ us hl => match us, hl with | [_, _, _, _], _ => rfl
    g_parts_f := He.glo_ok X G (c.d.fact 17 (f := .glo "_parts") rfl)
    F_first_cut_g := funD_fun F18
    B_first_cut_g := FunD.bindsN F18 fun _ _ _ _ _ _ us hl => match us, hl with | [_, _], _ => rfl
    g_first_cut_g := He.glo_ok X G (c.d.fact 18 (f := .glo "first_cut") rfl)
    F_cut_through_f := funD_fun F19
    B_cut_through_f := FunD.bindsN F19 fun _ _ _ _ _ _ us hl => match us, hl with | [_, _], _ => rfl
    g_cut_through_f := He.glo_ok X G (c.d.fact 19 (f := .glo "_cut_through") rfl)
    F_Cuts_init := funD_fun F20
    B_Cuts_init := FunD.bindsN F20 fun _ _ _ _ _ _ us hl => match us, hl with | [_, _], _ => rfl
    mk_Cuts := He.mkr_ok (c.d.fact 20 (f := .mkr "Cuts") rfl)
    F_l_all_cuts := funD_fun F21
    B_l_all_cuts := FunD.bindsN F21 fun _ _ _ _ _ _ us hl => match us, hl with | [_, _, _], _ => rfl
    g_l_all_cuts := He.glo_ok X G (c.d.fact 21 (f := .glo "_law_all_cuts") rfl)
    F_l_is_int := funD_fun F22
    B_l_is_int := FunD.bindsN F22 fun _ _ _ _ _ _ us hl => match us, hl with | [_], _ => rfl
    g_l_is_int := He.glo_ok X G (c.d.fact 22 (f := .glo "_law_is_int") rfl)
    F_l_same := funD_fun F23
    B_l_same := FunD.bindsN F23 fun _ _ _ _ _ _ us hl => match us, hl with | [_, _], _ => rfl
    g_l_same := He.glo_ok X G (c.d.fact 23 (f := .glo "_law_same") rfl)
    F_l_sides := funD_fun F24
    B_l_sides := FunD.bindsN F24 fun _ _ _ _ _ _ us hl => match us, hl with | [_, _, _, _], _ => rfl
    g_l_sides := He.glo_ok X G (c.d.fact 24 (f := .glo "_law_sides") rfl)
    F_l_walked := funD_fun F25
    B_l_walked := FunD.bindsN F25 fun _ _ _ _ _ _ us hl => match us, hl with | [_, _, _], _ => rfl
    g_l_walked := He.glo_ok X G (c.d.fact 25 (f := .glo "_law_walked") rfl)
    F_Cuts_len := funD_fun F26
    B_Cuts_len := FunD.bindsN F26 fun _ _ _ _ _ _ us hl => match us, hl with | [_], _ => rfl
    M_Cuts_len := He.meth_ok (c.d.fact 26 (f := .meth "Cuts" "__len__") rfl)
    F_Cuts_bool := funD_fun F27
    B_Cuts_bool := FunD.bindsN F27 fun _ _ _ _ _ _ us hl => match us, hl with | [_], _ => rfl
    M_Cuts_bool := He.meth_ok (c.d.fact 27 (f := .meth "Cuts" "__bool__") rfl)
    F_l_told_right := funD_fun F28
    B_l_told_right := FunD.bindsN F28 fun _ _ _ _ _ _ us hl => match us, hl with | [_, _, _], _ => rfl
    g_l_told_right := He.glo_ok X G (c.d.fact 28 (f := .glo "_law_told_right") rfl)
    F_l_parted := funD_fun F29
    B_l_parted := FunD.bindsN F29 fun _ _ _ _ _ _ us hl => match us, hl with | [_, _, _], _ => rfl
    g_l_parted := He.glo_ok X G (c.d.fact 29 (f := .glo "_law_parted") rfl)
    F_l_cut_right := funD_fun F30
    B_l_cut_right := FunD.bindsN F30 fun _ _ _ _ _ _ us hl => match us, hl with | [_, _, _, _], _ => rfl
    g_l_cut_right := He.glo_ok X G (c.d.fact 30 (f := .glo "_law_cut_right") rfl)
    F_law_g := funD_fun F31
    B_law_g := FunD.bindsN F31 fun _ _ _ _ _ _ us hl => match us, hl with | [_], _ => rfl
    g_law_g := He.glo_ok X G (c.d.fact 31 (f := .glo "law") rfl)
    F_Cuts_iter := funD_fun F32
    B_Cuts_iter := FunD.bindsN F32 fun _ _ _ _ _ _ us hl => match us, hl with | [_], _ => rfl
    M_Cuts_iter := He.meth_ok (c.d.fact 32 (f := .meth "Cuts" "__iter__") rfl)
    fn_Layout_getitem := e0
    L_Cuts := He.cls_ok (c.d.fact 33 (f := .cls "Cuts") rfl)
    c_Cuts := He.glo_ok X G (c.d.fact 34 (f := .glo "Cuts") rfl)
    L_Layout := He.cls_ok (c.d.fact 35 (f := .cls "Layout") rfl)
    c_Layout := He.glo_ok X G (c.d.fact 36 (f := .glo "Layout") rfl)
    n_Cuts_blocks := fun C hC => by
      obtain rfl := List.mem_singleton.mp hC
      exact ⟨He.cls_ok (c.d.fact 33 (f := .cls "Cuts") rfl), He.noat_ok (c.d.fact 37 (f := .noat "Cuts" "blocks") rfl)⟩
    n_Cuts_parting := fun C hC => by
      obtain rfl := List.mem_singleton.mp hC
      exact ⟨He.cls_ok (c.d.fact 33 (f := .cls "Cuts") rfl), He.noat_ok (c.d.fact 38 (f := .noat "Cuts" "parting") rfl)⟩
    n_Layout_copies := fun C hC => by
      obtain rfl := List.mem_singleton.mp hC
      exact ⟨He.cls_ok (c.d.fact 35 (f := .cls "Layout") rfl), He.noat_ok (c.d.fact 39 (f := .noat "Layout" "copies") rfl)⟩
    n_Layout_height := fun C hC => by
      obtain rfl := List.mem_singleton.mp hC
      exact ⟨He.cls_ok (c.d.fact 35 (f := .cls "Layout") rfl), He.noat_ok (c.d.fact 40 (f := .noat "Layout" "height") rfl)⟩
    n_Layout_width := fun C hC => by
      obtain rfl := List.mem_singleton.mp hC
      exact ⟨He.cls_ok (c.d.fact 35 (f := .cls "Layout") rfl), He.noat_ok (c.d.fact 41 (f := .noat "Layout" "width") rfl)⟩
    b_abs := He.free_ok X G (c.d.fact 42 (f := .free "abs") rfl)
    b_all := He.free_ok X G (c.d.fact 43 (f := .free "all") rfl)
    b_any := He.free_ok X G (c.d.fact 44 (f := .free "any") rfl)
    b_bool := He.free_ok X G (c.d.fact 45 (f := .free "bool") rfl)
    b_enumerate := He.free_ok X G (c.d.fact 46 (f := .free "enumerate") rfl)
    b_int := He.free_ok X G (c.d.fact 47 (f := .free "int") rfl)
    b_isinstance := He.free_ok X G (c.d.fact 48 (f := .free "isinstance") rfl)
    b_iter := He.free_ok X G (c.d.fact 49 (f := .free "iter") rfl)
    b_len := He.free_ok X G (c.d.fact 50 (f := .free "len") rfl)
    b_list := He.free_ok X G (c.d.fact 51 (f := .free "list") rfl)
    b_max := He.free_ok X G (c.d.fact 52 (f := .free "max") rfl)
    b_min := He.free_ok X G (c.d.fact 53 (f := .free "min") rfl)
    b_range := He.free_ok X G (c.d.fact 54 (f := .free "range") rfl)
    b_set := He.free_ok X G (c.d.fact 55 (f := .free "set") rfl)
    b_sorted := He.free_ok X G (c.d.fact 56 (f := .free "sorted") rfl)
    b_str := He.free_ok X G (c.d.fact 57 (f := .free "str") rfl)
    b_tuple := He.free_ok X G (c.d.fact 58 (f := .free "tuple") rfl) }
end Cz
open PyProof.Rows PySem.Calls PySem.W PySem
theorem Cz.hSaid : (OpenLaw.row PySem.Challenge.rw_strayplates_k73_whole_cuts).wellSaid = true := by decide +kernel
theorem Cz.hBare : (OpenLaw.row PySem.Challenge.rw_strayplates_k73_whole_cuts).prog.bare := ⟨rfl, rfl, rfl, rfl, rfl, by decide +kernel⟩
theorem Cz.hWell : (chainsOk (view (OpenLaw.row PySem.Challenge.rw_strayplates_k73_whole_cuts).prog [36]) && opensWell (OpenLaw.row PySem.Challenge.rw_strayplates_k73_whole_cuts).prog && (frees (OpenLaw.row PySem.Challenge.rw_strayplates_k73_whole_cuts).toRowW && (OpenLaw.row PySem.Challenge.rw_strayplates_k73_whole_cuts).within.isEmpty)) = true := by decide +kernel
set_option maxHeartbeats 0 in
theorem PySem.Challenge.cw_strayplates_k73_whole_cuts_holds : PySem.Challenge.rw_strayplates_k73_whole_cuts.Holds := by
  w_on; o_law
  refine HandSHeadRun.head_any (r := OpenLaw.row PySem.Challenge.rw_strayplates_k73_whole_cuts) (q := view (OpenLaw.row PySem.Challenge.rw_strayplates_k73_whole_cuts).prog [36]) (H := Cz.hK) (ob := Cz.hOb) (M := 6000) (loose := Cz.hNames) (d := HandSHeadRun.topDef (OpenLaw.row PySem.Challenge.rw_strayplates_k73_whole_cuts).prog 36) (kwd := []) Cz.hOb_eq
    (by kernel_rfl) (fun s => by kernel_rfl) Cz.hRun (by kernel_rfl) (by kernel_rfl) (by kernel_rfl) (by rfl) Cz.hSaid Cz.hWell Cz.hBare ?hw ?hc
  case hw => w_witness2
  case hc =>
    refine L2.walk_ofE (l := PySem.Challenge.rw_strayplates_k73_whole_cuts) (n := 63) (k := 20) (x := "_law_script") (CX := L2.CX0) rfl (by decide) (by kernel_rfl) ⟨rfl, by decide, by decide⟩ ?F (fun _ _ _ _ z => z)
    intro w mg fa h Y G hmg0
    obtain ⟨K, KX, c⟩ := Y
    have atLaw : mg ("law" : PySem.Str) = some (.ref fa) := by
      have e : (HandSHeadRun.topDef (OpenLaw.row PySem.Challenge.rw_strayplates_k73_whole_cuts).prog 36).name = ("law" : PySem.Str) := by kernel_rfl
      rw [← e]
      exact hmg0
    obtain ⟨fd, T, hb⟩ := Cz.hTx KX G c
    have e : fa = (Cz.hF K).law_g := by
      exact Value.ref.inj (Option.some.inj (atLaw.symm.trans T.g_law_g))
    subst e
    exact ⟨K, fd.law_g, Cz.spM K (Cz.f_law_g (Cz.hA K)), KX, hb, fun H a ns hl _ hS => Cz.spM_law Cz.law_ok hS, fun base _ Gb => by
      obtain ⟨fd2, T2, _⟩ := Cz.hTx KX G c
      exact Cz.ok_law_g T⟩

